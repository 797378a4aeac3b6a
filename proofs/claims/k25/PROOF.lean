import PyProof.Rows.All
import Wide.All
import OpenK.AllK
import Wide.FinOn
import Lean
import PyProof.EqAt
import PyProof.EqKinds
import PyProof.TupleCall
import PyProof.NeKinds
import KE.KRevIter
import PyProof.EnumStmt
import PyProof.StationsW
import PyProof.ExcClass3
import PyProof.InstStoreFacts
import PyProof.StrCalls
import PyProof.StrCalls2
import PyProof.StrWalks
import PyProof.StrBlockG
import PyProof.ConsumeWalk
import PyProof.StrOps2
import KE.KIntText
import KE.IntTextText
import PyProof.JoinWalk
import PyProof.CollectIter
import PyProof.StrLawsTight
import PyProof.StrLawsChain
import PyProof.Conv_int_bool
import PyProof.MinMaxWalk
import PyProof.WalksMore
import PyProof.WalkInts
import PyProof.ZipIter
import PyProof.DictWalks
import PySem.Challenge.RW_heightfractions_k25_barred_by_few_spots
set_option Elab.async false
set_option linter.all false
set_option maxRecDepth 100000
set_option maxHeartbeats 4000000
namespace L2
open PySem PySem.Spec PyProof.Rows
abbrev Key := Sum Int Str
def keyIs : Key → Value → Bool
  | .inl k, v => Value.isInt k v
  | .inr x, v => Value.isStrOf x v
def keyH (w : World) : Key → Int
  | .inl k => hashInt k
  | .inr x => hashStr w x
theorem keyIs_shape : ∀ {k : Key} {v : Value}, keyIs k v = true → (∃ i t, k = Sum.inl i ∧ v = Value.int i t) ∨ (∃ x t, k = Sum.inr x ∧ v = Value.str x t)
  | .inl i, v, h => by
    obtain ⟨t, e⟩ := Value.isInt_shape (k := i) (v := v) h
    exact .inl ⟨i, t, rfl, e⟩
  | .inr x, v, h => by
    obtain ⟨t, e⟩ := Value.isStrOf_shape (x := x) (v := v) h
    exact .inr ⟨x, t, rfl, e⟩
theorem key_ll (a b : Int) : decide ((Sum.inl a : Key) = Sum.inl b) = (a == b) := by
  by_cases e : a = b
  · subst e; simp
  · have h : ¬ (Sum.inl a : Key) = Sum.inl b := fun q => e (Sum.inl.inj q)
    rw [decide_eq_false h]
    exact (beq_eq_false_iff_ne.mpr e).symm
theorem key_rr (a b : Str) : decide ((Sum.inr a : Key) = Sum.inr b) = decide (a = b) := by
  by_cases e : a = b
  · subst e; simp
  · have h : ¬ (Sum.inr a : Key) = Sum.inr b := fun q => e (Sum.inr.inj q)
    rw [decide_eq_false h, decide_eq_false e]
theorem key_lr (a : Int) (b : Str) : decide ((Sum.inl a : Key) = Sum.inr b) = false := decide_eq_false (fun q => nomatch q)
theorem key_rl (a : Str) (b : Int) : decide ((Sum.inr a : Key) = Sum.inl b) = false := decide_eq_false (fun q => nomatch q)
def mixKind (prog : Program) (w : World) : PySem.KeyKind prog w Key where
  is := keyIs
  hash := keyH w
  inj := fun v a b ha hb => by
    rcases keyIs_shape ha with ⟨i, t, rfl, rfl⟩ | ⟨x, t, rfl, rfl⟩
    · rcases keyIs_shape hb with ⟨j, u, rfl, e⟩ | ⟨y, u, rfl, e⟩
      · injection e with e1 _; rw [e1]
      · exact nomatch e
    · rcases keyIs_shape hb with ⟨j, u, rfl, e⟩ | ⟨y, u, rfl, e⟩
      · exact nomatch e
      · injection e with e1 _; rw [e1]
  byValue := fun k v h => by
    rcases keyIs_shape h with ⟨i, t, rfl, rfl⟩ | ⟨x, t, rfl, rfl⟩ <;> rfl
  pyHash := fun hv h => by
    rcases keyIs_shape hv with ⟨i, t, rfl, rfl⟩ | ⟨x, t, rfl, rfl⟩
    · exact wpAny_pyHash_int h
    · exact wpAny_pyHash_str h
  eqBool := fun hu hv h => by
    rcases keyIs_shape hu with ⟨i, t, rfl, rfl⟩ | ⟨x, t, rfl, rfl⟩
    · rcases keyIs_shape hv with ⟨j, u, rfl, rfl⟩ | ⟨y, u, rfl, rfl⟩
      · rw [key_ll] at h; exact wpAny_eqBool_int h
      · rw [key_lr] at h; exact SeqAt.EqAt.int_str i t y u _ _ _ _ h
    · rcases keyIs_shape hv with ⟨j, u, rfl, rfl⟩ | ⟨y, u, rfl, rfl⟩
      · rw [key_rl] at h; exact SeqAt.EqAt.str_int x t j u _ _ _ _ h
      · rw [key_rr] at h; exact wpAny_eqBool_str h
  «strs» := fun k x t v h => by
    rcases keyIs_shape h with ⟨i, u, rfl, e⟩ | ⟨y, u, rfl, e⟩
    · exact nomatch e
    · injection e with e1 _
      subst e1
      cases v <;> rfl
end L2
namespace L2
open PySem PySem.Spec PyProof.Rows
inductive V where
  | non | bl (b : Bool) | int (i : Int) | str (x : Str) | byt (b : Array UInt8) | flt (b : UInt64) | ref (a : Addr) | ty (n : String)
  deriving DecidableEq
def RelV : V → Value → Prop
  | .non, u => u = Value.none
  | .bl b, u => u = Value.bool b
  | .int i, u => ∃ t, u = Value.int i t
  | .str x, u => ∃ t, u = Value.str x t
  | .byt b, u => ∃ t, u = Value.bytes b t
  | .flt b, u => ∃ t, u = Value.float b t
  | .ref a, u => u = Value.ref a
  | .ty n, u => u = Value.type n
abbrev Vals : List V → List Value → Prop := Paired RelV
theorem Vals.length {xs : List V} {us : List Value} (r : Vals xs us) : xs.length = us.length := Paired.length r
theorem Vals.get : ∀ {xs : List V} {us : List Value} {i : Nat} {x : V}, Vals xs us → xs[i]? = some x → ∃ u, us[i]? = some u ∧ RelV x u
  | _, _, _, _, .nil, e => by simp at e
  | _, _, 0, _, .cons r _, e => by simp at e; subst e; exact ⟨_, rfl, r⟩
  | _, _, i + 1, x, .cons _ t, e => by
    obtain ⟨u, h1, h2⟩ := Vals.get (i := i) (x := x) t (by simpa using e)
    exact ⟨u, by simpa using h1, h2⟩
theorem Vals.set {x : V} {u : Value} (r : RelV x u) : ∀ {xs : List V} {us : List Value} (i : Nat), Vals xs us → Vals (xs.set i x) (us.set i u)
  | _, _, _, .nil => .nil
  | _, _, 0, .cons _ t => .cons r t
  | _, _, i + 1, .cons q t => .cons q (Vals.set r i t)
theorem Vals.append : ∀ {xs ys : List V} {us ws : List Value}, Vals xs us → Vals ys ws → Vals (xs ++ ys) (us ++ ws)
  | _, _, _, _, .nil, s => s
  | _, _, _, _, .cons r t, s => .cons r (Vals.append t s)
theorem Vals.take : ∀ {xs : List V} {us : List Value} (n : Nat), Vals xs us → Vals (xs.take n) (us.take n)
  | _, _, 0, _ => .nil
  | _, _, _ + 1, .nil => .nil
  | _, _, n + 1, .cons r t => .cons r (Vals.take n t)
theorem Vals.drop : ∀ {xs : List V} {us : List Value} (n : Nat), Vals xs us → Vals (xs.drop n) (us.drop n)
  | _, _, 0, r => r
  | _, _, _ + 1, .nil => .nil
  | _, _, n + 1, .cons _ t => Vals.drop n t
def RelO : Option V → Option Value → Prop
  | some v, some u => RelV v u
  | none, none => True
  | _, _ => False
def KV {κ : Type} : List (κ × V) → List (κ × Value) → Prop := Paired fun (p : κ × V) (q : κ × Value) => p.1 = q.1 ∧ RelV p.2 q.2
def kV : Key → V
  | .inl i => .int i
  | .inr x => .str x
inductive HO where
  | lst (xs : List V)
  | tup (xs : List V)
  | dK (kvs : List (Key × V)) | dT (kvs : List (List Key × V))
  | set (S : Int → Bool) (n : Nat)
  | ins (C dx : Addr) (fs : List (Str × V))
  | own (x : Addr)
  | xd (fs : List (Str × V))
  | met (f x : Addr)
  | rng (lo hi : Int)
  | frz (o : Obj) (u : HO)
  | tbl (ps : Array Value)
  | ext (φ : Heap → Prop)
abbrev Hp := Addr → Option HO
def upd (H : Hp) (a : Addr) (o : HO) : Hp := fun b => if b = a then some o else H b
theorem upd_same {H : Hp} {a : Addr} {o : HO} : upd H a o a = some o := by unfold upd; rw [if_pos rfl]
theorem upd_ne {H : Hp} {a b : Addr} {o : HO} (h : b ≠ a) : upd H a o b = H b := by unfold upd; rw [if_neg h]
theorem ne_of_none {H : Hp} {a b : Addr} {o : HO} (h : H a = some o) (h' : H b = none) : a ≠ b := by
  intro e; subst e; rw [h] at h'; cases h'
section
variable (P : Program) (w : World)
def ObjOk (H : Hp) (h : Heap) (a : Addr) : HO → Prop
  | .lst xs => xs.length ≤ sizeLine ∧ ∃ (its : List Value) (n : Nat), Vals xs its ∧ h.get? a = some { cls := .type "list", data := .seq its.toArray n }
  | .tup xs => xs.length ≤ sizeLine ∧ ∃ its : List Value, Vals xs its ∧ IsTup h a its.toArray
  | .dK kvs => kvs.length ≤ sizeLine ∧ (a == sysModules) = false ∧ ∃ vs, KV kvs vs ∧ h.DictOf (mixKind P w) a vs
  | .dT kvs => kvs.length ≤ sizeLine ∧ (a == sysModules) = false ∧ ∃ xs : List (List Key × Addr × Value),
      Paired (fun (p : List Key × V) (q : List Key × Addr × Value) => p.1 = q.1 ∧ H q.2.1 = some (.tup (p.1.map kV)) ∧ RelV p.2 q.2.2) kvs xs ∧
      ∃ o es ep, h.get? a = some o ∧ o.ExactDict ∧ o.data = .dict es ep ∧ es.toList = xs.map (entryOfKey (tupleKind (mixKind P w))) ∧ (xs.map (·.1)).Nodup
  | .set S n => h.SetOf (intKind P w) a S n
  | .ins C dx fs => H dx = some (.own a) ∧ fs.length ≤ 1000 ∧ dx ≠ a ∧ h.get? a = some (PySem.W.instObj C dx) ∧
      ∃ mA, h.Ns1 dx mA ∧ (∀ f, RelO (fs.lookup f) (mA f)) ∧ PySem.Within mA (fs.map (·.1))
  | .own _ => ∃ o, h.get? a = some o
  | .xd fs => ∃ mA, h.Ns1 a mA ∧ ∀ f, RelO (fs.lookup f) (mA f)
  | .rng lo hi => ∃ t u v, h.get? a = some { cls := .type "range", data := .fields #[.int lo t, .int hi u, .int 1 v] }
  | .frz o u => h.get? a = some o ∧ ObjOk H h a u
  | .tbl ps => h.get? a = some { cls := .none, data := .fields ps }
  | .met f x => h.get? a = some (PySem.W.methodObj (.ref f) (.ref x))
  | .ext φ => φ h ∧ (∃ o, h.get? a = some o) ∧ ∀ h1 h2 : Heap, φ h1 → (∀ o, h1.get? a = some o → h2.get? a = some o) → φ h2
def HOk (H : Hp) (h : Heap) : Prop := ∀ a o, H a = some o → ObjOk P w H h a o
end
section
variable {P : Program} {w : World} {H H' : Hp} {h h' : Heap} {a : Addr} {o : HO}
theorem ObjOk.lt (x : ObjOk P w H h a o) : a < h.objs.size := by
  cases o with
  | lst xs => obtain ⟨_, _, _, _, e⟩ := x; exact Heap.lt_size e
  | tup xs => obtain ⟨_, _, _, p⟩ := x; exact p.lt
  | dK kvs => obtain ⟨_, _, _, _, o, _, _, e, _⟩ := x; exact Heap.lt_size e
  | dT kvs => obtain ⟨_, _, _, _, o, _, _, e, _⟩ := x; exact Heap.lt_size e
  | set S n => obtain ⟨o, _, _, _, e, _⟩ := x; exact Heap.lt_size e
  | ins C dx fs => obtain ⟨_, _, _, e, _⟩ := x; exact Heap.lt_size e
  | own y => obtain ⟨_, e⟩ := x; exact Heap.lt_size e
  | xd fs => obtain ⟨_, ⟨_, _, _, e, _⟩, _⟩ := x; exact Heap.lt_size e
  | rng lo hi => obtain ⟨_, _, _, e⟩ := x; exact Heap.lt_size e
  | frz ob u => obtain ⟨e, _⟩ := x; exact Heap.lt_size e
  | tbl ps => exact Heap.lt_size (show h.get? a = some _ from x)
  | met f y => exact Heap.lt_size (show h.get? a = some _ from x)
  | ext φ => obtain ⟨_, ⟨_, e⟩, _⟩ := x; exact Heap.lt_size e
theorem Paired.mapP {α β : Type} {F G : α → β → Prop} : ∀ {l₁ : List α} {l₂ : List β}, Paired F l₁ l₂ → (∀ a b, F a b → G a b) → Paired G l₁ l₂
  | _, _, .nil, _ => .nil
  | _, _, .cons r t, f => .cons (f _ _ r) (Paired.mapP t f)
theorem ObjOk.stay (x : ObjOk P w H h a o) (k : ∀ b u, (b = a ∨ H b = some (.own a)) → h.get? b = some u → h'.get? b = some u)
    (ho : ∀ b, H b = some (.own a) → H' b = some (.own a)) (ht : ∀ b xs, H b = some (.tup xs) → H' b = some (.tup xs)) : ObjOk P w H' h' a o := by
  induction o with
  | lst xs => obtain ⟨z, its, n, r, e⟩ := x; exact ⟨z, its, n, r, k _ _ (.inl rfl) e⟩
  | tup xs => obtain ⟨z, its, r, ob, e, c⟩ := x; exact ⟨z, its, r, ob, k _ _ (.inl rfl) e, c⟩
  | dK kvs => obtain ⟨z, y, vs, r, ob, es, ep, e, c⟩ := x; exact ⟨z, y, vs, r, ob, es, ep, k _ _ (.inl rfl) e, c⟩
  | dT kvs =>
    obtain ⟨z, y, xs, r, ob, es, ep, e, c⟩ := x
    exact ⟨z, y, xs, Paired.mapP r fun p q z => ⟨z.1, ht _ _ z.2.1, z.2.2⟩, ob, es, ep, k _ _ (.inl rfl) e, c⟩
  | set S n => obtain ⟨ob, es, ep, t, e, c⟩ := x; exact ⟨ob, es, ep, t, k _ _ (.inl rfl) e, c⟩
  | ins C dx fs =>
    obtain ⟨d, z, ne, e, mA, ⟨od, es, ep, e2, c⟩, r⟩ := x
    exact ⟨ho _ d, z, ne, k _ _ (.inl rfl) e, mA, ⟨od, es, ep, k _ _ (.inr d) e2, c⟩, r⟩
  | own y => obtain ⟨ob, e⟩ := x; exact ⟨ob, k _ _ (.inl rfl) e⟩
  | xd fs => obtain ⟨mA, ⟨od, es, ep, e, c⟩, r⟩ := x; exact ⟨mA, ⟨od, es, ep, k _ _ (.inl rfl) e, c⟩, r⟩
  | rng lo hi => obtain ⟨t, u, v, e⟩ := x; exact ⟨t, u, v, k _ _ (.inl rfl) e⟩
  | frz ob u ih => obtain ⟨e, q⟩ := x; exact ⟨k _ _ (.inl rfl) e, ih q⟩
  | tbl ps =>
    have e : h.get? a = some { cls := .none, data := .fields ps } := x
    show h'.get? a = some { cls := .none, data := .fields ps }
    exact k a _ (.inl rfl) e
  | met f y =>
    have e : h.get? a = some (PySem.W.methodObj (.ref f) (.ref y)) := x
    show h'.get? a = some (PySem.W.methodObj (.ref f) (.ref y))
    exact k a _ (.inl rfl) e
  | ext φ => obtain ⟨p, ⟨o, e⟩, st⟩ := x; exact ⟨st _ _ p fun o q => k _ _ (.inl rfl) q, ⟨o, k _ _ (.inl rfl) e⟩, st⟩
theorem HOk.lt (x : HOk P w H h) (e : H a = some o) : a < h.objs.size := (x a o e).lt
theorem HOk.fresh (x : HOk P w H h) (e : h.objs.size ≤ a) : H a = none := by
  cases q : H a with
  | none => rfl
  | some u => exact absurd (Nat.lt_of_lt_of_le (x.lt q) e) (Nat.lt_irrefl _)
theorem HOk.kept (x : HOk P w H h) (k : ∀ b u, h.get? b = some u → h'.get? b = some u) : HOk P w H h' := fun a o e =>
  (x a o e).stay (fun b u _ q => k b u q) (fun _ q => q) fun _ _ q => q
theorem HOk.laid (x : HOk P w H h) (k : ∀ b u, h.get? b = some u → h'.get? b = some u) (hp : h.objs.size ≤ a) (new : ObjOk P w (upd H a o) h' a o) : HOk P w (upd H a o) h' := fun b u e => by
  have hn := x.fresh hp
  by_cases hb : b = a
  · subst hb; rw [upd_same] at e; cases e; exact new
  · rw [upd_ne hb] at e
    exact (x b u e).stay (fun c v _ q => k c v q) (fun c q => by rw [upd_ne (ne_of_none q hn)]; exact q) fun c xs q => by rw [upd_ne (ne_of_none q hn)]; exact q
end
def Rd (H : Hp) (a : Addr) (u : HO) : Prop := H a = some u ∨ ∃ o, H a = some (.frz o u)
theorem Rd.of {H : Hp} {a : Addr} {u : HO} (h : H a = some u) : Rd H a u := .inl h
theorem Rd.ok {P : Program} {w : World} {H : Hp} {h : Heap} {a : Addr} {u : HO} (r : Rd H a u) (x : HOk P w H h) : ObjOk P w H h a u := by
  rcases r with r | ⟨o, r⟩
  · exact x a u r
  · obtain ⟨_, q⟩ := x a _ r
    exact q
def Mut : Option HO → Prop
  | some (.lst _) => True
  | some (.dK _) => True
  | some (.dT _) => True
  | some (.set _ _) => True
  | some (.ins _ _ _) => True
  | some (.ext _) => True
  | _ => False
section
variable {P : Program} {w : World} {H : Hp} {h h' : Heap} {x e : Addr} {o' : HO}
theorem HOk.write (ok : HOk P w H h) (mu : Mut (H x)) (he : e = x ∨ H e = some (.own x)) (k : ∀ b u, b ≠ e → h.get? b = some u → h'.get? b = some u) (heo : ∃ u, h'.get? e = some u)
    (new : ObjOk P w (upd H x o') h' x o') : HOk P w (upd H x o') h' := fun b u q => by
  have nown : ∀ c y, H c = some (.own y) → c ≠ x := fun c y r z => by subst z; rw [r] at mu; exact mu
  have ntup : ∀ c xs, H c = some (.tup xs) → c ≠ x := fun c xs r z => by subst z; rw [r] at mu; exact mu
  by_cases hb : b = x
  · subst hb; rw [upd_same] at q; cases q; exact new
  · rw [upd_ne hb] at q
    by_cases hbe : b = e
    · have q' : H b = some (.own x) := by
        rcases he with z | z
        · exact absurd (hbe.trans z) hb
        · rw [hbe]; exact z
      rw [q] at q'; cases q'
      obtain ⟨v, hv⟩ := heo
      exact ⟨v, by rw [hbe]; exact hv⟩
    · refine (ok b u q).stay (fun c v hc r => k c v ?_ r) (fun c r => by rw [upd_ne (nown c b r)]; exact r) fun c xs r => by rw [upd_ne (ntup c xs r)]; exact r
      rcases hc with rfl | hc
      · exact hbe
      · rintro rfl
        rcases he with z | z
        · exact nown c b hc z
        · rw [hc] at z; cases z; exact hb rfl
end
structure Un (fs ex : List Addr) (H H' : Hp) (h h' : Heap) : Prop where
  keep : ∀ b o, h.get? b = some o → H b = none → b ∉ fs → b ∉ ex → h'.get? b = some o
  slot : ∀ b o, h.get? b = some o → H b = none → b ∈ fs → b ∉ ex → ∃ sl, h'.get? b = some { o with slots := sl }
  free : ∀ b o, h.get? b = some o → H b = none → b ∉ ex → H' b = none
  there : ∀ b o, h.get? b = some o → b ∉ ex → ∃ o', h'.get? b = some o'
  tups : ∀ b xs, H b = some (.tup xs) → H' b = some (.tup xs)
  frzs : ∀ b o u, H b = some (.frz o u) → H' b = some (.frz o u)
  tbls : ∀ b ps, H b = some (.tbl ps) → ∃ more, H' b = some (.tbl (ps ++ more))
section
variable {fs fs' ex ex' : List Addr} {H H1 H2 : Hp} {h h1 h2 h' : Heap} {a x e : Addr} {o : HO}
theorem Un.any (u : Un fs ex H H1 h h1) {b : Addr} {ob : Obj} (q : h.get? b = some ob) (n : H b = none) (hx : b ∉ ex) : ∃ sl, h1.get? b = some { ob with slots := sl } := by
  by_cases hb : b ∈ fs
  · exact u.slot b ob q n hb hx
  · exact ⟨ob.slots, u.keep b ob q n hb hx⟩
theorem Un.trans (a : Un fs ex H H1 h h1) (b : Un fs ex H1 H2 h1 h2) : Un fs ex H H2 h h2 where
  keep := fun c ob q n hc hx => b.keep c ob (a.keep c ob q n hc hx) (a.free c ob q n hx) hc hx
  slot := fun c ob q n hc hx => by
    obtain ⟨sl, e1⟩ := a.slot c ob q n hc hx
    obtain ⟨sl', e2⟩ := b.slot c _ e1 (a.free c ob q n hx) hc hx
    exact ⟨sl', e2⟩
  free := fun c ob q n hx => by
    obtain ⟨o', e1⟩ := a.there c ob q hx
    exact b.free c o' e1 (a.free c ob q n hx) hx
  there := fun c ob q hx => by
    obtain ⟨o', e1⟩ := a.there c ob q hx
    exact b.there c o' e1 hx
  tups := fun c xs q => b.tups c xs (a.tups c xs q)
  frzs := fun c ob xs q => b.frzs c ob xs (a.frzs c ob xs q)
  tbls := fun c ps q => by
    obtain ⟨m1, e1⟩ := a.tbls c ps q
    obtain ⟨m2, e2⟩ := b.tbls c _ e1
    exact ⟨m1 ++ m2, by rw [e2, Array.append_assoc]⟩
theorem Un.kept (k : ∀ b u, h.get? b = some u → h'.get? b = some u) : Un fs ex H H h h' :=
  ⟨fun b ob q _ _ _ => k b ob q, fun b ob q _ _ _ => ⟨ob.slots, k b ob q⟩, fun _ _ _ n _ => n, fun b ob q _ => ⟨ob, k b ob q⟩, fun _ _ q => q, fun _ _ _ q => q, fun _ ps q => ⟨#[], by rw [q]; simp⟩⟩
theorem Un.refl : Un fs ex H H h h := Un.kept fun _ _ q => q
theorem Un.laid (k : ∀ b u, h.get? b = some u → h'.get? b = some u) (hp : h.objs.size ≤ a) (hn : H a = none) : Un fs ex H (upd H a o) h h' where
  keep := fun b u q _ _ _ => k b u q
  slot := fun b u q _ _ _ => ⟨u.slots, k b u q⟩
  free := fun b u q n _ => by rw [upd_ne (Nat.ne_of_lt (Nat.lt_of_lt_of_le (Heap.lt_size q) hp))]; exact n
  there := fun b u q _ => ⟨u, k b u q⟩
  tups := fun b xs q => by rw [upd_ne (ne_of_none q hn)]; exact q
  frzs := fun b u xs q => by rw [upd_ne (ne_of_none q hn)]; exact q
  tbls := fun b ps q => ⟨#[], by rw [upd_ne (ne_of_none q hn), q]; simp⟩
theorem Un.write (mu : Mut (H x)) (he : e = x ∨ H e = some (.own x)) (k : ∀ b u, b ≠ e → h.get? b = some u → h'.get? b = some u) (heo : ∃ u, h'.get? e = some u) : Un fs ex H (upd H x o) h h' := by
  have hx : ∀ b, H b = none → b ≠ x := fun b n z => by subst z; rw [n] at mu; exact mu
  have hb : ∀ b, H b = none → b ≠ e := fun b n z => by
    subst z
    rcases he with r | r
    · exact hx b n r
    · rw [n] at r; cases r
  have hm : ∀ b u, H b = some u → ¬ Mut (some u) → b ≠ x := fun b u q nm z => by subst z; rw [q] at mu; exact nm mu
  refine ⟨fun b u q n _ _ => k b u (hb b n) q, fun b u q n _ _ => ⟨u.slots, k b u (hb b n) q⟩, fun b u q n _ => by rw [upd_ne (hx b n)]; exact n, fun b u q _ => ?_,
    fun b xs q => by rw [upd_ne (hm b _ q fun z => z)]; exact q, fun b u xs q => by rw [upd_ne (hm b _ q fun z => z)]; exact q, fun b ps q => ⟨#[], by rw [upd_ne (hm b _ q fun z => z), q]; simp⟩⟩
  by_cases hbe : b = e
  · subst hbe; exact heo
  · exact ⟨u, k b u hbe q⟩
theorem Un.mono (u : Un fs ex H H1 h h1) (hs : ∀ b ∈ fs, b ∈ fs') (hx : ∀ b ∈ ex, b ∈ ex') : Un fs' ex' H H1 h h1 :=
  ⟨fun b ob q n hb he => u.keep b ob q n (fun z => hb (hs b z)) fun z => he (hx b z), fun _ _ q n _ he => u.any q n fun z => he (hx _ z), fun b ob q n he => u.free b ob q n fun z => he (hx b z), fun b ob q he => u.there b ob q fun z => he (hx b z), u.tups, u.frzs, u.tbls⟩
end
def trk (h : Heap) (H : Hp) : List Addr := (List.range h.objs.size).filter fun a => (H a).isSome
def hidT (h : Heap) (H : Hp) : Heap := PySem.W.hideAll h (trk h H)
theorem hidT_size (h : Heap) (H : Hp) : (hidT h H).objs.size = h.objs.size := PySem.W.hideAll_size _ _
theorem hidT_get {h : Heap} {H : Hp} {b : Addr} {o : Obj} (e : h.get? b = some o) (n : H b = none) : (hidT h H).get? b = some o :=
  PySem.W.hideAll_get _ e fun hm => by
    have q : (H b).isSome = true := (List.mem_filter.mp hm).2
    rw [n] at q; simp at q
theorem of_hidT {h : Heap} {H : Hp} {b : Addr} {o : Obj} (e : (hidT h H).get? b = some o) : h.get? b = some o ∧ H b = none := by
  have e' : h.get? b = some o := PySem.W.of_hideAll (trk h H) e
  refine ⟨e', ?_⟩
  cases q : H b with
  | none => rfl
  | some x =>
    have hm : b ∈ trk h H := List.mem_filter.mpr ⟨List.mem_range.mpr (Heap.lt_size e'), by simp [q]⟩
    have z : (hidT h H).get? b = none := PySem.W.hideAll_none (trk h H) hm
    rw [z] at e; cases e
def allNews (g h : Heap) (L : Addr) : List (Addr × Obj) := (List.range h.objs.size).filterMap fun a => if a = L ∨ (g.get? a).isSome = true then none else (h.get? a).map fun o => (a, o)
def rest (g h : Heap) (L d : Addr) : List (Addr × Obj) := (allNews g h L).filter fun p => decide (p.1 ≠ d)
end L2
namespace L2
open PySem PySem.Spec PyProof.Rows
structure Mod (K : PySem.W.Frag) (mg : Str → Option Value) (base : Heap) : Prop where
  kin : K.In base
  glob : base.Ns mainGlobals mg
  blt : ∃ mb, base.Ns builtinsNs mb ∧ ∀ x : Str, x ≠ "__name__" → mb x = bootBuiltins x
  nolimit : base.NoLimit
/-- the context: a def's body (or a comprehension's block) running. base: fixed through the whole law; s₀, H₀: the entry; outer: the frames whose slots others may change (a def's callers); stack: all frames that run;
   ex: iterators that were made ahead of the entry and are walked here (a comprehension's); fn: the names whose cells were made at the entry (a def: all; a comprehension's block: its own); calm: not within an except suite; pn: pins that every state bears; xe: what is wanted of an exception that leaves the code -/
structure Cx where
  prog : Program
  w : World
  K : PySem.W.Frag
  mg : Str → Option Value
  base : Heap
  A : Around
  N : List Str
  s₀ : Shared
  H₀ : Hp
  env : Env
  outer : List Env
  stack : List Env
  ex : List Addr
  fn : Str → Bool
  calm : Bool
  pn : List (Addr × Obj)
  xe : Value → Shared → Prop
def frs (l : List Env) : List Addr := l.filterMap (·.frame)
abbrev Cx.fs (X : Cx) : List Addr := frs X.outer
def Vis (sc : Scope) (x : Str) : Prop := sc.names.lookup x = some .local ∨ sc.names.lookup x = some .cell ∨ sc.names.lookup x = some .free
def Loc (sc : Scope) (x : Str) : Prop := sc.names.lookup x = some .local ∨ sc.names.lookup x = some .cell
def Look (env : Env) (h : Heap) (m : Str → Option Value) (x : Str) (u : Value) : Prop :=
  (env.kindOf x = some .local ∧ m x = some u) ∨ ((env.kindOf x = some .cell ∨ env.kindOf x = some .free) ∧ ∃ c, env.cells.lookup x = some c ∧ h.IsCell c (some u))
structure Cx.Ok (X : Cx) : Prop where
  mod : Mod X.K X.mg X.base
  kind : X.env.scope.kind = .function
  glob : X.env.globals = mainGlobals
  blt : X.env.builtins = builtinsNs
  above : X.s₀.heap.objs.size ≤ X.env.locals
  inj : ∀ x y c, X.env.cells.lookup x = some c → X.env.cells.lookup y = some c → x = y
  has : ∀ x, (X.env.kindOf x = some .cell ∨ X.env.kindOf x = some .free) → ∃ c, X.env.cells.lookup x = some c
  cab : ∀ x c, X.fn x = true → X.env.cells.lookup x = some c → X.s₀.heap.objs.size ≤ c
  hd : X.calm = true → X.A.handled = none
  frames : X.A.frames = some X.stack
  stk : X.stack = X.outer ∨ (X.stack = X.env :: X.outer ∧ X.env.frame = some X.env.locals)
  exf : ∀ b ∈ X.ex, b ≠ X.env.locals ∧ ∀ x c, X.env.cells.lookup x = some c → c ≠ b
  bs : ∀ b o, X.base.get? b = some o → X.s₀.heap.get? b = some o ∧ X.H₀ b = none
  bsz : X.base.objs.size ≤ X.s₀.heap.objs.size
  noex : ∀ b o, X.base.get? b = some o → b ∉ X.ex
  exfs : ∀ b ∈ X.ex, b ∉ X.fs
  funs : X.s₀.heap.FunFrames X.base X.outer
  frf : ∀ b ∈ X.fs, X.H₀ b = none
structure Inv (X : Cx) (pins : List (Addr × Obj)) (σ : List (Option V)) (H : Hp) (s : Shared) : Prop where
  ok : X.Ok
  os : s.os = X.s₀.os
  bare : AllBare s.gens
  base : Un X.fs X.ex X.H₀ H X.s₀.heap s.heap
  loc : ∃ m, s.heap.Ns X.env.locals m ∧ ∀ (i : Nat) (x : Str) (v : V), X.N[i]? = some x → σ[i]? = some (some v) → Vis X.env.scope x → ∃ u, RelV v u ∧ Look X.env s.heap m x u
  cell : ∀ x c, X.env.cells.lookup x = some c → ∃ v, s.heap.IsCell c v
  free : H X.env.locals = none
  freeC : ∀ x c, X.env.cells.lookup x = some c → H c = none
  pin : ∀ p ∈ X.pn ++ pins, s.heap.get? p.1 = some p.2 ∧ H p.1 = none ∧ p.1 ≠ X.env.locals ∧ p.1 ∉ X.fs ∧ ∀ v, p.2.data ≠ .cell v
  hok : HOk X.prog X.w H s.heap
  len : σ.length = X.N.length
section
variable {X : Cx} {pins : List (Addr × Obj)} {σ : List (Option V)} {H H' : Hp} {s : Shared} {h' : Heap}
theorem Cx.Ok.nofr (ok : X.Ok) {b : Addr} {o : Obj} (e : X.base.get? b = some o) : b ∉ X.fs := fun hb => by
  have := (ok.funs.mem hb).1
  rw [e] at this; cases this
theorem Inv.bs (I : Inv X pins σ H s) : ∀ b o, X.base.get? b = some o → s.heap.get? b = some o ∧ H b = none := fun b o e =>
  ⟨I.base.keep b o (I.ok.bs b o e).1 (I.ok.bs b o e).2 (I.ok.nofr e) (I.ok.noex b o e), I.base.free b o (I.ok.bs b o e).1 (I.ok.bs b o e).2 (I.ok.noex b o e)⟩
theorem Inv.bk (I : Inv X pins σ H s) : ∀ b o, X.base.get? b = some o → s.heap.get? b = some o := fun b o e => (I.bs b o e).1
theorem Inv.mod (I : Inv X pins σ H s) : Mod X.K X.mg X.base := I.ok.mod
theorem Inv.kIn (I : Inv X pins σ H s) : X.K.In s.heap := I.ok.mod.kin.keeps I.bk
theorem Inv.nolimit (I : Inv X pins σ H s) : s.heap.NoLimit := I.ok.mod.nolimit.keeps I.bk
theorem Inv.fr (I : Inv X pins σ H s) : ∃ m, Fr X.base X.env.locals s.heap m :=
  let ⟨m, hn, _⟩ := I.loc
  ⟨m, hn, I.bk, Nat.le_trans I.ok.bsz I.ok.above⟩
theorem Inv.lt (I : Inv X pins σ H s) : X.env.locals < s.heap.objs.size := let ⟨_, hn, _⟩ := I.loc; hn.lt
theorem Inv.sz (I : Inv X pins σ H s) : X.s₀.heap.objs.size ≤ s.heap.objs.size := Nat.le_trans I.ok.above (Nat.le_of_lt I.lt)
theorem Inv.nofs (I : Inv X pins σ H s) {a : Addr} (h : s.heap.objs.size ≤ a) : a ∉ X.fs := fun hb => by
  obtain ⟨_, o, ho, _⟩ := I.ok.funs.mem hb
  exact absurd (Nat.lt_of_lt_of_le (Heap.lt_size ho) (Nat.le_trans I.sz h)) (Nat.lt_irrefl _)
theorem Inv.cne (I : Inv X pins σ H s) : ∀ x c, X.env.cells.lookup x = some c → c ≠ X.env.locals := fun x c e z => by
  obtain ⟨v, o, ho, hd⟩ := I.cell x c e
  obtain ⟨m, ⟨o', es, ep, ho', hd', _⟩, _⟩ := I.loc
  rw [z, ho'] at ho; cases ho; rw [hd'] at hd; cases hd
theorem Inv.funs (I : Inv X pins σ H s) : s.heap.FunFrames X.base X.outer := by
  have all : ∀ (l : List Env), (∀ b ∈ frs l, b ∈ X.fs) → X.s₀.heap.FunFrames X.base l → s.heap.FunFrames X.base l := by
    intro l
    induction l with
    | nil => intro _ _; trivial
    | cons env r ih =>
      intro hs hl
      obtain ⟨hk, ⟨L, o, hf, hn, ho, hd⟩, hr⟩ := hl
      have hL : L ∈ X.fs := hs L (by unfold frs; rw [List.filterMap_cons, hf]; exact List.mem_cons_self)
      obtain ⟨sl, e⟩ := I.base.slot L o ho (I.ok.frf L hL) hL fun z => I.ok.exfs L z hL
      exact ⟨hk, ⟨L, _, hf, hn, e, hd⟩, ih (fun b hb => hs b (by unfold frs; rw [List.filterMap_cons, hf]; exact List.mem_cons_of_mem _ hb)) hr⟩
  exact all X.outer (fun _ hb => hb) I.ok.funs
theorem Inv.stack (I : Inv X pins σ H s) : s.heap.FunFrames X.base X.stack := by
  rcases I.ok.stk with e | ⟨e, hf⟩
  · rw [e]; exact I.funs
  · rw [e]
    obtain ⟨m, hn, _⟩ := I.loc
    refine .cons (by rw [I.ok.kind]; decide) hf hn ?_ I.funs
    exact Heap.get?_none_of_le (Nat.le_trans I.ok.bsz I.ok.above)
theorem Inv.stkSub (I : Inv X pins σ H s) : ∀ b ∈ frs X.stack, b ∈ X.env.locals :: X.fs := fun b hb => by
  rcases I.ok.stk with e | ⟨e, hf⟩
  · rw [e] at hb; exact List.mem_cons_of_mem _ hb
  · rw [e] at hb
    unfold frs at hb
    rw [List.filterMap_cons, hf] at hb
    exact hb
theorem Inv.stkFree (I : Inv X pins σ H s) : ∀ b ∈ frs X.stack, H b = none := fun b hb => by
  rcases List.mem_cons.mp (I.stkSub b hb) with e | hb
  · rw [e]; exact I.free
  · obtain ⟨_, o, ho, _⟩ := I.ok.funs.mem hb
    exact I.base.free b o ho (I.ok.frf b hb) fun z => I.ok.exfs b z hb
theorem Inv.step {g' : Array GenState} {t' : Nat} {d' : Drawn} {ch : List Addr} (I : Inv X pins σ H s)
    (hch : ∀ b ∈ ch, (b ∈ X.ex ∨ X.s₀.heap.objs.size ≤ b) ∧ b ≠ X.env.locals ∧ (∀ x c, X.env.cells.lookup x = some c → c ≠ b) ∧ ∀ p ∈ X.pn ++ pins, p.1 ≠ b)
    (keep : ∀ b o, b ≠ X.env.locals → b ∉ X.fs → b ∉ ch → s.heap.get? b = some o → H b = none → h'.get? b = some o)
    (slot : ∀ b o, b ≠ X.env.locals → b ∈ X.fs → b ∉ ch → s.heap.get? b = some o → H b = none → ∃ sl, h'.get? b = some { o with slots := sl }) (free : ∀ b o, b ∉ ch → s.heap.get? b = some o → H b = none → H' b = none)
    (there : ∀ b o, b ∉ ch → s.heap.get? b = some o → ∃ o', h'.get? b = some o')
    (tups : ∀ b xs, H b = some (.tup xs) → H' b = some (.tup xs)) (frzs : ∀ b o u, H b = some (.frz o u) → H' b = some (.frz o u)) (tbls : ∀ b ps, H b = some (.tbl ps) → ∃ more, H' b = some (.tbl (ps ++ more)))
    (ns : ∀ m, s.heap.Ns X.env.locals m → h'.Ns X.env.locals m) (hok : HOk X.prog X.w H' h') (hg : AllBare g') :
    Inv X pins σ H' { s with heap := h', gens := g', drawn := d', toks := t' } := by
  have neL : ∀ b o, X.s₀.heap.get? b = some o → b ≠ X.env.locals := fun b o e => Nat.ne_of_lt (Nat.lt_of_lt_of_le (Heap.lt_size e) I.ok.above)
  have neC : ∀ b o, X.s₀.heap.get? b = some o → b ∉ X.ex → b ∉ ch := fun b o e hx hb => by
    rcases (hch b hb).1 with z | z
    · exact hx z
    · exact absurd (Nat.lt_of_lt_of_le (Heap.lt_size e) z) (Nat.lt_irrefl _)
  have cellK : ∀ x c, X.env.cells.lookup x = some c → ∀ v, s.heap.IsCell c v → h'.IsCell c v := fun x c e v ⟨o, ho, hd⟩ => by
    have nch : c ∉ ch := fun z => (hch c z).2.2.1 x c e rfl
    by_cases hc : c ∈ X.fs
    · obtain ⟨sl, q⟩ := slot c o (I.cne x c e) hc nch ho (I.freeC x c e)
      exact ⟨_, q, hd⟩
    · exact ⟨o, keep c o (I.cne x c e) hc nch ho (I.freeC x c e), hd⟩
  refine ⟨I.ok, I.os, hg, ⟨fun b o e n hb hx => ?_, fun b o e n hb hx => ?_, fun b o e n hx => ?_, fun b o e hx => ?_, fun b xs e => tups b xs (I.base.tups b xs e), fun b o xs e => frzs b o xs (I.base.frzs b o xs e), fun b ps e => ?_⟩, ?_, fun x c e => ?_, ?_, fun x c e => ?_, fun p hp => ?_, hok, I.len⟩
  · exact keep b o (neL b o e) hb (neC b o e hx) (I.base.keep b o e n hb hx) (I.base.free b o e n hx)
  · obtain ⟨sl, e1⟩ := I.base.slot b o e n hb hx
    obtain ⟨sl', e2⟩ := slot b _ (neL b o e) hb (neC b o e hx) e1 (I.base.free b o e n hx)
    exact ⟨sl', e2⟩
  · obtain ⟨o', e1⟩ := I.base.there b o e hx
    exact free b o' (neC b o e hx) e1 (I.base.free b o e n hx)
  · obtain ⟨o', e1⟩ := I.base.there b o e hx
    exact there b o' (neC b o e hx) e1
  · obtain ⟨m1, e1⟩ := I.base.tbls b ps e
    obtain ⟨m2, e2⟩ := tbls b _ e1
    exact ⟨m1 ++ m2, by rw [e2, Array.append_assoc]⟩
  · obtain ⟨m, hn, hl⟩ := I.loc
    refine ⟨m, ns m hn, fun i x v e1 e2 e3 => ?_⟩
    obtain ⟨u, r, l⟩ := hl i x v e1 e2 e3
    refine ⟨u, r, ?_⟩
    rcases l with l | ⟨k, c, e, z⟩
    · exact .inl l
    · exact .inr ⟨k, c, e, cellK x c e _ z⟩
  · obtain ⟨v, z⟩ := I.cell x c e
    exact ⟨v, cellK x c e v z⟩
  · obtain ⟨m, ⟨o, _, _, ho, _⟩, _⟩ := I.loc
    exact free _ o (fun z => (hch _ z).2.1 rfl) ho I.free
  · obtain ⟨v, o, ho, hd⟩ := I.cell x c e
    exact free c o (fun z => (hch c z).2.2.1 x c e rfl) ho (I.freeC x c e)
  · obtain ⟨e, n, ne, nf, d⟩ := I.pin p hp
    have nch : p.1 ∉ ch := fun z => (hch p.1 z).2.2.2 p hp rfl
    exact ⟨keep p.1 p.2 ne nf nch e n, free p.1 p.2 nch e n, ne, nf, d⟩
theorem Inv.un {t' : Nat} (I : Inv X pins σ H s) (u : Un X.fs [] H H' s.heap h') (hok : HOk X.prog X.w H' h') : Inv X pins σ H' { s with heap := h', toks := t' } := by
  obtain ⟨m, ⟨o, es, ep, ho, r⟩, _⟩ := id I.loc
  obtain ⟨sl, hL⟩ := u.any ho I.free (by simp)
  exact I.step (g' := s.gens) (d' := s.drawn) (ch := []) (fun _ z => nomatch z) (fun b o _ hb _ e n => u.keep b o e n hb (by simp)) (fun b o _ hb _ e n => u.slot b o e n hb (by simp)) (fun b o _ e n => u.free b o e n (by simp)) (fun b o _ e => u.there b o e (by simp)) u.tups u.frzs u.tbls (fun m' hm => by
    obtain ⟨o', es', ep', ho', r'⟩ := hm
    rw [ho] at ho'; cases ho'
    exact ⟨_, es', ep', hL, r'⟩) hok I.bare
theorem Inv.call {g' : Array GenState} {t' : Nat} {d' : Drawn} {ch : List Addr} (I : Inv X pins σ H s) (u : Un (frs X.stack) ch H H' s.heap h') (hok : HOk X.prog X.w H' h') (hg : AllBare g')
    (hch : ∀ b ∈ ch, (b ∈ X.ex ∨ X.s₀.heap.objs.size ≤ b) ∧ b ≠ X.env.locals ∧ (∀ x c, X.env.cells.lookup x = some c → c ≠ b) ∧ ∀ p ∈ X.pn ++ pins, p.1 ≠ b) :
    Inv X pins σ H' { s with heap := h', gens := g', drawn := d', toks := t' } := by
  obtain ⟨m, ⟨o, es, ep, ho, r⟩, _⟩ := id I.loc
  obtain ⟨sl, hL⟩ := u.any ho I.free fun z => (hch _ z).2.1 rfl
  exact I.step (ch := ch) hch (fun b o hL hb hc e n => u.keep b o e n (fun z => (List.mem_cons.mp (I.stkSub b z)).elim hL hb) hc) (fun b o _ _ hc e n => u.any e n hc) (fun b o hc e n => u.free b o e n hc) (fun b o hc e => u.there b o e hc) u.tups u.frzs u.tbls (fun m' hm => by
    obtain ⟨o', es', ep', ho', r'⟩ := hm
    rw [ho] at ho'; cases ho'
    exact ⟨_, es', ep', hL, r'⟩) hok hg
theorem Inv.turned {t' : Nat} {it : Addr} (I : Inv X pins σ H s) (k : ∀ b o, b ≠ it → s.heap.get? b = some o → h'.get? b = some o) (hn : H it = none) (hL : it ≠ X.env.locals)
    (h1 : it ∈ X.ex ∨ X.s₀.heap.objs.size ≤ it) (h2 : ∀ x c, X.env.cells.lookup x = some c → c ≠ it) (h3 : ∀ p ∈ X.pn ++ pins, p.1 ≠ it) : Inv X pins σ H { s with heap := h', toks := t' } := by
  have nit : ∀ b u, H b = some u → b ≠ it := fun b u e z => by rw [z, hn] at e; cases e
  refine I.step (g' := s.gens) (d' := s.drawn) (ch := [it]) (fun b hb => ?_) (fun b o _ _ hc e _ => k b o (fun z => hc (by simp [z])) e) (fun b o _ _ hc e _ => ⟨o.slots, k b o (fun z => hc (by simp [z])) e⟩) (fun _ _ _ _ n => n)
    (fun b o hc e => ⟨o, k b o (fun z => hc (by simp [z])) e⟩) (fun _ _ e => e) (fun _ _ _ e => e) (fun b ps e => ⟨#[], by rw [e]; simp⟩) (fun m hm => ?_) (fun b u e => ?_) I.bare
  · have e : b = it := by simpa using hb
    subst e
    exact ⟨h1, hL, h2, h3⟩
  · obtain ⟨o, es, ep, ho, r⟩ := hm
    exact ⟨o, es, ep, k _ o (Ne.symm hL) ho, r⟩
  · refine (I.hok b u e).stay (fun c v hc q => k c v ?_ q) (fun _ q => q) fun _ _ q => q
    rcases hc with z | z
    · rw [z]; exact nit b u e
    · exact nit c _ z
theorem Inv.tok (I : Inv X pins σ H s) (t : Nat) : Inv X pins σ H { s with toks := t } := I.un (h' := s.heap) (t' := t) Un.refl I.hok
theorem Inv.kept {t' : Nat} (I : Inv X pins σ H s) (k : ∀ b u, s.heap.get? b = some u → h'.get? b = some u) : Inv X pins σ H { s with heap := h', toks := t' } := I.un (Un.kept k) (I.hok.kept k)
theorem Inv.laid {a : Addr} {o : HO} {t' : Nat} (I : Inv X pins σ H s) (k : ∀ b u, s.heap.get? b = some u → h'.get? b = some u) (hp : s.heap.objs.size ≤ a) (new : ObjOk X.prog X.w (upd H a o) h' a o) :
    Inv X pins σ (upd H a o) { s with heap := h', toks := t' } := I.un (Un.laid k hp (I.hok.fresh hp)) (I.hok.laid k hp new)
theorem Inv.write {x e : Addr} {o : HO} {t' : Nat} (I : Inv X pins σ H s) (mu : Mut (H x)) (he : e = x ∨ H e = some (.own x)) (k : ∀ b u, b ≠ e → s.heap.get? b = some u → h'.get? b = some u) (heo : ∃ u, h'.get? e = some u)
    (new : ObjOk X.prog X.w (upd H x o) h' x o) : Inv X pins σ (upd H x o) { s with heap := h', toks := t' } := I.un (Un.write mu he k heo) (I.hok.write mu he k heo new)
theorem Inv.pins_of {pins' : List (Addr × Obj)} (I : Inv X pins σ H s) (h : ∀ p ∈ pins', s.heap.get? p.1 = some p.2 ∧ H p.1 = none ∧ p.1 ≠ X.env.locals ∧ p.1 ∉ X.fs ∧ ∀ v, p.2.data ≠ .cell v) : Inv X pins' σ H s :=
  ⟨I.ok, I.os, I.bare, I.base, I.loc, I.cell, I.free, I.freeC, fun p hp => (List.mem_append.mp hp).elim (fun z => I.pin p (List.mem_append_left _ z)) (h p), I.hok, I.len⟩
theorem nodup_ix {N : List Str} (hN : N.Nodup) {i j : Nat} {x : Str} (a : N[i]? = some x) (b : N[j]? = some x) : i = j := by
  obtain ⟨h1, e1⟩ := List.getElem?_eq_some_iff.mp a
  obtain ⟨h2, e2⟩ := List.getElem?_eq_some_iff.mp b
  exact (List.getElem_inj hN).mp (e1.trans e2.symm)
theorem store_ok2 {M : Model} {A : Around} {E : Value → Shared → Prop} {i : Nat} {x : Str} {v : V} {u : Value} {Q : Unit → Shared → Prop} (I : Inv X pins σ H s) (hN : X.N.Nodup) (hi : X.N[i]? = some x) (hx : Loc X.env.scope x) (r : RelV v u)
    (h : ∀ s', Inv X pins (σ.set i (some v)) H s' → (∃ a, Heap.SameBut a s.heap s'.heap ∧ (a = X.env.locals ∨ X.env.cells.lookup x = some a)) → Q () s') (hf : X.fn x = true ∨ X.env.scope.names.lookup x = some .local := by first | exact .inl rfl | exact .inr rfl | assumption) : wpAny M A (storeName X.env x u) Q E s := by
  obtain ⟨m, hn, hl⟩ := id I.loc
  have hcls : (X.env.scope.kind == .class || (X.env.scope.kind == .module && X.env.locals != X.env.globals)) = false := by rw [I.ok.kind]; rfl
  have hiσ : i < σ.length := by rw [I.len]; exact (List.getElem?_eq_some_iff.mp hi).1
  have cne := I.cne
  have tracked : ∀ {a : Addr} {h' : Heap}, (∃ o, s.heap.get? a = some o ∧ H a = none) → Heap.SameBut a s.heap h' → HOk X.prog X.w H h' := fun {a h'} ha hs b ob e => by
    obtain ⟨_, _, hfree⟩ := ha
    refine (I.hok b ob e).stay (fun c w' hc q => (hs.2 c ?_).trans q) (fun _ q => q) fun _ _ q => q
    rintro rfl
    rcases hc with rfl | hc
    · rw [hfree] at e; cases e
    · rw [hfree] at hc; cases hc
  rcases hx with hk | hk
  · refine wpAny_storeName_local hk hn (fun h' hn' hs => ?_) hcls
    obtain ⟨oL, _, _, hoL, _⟩ := id hn
    refine h _ ⟨I.ok, I.os, I.bare, ⟨fun b o e n hb hx => ?_, fun b o e n hb hx => ?_, I.base.free, fun b o e hx => ?_, I.base.tups, I.base.frzs, I.base.tbls⟩, ⟨_, hn', fun j y v' e1 e2 e3 => ?_⟩, fun y c e => ?_, I.free, I.freeC, fun p hp => ?_, tracked ⟨oL, hoL, I.free⟩ hs, by simpa using I.len⟩ ⟨_, hs, .inl rfl⟩
    · exact (hs.2 b (Nat.ne_of_lt (Nat.lt_of_lt_of_le (Heap.lt_size e) I.ok.above))).trans (I.base.keep b o e n hb hx)
    · obtain ⟨sl, e1⟩ := I.base.slot b o e n hb hx
      exact ⟨sl, (hs.2 b (Nat.ne_of_lt (Nat.lt_of_lt_of_le (Heap.lt_size e) I.ok.above))).trans e1⟩
    · obtain ⟨o', e1⟩ := I.base.there b o e hx
      exact ⟨o', (hs.2 b (Nat.ne_of_lt (Nat.lt_of_lt_of_le (Heap.lt_size e) I.ok.above))).trans e1⟩
    · by_cases hj : j = i
      · subst hj
        rw [hi] at e1; cases e1
        rw [List.getElem?_set_self hiσ] at e2
        cases e2
        exact ⟨u, r, .inl ⟨hk, by simp⟩⟩
      · rw [List.getElem?_set_ne (Ne.symm hj)] at e2
        obtain ⟨u', r', q⟩ := hl j y v' e1 e2 e3
        refine ⟨u', r', ?_⟩
        rcases q with ⟨k, e⟩ | ⟨k, c, e, z⟩
        · refine .inl ⟨k, ?_⟩
          have : y ≠ x := fun e => hj (nodup_ix hN e1 (e ▸ hi))
          simp [this, e]
        · exact .inr ⟨k, c, e, z.sameBut hs (cne y c e)⟩
    · obtain ⟨w', z⟩ := I.cell y c e
      exact ⟨w', z.sameBut hs (cne y c e)⟩
    · obtain ⟨e, n, ne, nf, d⟩ := I.pin p hp
      exact ⟨(hs.2 p.1 ne).trans e, n, ne, nf, d⟩
  · have hfn : X.fn x = true := by
      rcases hf with z | z
      · exact z
      · rw [z] at hk; cases hk
    obtain ⟨c, hc⟩ := I.ok.has x (.inl hk)
    obtain ⟨w', z⟩ := I.cell x c hc
    refine wpAny_storeName_cell I.ok.kind hk hc z (fun h' hc' hs => ?_)
    obtain ⟨oc, hoc, hocd⟩ := id z
    refine h { s with heap := h' } ⟨I.ok, I.os, I.bare, ⟨fun b o e n hb hx => ?_, fun b o e n hb hx => ?_, I.base.free, fun b o e hx => ?_, I.base.tups, I.base.frzs, I.base.tbls⟩, ⟨m, hn.sameBut hs (Ne.symm (cne x c hc)), fun j y v' e1 e2 e3 => ?_⟩, fun y c' e => ?_, I.free, I.freeC, fun p hp => ?_, tracked ⟨oc, hoc, I.freeC x c hc⟩ hs, by simpa using I.len⟩ ⟨c, hs, .inr hc⟩
    · exact (hs.2 b (Nat.ne_of_lt (Nat.lt_of_lt_of_le (Heap.lt_size e) (I.ok.cab x c hfn hc)))).trans (I.base.keep b o e n hb hx)
    · obtain ⟨sl, e1⟩ := I.base.slot b o e n hb hx
      exact ⟨sl, (hs.2 b (Nat.ne_of_lt (Nat.lt_of_lt_of_le (Heap.lt_size e) (I.ok.cab x c hfn hc)))).trans e1⟩
    · obtain ⟨o', e1⟩ := I.base.there b o e hx
      exact ⟨o', (hs.2 b (Nat.ne_of_lt (Nat.lt_of_lt_of_le (Heap.lt_size e) (I.ok.cab x c hfn hc)))).trans e1⟩
    · by_cases hj : j = i
      · subst hj
        rw [hi] at e1; cases e1
        rw [List.getElem?_set_self hiσ] at e2
        cases e2
        exact ⟨u, r, .inr ⟨.inl hk, c, hc, hc'⟩⟩
      · rw [List.getElem?_set_ne (Ne.symm hj)] at e2
        obtain ⟨u', r', q⟩ := hl j y v' e1 e2 e3
        refine ⟨u', r', ?_⟩
        rcases q with q | ⟨k, c', e, z'⟩
        · exact .inl q
        · refine .inr ⟨k, c', e, z'.sameBut hs ?_⟩
          rintro rfl
          exact hj (nodup_ix hN e1 (I.ok.inj _ _ _ e hc ▸ hi))
    · by_cases hcc : c' = c
      · subst hcc; exact ⟨_, hc'⟩
      · obtain ⟨w2, z2⟩ := I.cell y c' e
        exact ⟨w2, z2.sameBut hs hcc⟩
    · obtain ⟨e, n, ne, nf, d⟩ := I.pin p hp
      refine ⟨(hs.2 p.1 ?_).trans e, n, ne, nf, d⟩
      intro q
      rw [q, hoc] at e
      have q' : oc = p.2 := Option.some.inj e
      exact d w' (by rw [← q']; exact hocd)
theorem store_ok {M : Model} {A : Around} {E : Value → Shared → Prop} {i : Nat} {x : Str} {v : V} {u : Value} {Q : Unit → Shared → Prop} (I : Inv X pins σ H s) (hN : X.N.Nodup) (hi : X.N[i]? = some x) (hx : Loc X.env.scope x) (r : RelV v u)
    (h : ∀ s', Inv X pins (σ.set i (some v)) H s' → Q () s') (hf : X.fn x = true ∨ X.env.scope.names.lookup x = some .local := by first | exact .inl rfl | exact .inr rfl | assumption) : wpAny M A (storeName X.env x u) Q E s :=
  store_ok2 I hN hi hx r (fun s' I' _ => h s' I') hf
theorem Inv.call' {s' : Shared} {ch : List Addr} (I : Inv X pins σ H s) (ho : s'.os = s.os) (u : Un (frs X.stack) ch H H' s.heap s'.heap) (hok : HOk X.prog X.w H' s'.heap) (hg : AllBare s'.gens)
    (hch : ∀ b ∈ ch, (b ∈ X.ex ∨ X.s₀.heap.objs.size ≤ b) ∧ b ≠ X.env.locals ∧ (∀ x c, X.env.cells.lookup x = some c → c ≠ b) ∧ ∀ p ∈ X.pn ++ pins, p.1 ≠ b) : Inv X pins σ H' s' := by
  obtain ⟨h', g', d', t', o'⟩ := s'
  have e : o' = s.os := ho
  subst e
  exact I.call (g' := g') (t' := t') (d' := d') u hok hg hch
end
abbrev XK := Value → Option Addr → Hp → Prop
abbrev St := List (Option V)
abbrev VK := V → Hp → Prop
abbrev TE := St → Hp → VK → Prop
abbrev TT := St → Hp → (Bool → Hp → Prop) → Prop
abbrev TA := St → Hp → (List V → Hp → Prop) → Prop
structure Ends where
  nx : St → Hp → Prop
  rt : VK
  bk : St → Hp → Prop := fun _ _ => False
  ct : St → Hp → Prop := fun _ _ => False
abbrev TS := Ends → St → Hp → Prop
def EP (X : Cx) (pins : List (Addr × Obj)) (σ : St) (Q : VK) (u : Value) (s' : Shared) : Prop := ∃ v H', Inv X pins σ H' s' ∧ RelV v u ∧ Q v H'
def TP (X : Cx) (pins : List (Addr × Obj)) (σ : St) (Q : Bool → Hp → Prop) (b : Bool) (s' : Shared) : Prop := ∃ H', Inv X pins σ H' s' ∧ Q b H'
def AP (X : Cx) (pins : List (Addr × Obj)) (σ : St) (Q : List V → Hp → Prop) (us : List Value) (s' : Shared) : Prop := ∃ vs H', Inv X pins σ H' s' ∧ Vals vs us ∧ Q vs H'
def SP (X : Cx) (pins : List (Addr × Obj)) (D : Ends) (f : Flow) (s' : Shared) : Prop :=
  match f with
  | .next => ∃ σ' H', Inv X pins σ' H' s' ∧ D.nx σ' H'
  | .brk => ∃ σ' H', Inv X pins σ' H' s' ∧ D.bk σ' H'
  | .cont => ∃ σ' H', Inv X pins σ' H' s' ∧ D.ct σ' H'
  | .ret u => ∃ v σ' H', Inv X pins σ' H' s' ∧ RelV v u ∧ D.rt v H'
def PE (X : Cx) (e : Expr) (t : TE) : Prop :=
  ∀ (pins : List (Addr × Obj)) (s : Shared) (σ : St) (H : Hp) (Q : VK), Inv X pins σ H s → t σ H Q → wpAny (model X.prog X.w) X.A (eval e X.env) (EP X pins σ Q) X.xe s
def PT (X : Cx) (e : Expr) (t : TT) : Prop :=
  ∀ (pins : List (Addr × Obj)) (s : Shared) (σ : St) (H : Hp) (Q : Bool → Hp → Prop), Inv X pins σ H s → t σ H Q → wpAny (model X.prog X.w) X.A (isTrue e X.env (eval e X.env)) (TP X pins σ Q) X.xe s
def PW (X : Cx) (e : Expr) (t : TT) : Prop :=
  ∀ (whole : Sem Value) (pins : List (Addr × Obj)) (s : Shared) (σ : St) (H : Hp) (Q : Bool → Hp → Prop), Inv X pins σ H s → t σ H Q → wpAny (model X.prog X.w) X.A (isTrue e X.env whole) (TP X pins σ Q) X.xe s
theorem PW.pt {X : Cx} {e : Expr} {t : TT} (h : PW X e t) : PT X e t := h _
def PA (X : Cx) (es : List Expr) (t : TA) : Prop :=
  ∀ (pos : Pos) (pins : List (Addr × Obj)) (s : Shared) (σ : St) (H : Hp) (Q : List V → Hp → Prop), Inv X pins σ H s → t σ H Q → wpAny (model X.prog X.w) X.A (spliced (backTo pos (starEach es X.env))) (AP X pins σ Q) X.xe s
def PS (X : Cx) (st : Stmt) (t : TS) : Prop :=
  ∀ (pins : List (Addr × Obj)) (s : Shared) (σ : St) (H : Hp) (D : Ends), Inv X pins σ H s → t D σ H → wpAny (model X.prog X.w) X.A (exec st X.env) (SP X pins D) X.xe s
def PSs (X : Cx) (st : List Stmt) (t : TS) : Prop :=
  ∀ (pins : List (Addr × Obj)) (s : Shared) (σ : St) (H : Hp) (D : Ends), Inv X pins σ H s → t D σ H → wpAny (model X.prog X.w) X.A (execs st X.env) (SP X pins D) X.xe s
theorem thn {α : Type} {t : Sem α} {Q Q' : α → Shared → Prop} {M : Model} {A : Around} {E : Value → Shared → Prop} {s : Shared} (h : wpAny M A t Q E s) (hQ : ∀ a s, Q a s → Q' a s) : wpAny M A t Q' E s := wpAny_mono h hQ fun _ _ x => x
end L2
namespace L2
open PySem PySem.Spec PyProof.Rows
section
variable {X : Cx}
def tVar (i : Nat) : TE := fun σ H Q => ∃ v, σ[i]? = some (some v) ∧ Q v H
def tC (v : V) : TE := fun _ H Q => Q v H
theorem pe_var {i : Nat} {x : Str} {pos : Pos} (hN : X.N[i]? = some x) (hv : Vis X.env.scope x) (hd : (x == ("__debug__" : Str)) = false := by decide) (hcd : (x == ("__classdict__" : Str)) = false := by decide) : PE X (.Name x pos) (tVar i) := by
  intro pins s σ H Q I h
  obtain ⟨v, e, h⟩ := h
  obtain ⟨m, hn, hl⟩ := I.loc
  obtain ⟨u, r, l⟩ := hl i x v hN e hv
  have fin : EP X pins σ Q u s := ⟨v, H, I, r, h⟩
  rcases l with ⟨hk, hm⟩ | ⟨hk, c, hc, hcell⟩
  · exact wpAny_Name (wpAny_loadName_local I.ok.kind hk hn hm fin) hd
  · rcases hk with hk | hk
    · exact wpAny_Name (wpAny_loadName_cell I.ok.kind hk hc hcell fin) hd
    · exact wpAny_Name (wpAny_loadName_free I.ok.kind hk hc hcell fin hcd) hd
theorem pe_int {i j pos} : PE X (.Constant (.int i) j pos) (tC (.int i)) := fun _ _ _ H _ I h => wpAny_Constant_int ⟨.int i, H, I.tok _, ⟨_, rfl⟩, h⟩
theorem pe_bl {b j pos} : PE X (.Constant (.bool b) j pos) (tC (.bl b)) := fun _ _ _ H _ I h => Constant_bool ⟨.bl b, H, I, rfl, h⟩
theorem pe_str {x j pos} : PE X (.Constant (.str x) j pos) (tC (.str x)) := fun _ _ _ H _ I h => Calls.Constant_str ⟨.str x, H, I.tok _, ⟨_, rfl⟩, h⟩
def Gl (X : Cx) (x : Str) : Prop := X.env.kindOf x = some .globalImplicit
theorem ld_glob {E : Value → Shared → Prop} {pins : List (Addr × Obj)} {s : Shared} {σ : St} {H : Hp} {x : Str} {u : Value} {pos : Pos} {Q : Value → Shared → Prop} (I : Inv X pins σ H s) (hg : Gl X x) (hm : X.mg x = some u) (h : Q u s)
    (hd : (x == ("__debug__" : Str)) = false := by decide) : wpAny (model X.prog X.w) X.A (eval (.Name x pos) X.env) Q E s :=
  Calls.Name_function_global I.ok.kind hg (Calls.loadGlobal_global (by rw [I.ok.glob]; exact I.mod.glob.keeps I.bk) hm h) hd
theorem ld_blt {E : Value → Shared → Prop} {pins : List (Addr × Obj)} {s : Shared} {σ : St} {H : Hp} {x : Str} {u : Value} {pos : Pos} {Q : Value → Shared → Prop} (I : Inv X pins σ H s) (hg : Gl X x) (hm : X.mg x = none) (hv : bootBuiltins x = some u) (h : Q u s)
    (hn : x ≠ "__name__" := by decide) (hd : (x == ("__debug__" : Str)) = false := by decide) : wpAny (model X.prog X.w) X.A (eval (.Name x pos) X.env) Q E s := by
  obtain ⟨mb, h1, h2⟩ := I.mod.blt
  exact Calls.Name_function_global I.ok.kind hg (Calls.loadGlobal_builtin (by rw [I.ok.glob]; exact I.mod.glob.keeps I.bk) hm (by rw [I.ok.blt]; exact h1.keeps I.bk) ((h2 x hn).trans hv) h) hd
theorem pe_glob {x : Str} {v : V} {u : Value} {pos : Pos} (hg : Gl X x) (hm : X.mg x = some u) (r : RelV v u) (hd : (x == ("__debug__" : Str)) = false := by decide) : PE X (.Name x pos) (tC v) :=
  fun _ _ _ H _ I h => ld_glob I hg hm ⟨v, H, I, r, h⟩ hd
theorem pe_bltn {x : Str} {v : V} {u : Value} {pos : Pos} (hg : Gl X x) (hm : X.mg x = none) (hv : bootBuiltins x = some u) (r : RelV v u) (hn : x ≠ "__name__" := by decide) (hd : (x == ("__debug__" : Str)) = false := by decide) : PE X (.Name x pos) (tC v) :=
  fun _ _ _ H _ I h => ld_blt I hg hm hv ⟨v, H, I, r, h⟩ hn hd
variable {a b : Expr} {ta tb : TE} {pos : Pos}
def tB (t : TE) : TT := fun σ H Q => t σ H fun x H1 => ∃ c, x = .bl c ∧ Q c H1
theorem pt_val {e : Expr} {t : TE} (h : PE X e t) (he : ∀ whole, isTrue e X.env whole = (do let v ← whole; standAt e.pos; holding [v] (truthy v)) := by intro _; rfl) : PT X e (tB t) := by
  intro pins s σ H Q I hw
  refine isTrue_plain (thn (h pins s σ H _ I hw) fun v s1 ⟨x, H1, I1, r1, q1⟩ => ?_) (he _)
  obtain ⟨d, rfl, q⟩ := q1
  cases r1
  exact wpAny_truthy_bool ⟨H1, I1, q⟩
variable {tA tB' : TT} {rest : List Expr}
def tAnd (t u : TT) : TT := fun σ H Q => t σ H fun c H1 => if c = true then u σ H1 Q else Q false H1
def tOr (t u : TT) : TT := fun σ H Q => t σ H fun c H1 => if c = true then Q true H1 else u σ H1 Q
def tNot (t : TT) : TT := fun σ H Q => t σ H fun c H1 => Q (!c) H1
theorem pw_and1 (ha : PT X a tA) : PW X (.BoolOp .And [a] pos) tA := by
  intro wh pins s σ H Q I h
  refine isTrue_and (thn (ha pins s σ H Q I h) fun c s1 e => ?_)
  cases c with
  | true => exact isTrue_and_nil e
  | false => exact e
theorem pw_or1 (ha : PT X a tA) : PW X (.BoolOp .Or [a] pos) tA := by
  intro wh pins s σ H Q I h
  refine isTrue_or (thn (ha pins s σ H Q I h) fun c s1 e => ?_)
  cases c with
  | false => exact isTrue_or_nil e
  | true => exact e
theorem pw_and (ha : PT X a tA) (hb : PW X (.BoolOp .And (b :: rest) pos) tB') : PW X (.BoolOp .And (a :: b :: rest) pos) (tAnd tA tB') := by
  intro wh pins s σ H Q I h
  refine isTrue_and (thn (ha pins s σ H _ I h) fun c s1 ⟨H1, I1, q1⟩ => ?_)
  cases c with
  | true => exact hb wh pins s1 σ H1 Q I1 q1
  | false => exact ⟨H1, I1, q1⟩
theorem pw_or (ha : PT X a tA) (hb : PW X (.BoolOp .Or (b :: rest) pos) tB') : PW X (.BoolOp .Or (a :: b :: rest) pos) (tOr tA tB') := by
  intro wh pins s σ H Q I h
  refine isTrue_or (thn (ha pins s σ H _ I h) fun c s1 ⟨H1, I1, q1⟩ => ?_)
  cases c with
  | true => exact ⟨H1, I1, q1⟩
  | false => exact hb wh pins s1 σ H1 Q I1 q1
theorem pt_not (ha : PT X a tA) : PT X (.UnaryOp .Not a pos) (tNot tA) := by
  intro pins s σ H Q I h
  exact isTrue_not (ha pins s σ H (fun c H1 => Q (!c) H1) I h)
def tAndV (ta tb : TE) : TE := fun σ H Q => ta σ H fun x H1 => ∃ c, x = .bl c ∧ if c = true then tb σ H1 Q else Q (.bl false) H1
def tOrV (ta tb : TE) : TE := fun σ H Q => ta σ H fun x H1 => ∃ c, x = .bl c ∧ if c = true then Q (.bl true) H1 else tb σ H1 Q
def tNotV (ta : TE) : TE := fun σ H Q => ta σ H fun x H1 => ∃ c, x = .bl c ∧ Q (.bl (!c)) H1
theorem pe_one {op} {t : TE} (h : PE X a t) : PE X (.BoolOp op [a] pos) t := fun pins s σ H Q I hw => BoolOp_one (h pins s σ H Q I hw)
theorem pe_and (ha : PE X a ta) (hb : PE X (.BoolOp .And (b :: rest) pos) tb) : PE X (.BoolOp .And (a :: b :: rest) pos) (tAndV ta tb) := by
  intro pins s σ H Q I h
  refine BoolOp_and (thn (ha pins s σ H _ I h) fun v s1 ⟨x, H1, I1, r1, q1⟩ => ?_)
  obtain ⟨c, rfl, q1⟩ := q1
  cases r1
  refine wpAny_truthy_bool ?_
  cases c with
  | true => exact hb pins s1 σ H1 Q I1 q1
  | false => exact ⟨.bl false, H1, I1, rfl, q1⟩
theorem pe_not (ha : PE X a ta) : PE X (.UnaryOp .Not a pos) (tNotV ta) := by
  intro pins s σ H Q I h
  refine UnaryOp_ (thn (ha pins s σ H _ I h) fun v s1 ⟨x, H1, I1, r1, q1⟩ => ?_)
  obtain ⟨c, rfl, q1⟩ := q1
  cases r1
  exact not_of (wpAny_truthy_bool ⟨.bl (!c), H1, I1, rfl, q1⟩)
def tIf (t : TT) (ta tb : TE) : TE := fun σ H Q => t σ H fun c H1 => if c = true then ta σ H1 Q else tb σ H1 Q
theorem pe_ifExp {c : Expr} (hc : PT X c tA) (ha : PE X a ta) (hb : PE X b tb) : PE X (.IfExp c a b pos) (tIf tA ta tb) := by
  intro pins s σ H Q I h
  refine wpAny_IfExp (thn (hc pins s σ H _ I h) fun d s1 ⟨H1, I1, q1⟩ => ?_)
  cases d with
  | true => exact ha pins s1 σ H1 Q I1 q1
  | false => exact hb pins s1 σ H1 Q I1 q1
end
end L2
namespace L2
open PySem PySem.Spec PyProof.Rows
def SqL (K : PySem.W.Frag) (H : Hp) (a : Addr) (xs : List V) : Prop :=
  Rd H a (.lst xs) ∨
    ∃ (o : Obj) (its : Array Value) (n : Nat), K.lookup a = some o ∧ o.cls = .type "list" ∧ o.dict = none ∧ o.data = .seq its n ∧ its.size ≤ sizeLine ∧ Vals xs its.toList
def SqT (K : PySem.W.Frag) (H : Hp) (a : Addr) (xs : List V) : Prop :=
  Rd H a (.tup xs) ∨
    ∃ (o : Obj) (its : Array Value) (n : Nat), K.lookup a = some o ∧ o.cls = .type "tuple" ∧ o.data = .seq its n ∧ its.size ≤ sizeLine ∧ Vals xs its.toList
def absV : Value → Option V
  | .none => some .non
  | .bool b => some (.bl b)
  | .int i _ => some (.int i)
  | .str x _ => some (.str x)
  | .bytes b _ => some (.byt b)
  | .float b _ => some (.flt b)
  | .ref a => some (.ref a)
  | .type n => some (.ty n)
  | _ => none
theorem RelV.abs {x : V} {u : Value} (r : RelV x u) : absV u = some x := by
  cases x with
  | non => cases r; rfl
  | bl _ => cases r; rfl
  | int _ => obtain ⟨t, rfl⟩ := r; rfl
  | str _ => obtain ⟨t, rfl⟩ := r; rfl
  | byt _ => obtain ⟨t, rfl⟩ := r; rfl
  | flt _ => obtain ⟨t, rfl⟩ := r; rfl
  | ref _ => cases r; rfl
  | ty _ => cases r; rfl
theorem RelV.inj {x y : V} {u : Value} (r : RelV x u) (q : RelV y u) : x = y := Option.some.inj (r.abs.symm.trans q.abs)
theorem Vals.inj : ∀ {xs ys : List V} {us : List Value}, Vals xs us → Vals ys us → xs = ys
  | _, _, _, .nil, .nil => rfl
  | _, _, _, .cons r t, .cons r' t' => by rw [r.inj r', Vals.inj t t']
section
variable {X : Cx} {pins : List (Addr × Obj)} {σ : St} {H : Hp} {s : Shared} {a : Addr} {xs ys : List V}
theorem SqL.of {K : PySem.W.Frag} (h : H a = some (.lst xs)) : SqL K H a xs := .inl (.inl h)
theorem SqT.of {K : PySem.W.Frag} (h : H a = some (.tup xs)) : SqT K H a xs := .inl (.inl h)
theorem Inv.list (I : Inv X pins σ H s) (h : SqL X.K H a xs) : ∃ its : List Value, Vals xs its ∧ PlainL s.heap a its.toArray ∧ xs.length ≤ sizeLine := by
  rcases h with h | ⟨o, its, n, hk, hc, hd, hs, hz, r⟩
  · obtain ⟨z, its, n, r, e⟩ := h.ok I.hok
    exact ⟨its, r, ⟨_, n, e, rfl, rfl, rfl⟩, z⟩
  · refine ⟨its.toList, r, ⟨o, n, I.kIn a o hk, hc, hd, by simpa using hs⟩, ?_⟩
    have e := r.length
    simp only [Array.length_toList] at e
    omega
theorem Inv.tuple (I : Inv X pins σ H s) (h : SqT X.K H a xs) : ∃ its : List Value, Vals xs its ∧ IsTup s.heap a its.toArray ∧ xs.length ≤ sizeLine := by
  rcases h with h | ⟨o, its, n, hk, hc, hs, hz, r⟩
  · obtain ⟨z, its, r, p⟩ := h.ok I.hok
    exact ⟨its, r, p, z⟩
  · refine ⟨its.toList, r, ⟨o, I.kIn a o hk, hc, n, by simpa using hs⟩, ?_⟩
    have e := r.length
    simp only [Array.length_toList] at e
    omega
theorem Inv.list_inj (I : Inv X pins σ H s) (h : SqL X.K H a xs) (h' : SqL X.K H a ys) : xs = ys := by
  obtain ⟨its, r, ⟨o, n, e, _, _, d⟩, _⟩ := I.list h
  obtain ⟨its', r', ⟨o', n', e', _, _, d'⟩, _⟩ := I.list h'
  rw [e] at e'; cases e'
  rw [d] at d'
  injection d' with d1 _
  have : its = its' := by simpa using congrArg Array.toList d1
  subst this
  exact r.inj r'
theorem Inv.tuple_inj (I : Inv X pins σ H s) (h : SqT X.K H a xs) (h' : SqT X.K H a ys) : xs = ys := by
  obtain ⟨its, r, ⟨o, e, _, n, d⟩, _⟩ := I.tuple h
  obtain ⟨its', r', ⟨o', e', _, n', d'⟩, _⟩ := I.tuple h'
  rw [e] at e'; cases e'
  rw [d] at d'
  injection d' with d1 _
  have : its = its' := by simpa using congrArg Array.toList d1
  subst this
  exact r.inj r'
end
abbrev Cx.wish (X : Cx) (E : Value → Shared → Prop) : Cx := { X with xe := E }
abbrev Cx.nox (X : Cx) : Cx := X.wish fun _ _ => False
theorem Cx.Ok.wish {X : Cx} (ok : X.Ok) (E : Value → Shared → Prop) : (X.wish E).Ok :=
  ⟨ok.mod, ok.kind, ok.glob, ok.blt, ok.above, ok.inj, ok.has, ok.cab, ok.hd, ok.frames, ok.stk, ok.exf, ok.bs, ok.bsz, ok.noex, ok.exfs, ok.funs, ok.frf⟩
theorem Cx.Ok.unwish {X : Cx} {E : Value → Shared → Prop} (ok : (X.wish E).Ok) : X.Ok :=
  ⟨ok.mod, ok.kind, ok.glob, ok.blt, ok.above, ok.inj, ok.has, ok.cab, ok.hd, ok.frames, ok.stk, ok.exf, ok.bs, ok.bsz, ok.noex, ok.exfs, ok.funs, ok.frf⟩
section
variable {X : Cx} {pins : List (Addr × Obj)} {σ : St} {H : Hp} {s : Shared} {E : Value → Shared → Prop}
theorem Inv.wish (I : Inv X pins σ H s) (E : Value → Shared → Prop) : Inv (X.wish E) pins σ H s := ⟨I.ok.wish E, I.os, I.bare, I.base, I.loc, I.cell, I.free, I.freeC, I.pin, I.hok, I.len⟩
theorem Inv.unwish (I : Inv (X.wish E) pins σ H s) : Inv X pins σ H s := ⟨I.ok.unwish, I.os, I.bare, I.base, I.loc, I.cell, I.free, I.freeC, I.pin, I.hok, I.len⟩
theorem SP.unwish {D : Ends} {f : Flow} {s' : Shared} (h : SP (X.wish E) pins D f s') : SP X pins D f s' := by
  cases f with
  | next => obtain ⟨σ', H', I, q⟩ := h; exact ⟨σ', H', I.unwish, q⟩
  | brk => obtain ⟨σ', H', I, q⟩ := h; exact ⟨σ', H', I.unwish, q⟩
  | cont => obtain ⟨σ', H', I, q⟩ := h; exact ⟨σ', H', I.unwish, q⟩
  | ret u => obtain ⟨v, σ', H', I, r, q⟩ := h; exact ⟨v, σ', H', I.unwish, r, q⟩
theorem PE.nox {e : Expr} {t : TE} (h : PE X.nox e t) : PE X e t := fun pins s σ H Q I hw =>
  wpAny_mono (h pins s σ H Q (I.wish _) hw) (fun _ _ ⟨v, H', I', r, q⟩ => ⟨v, H', I'.unwish, r, q⟩) fun _ _ z => False.elim z
theorem PT.nox {e : Expr} {t : TT} (h : PT X.nox e t) : PT X e t := fun pins s σ H Q I hw =>
  wpAny_mono (h pins s σ H Q (I.wish _) hw) (fun _ _ ⟨H', I', q⟩ => ⟨H', I'.unwish, q⟩) fun _ _ z => False.elim z
theorem PSs.nox {st : List Stmt} {t : TS} (h : PSs X.nox st t) : PSs X st t := fun pins s σ H D I hw =>
  wpAny_mono (h pins s σ H D (I.wish _) hw) (fun _ _ q => q.unwish) fun _ _ z => False.elim z
end
section
variable {X : Cx} {st : Stmt} {rest : List Stmt} {t u : TS} {e : Expr} {te : TE} {pos : Pos}
def tNext : TS := fun D σ H => D.nx σ H
def tSeq (t u : TS) : TS := fun D σ H => t { D with nx := u D } σ H
theorem pss_nil : PSs X [] tNext := fun _ _ σ H _ I h => wpAny_execs_nil ⟨σ, H, I, h⟩
theorem pss_cons (h1 : PS X st t) (h2 : PSs X rest u) : PSs X (st :: rest) (tSeq t u) := by
  intro pins s σ H D I h
  refine wpAny_execs_cons (thn (h1 pins s σ H { D with nx := u D } I h) fun f s1 q => ?_)
  cases f with
  | next =>
    obtain ⟨σ', H', I', q⟩ := q
    exact h2 pins s1 σ' H' D I' q
  | ret v => exact q
  | brk => exact q
  | cont => exact q
theorem pss_one (h1 : PS X st t) : PSs X [st] t := by
  intro pins s σ H D I h
  refine wpAny_execs_cons (thn (h1 pins s σ H D I h) fun f s1 q => ?_)
  cases f with
  | next => exact wpAny_execs_nil q
  | ret v => exact q
  | brk => exact q
  | cont => exact q
theorem Inv.quiet {pins : List (Addr × Obj)} {σ : St} {H : Hp} {s : Shared} (I : Inv X pins σ H s) : interactive X.env = false := by simp [interactive, I.ok.kind]
def tDrop (te : TE) : TS := fun D σ H => te σ H fun _ H1 => D.nx σ H1
theorem ps_expr (he : PE X e te) (hs : swapsWith e none pos.line X.env = pure false := by rfl) : PS X (.Expr e pos) (tDrop te) := by
  intro pins s σ H D I h
  exact wpAny_Expr_any (thn (he pins s σ H _ I h) fun v s1 ⟨x, H1, I1, r1, q1⟩ => ⟨σ, H1, I1, q1⟩) I.quiet hs
def tRet (te : TE) : TS := fun D σ H => te σ H D.rt
theorem ps_ret (he : PE X e te) : PS X (.Return (some e) pos) (tRet te) := by
  intro pins s σ H D I h
  exact wpAny_Return_some (thn (he pins s σ H _ I h) fun v s1 ⟨x, H1, I1, r1, q1⟩ => ⟨x, σ, H1, I1, r1, q1⟩)
def tRetN : TS := fun D _ H => D.rt .non H
def tIfS (c : TT) (t u : TS) : TS := fun D σ H => c σ H fun b H1 => if b = true then t D σ H1 else u D σ H1
theorem ps_if {c : Expr} {a b : List Stmt} {tc : TT} (hc : PT X c tc) (ha : PSs X a t) (hb : PSs X b u) : PS X (.If c a b pos) (tIfS tc t u) := by
  intro pins s σ H D I h
  refine wpAny_If (thn (hc pins s σ H _ I h) fun d s1 ⟨H1, I1, q1⟩ => ?_)
  cases d with
  | true => exact ha pins s1 σ H1 D I1 q1
  | false => exact hb pins s1 σ H1 D I1 q1
end
abbrev TG := V → St → Hp → (St → Hp → Prop) → Prop
abbrev TGs := List V → St → Hp → (St → Hp → Prop) → Prop
def PG (X : Cx) (target : Expr) (t : TG) : Prop :=
  ∀ (pins : List (Addr × Obj)) (s : Shared) (σ : St) (H : Hp) (v : V) (u : Value) (Q : St → Hp → Prop), Inv X pins σ H s → RelV v u → t v σ H Q →
    wpAny (model X.prog X.w) X.A (assign target X.env u) (fun _ s' => ∃ σ' H', Inv X pins σ' H' s' ∧ Q σ' H') X.xe s
def PGs (X : Cx) (ts : List Expr) (t : TGs) : Prop :=
  ∀ (pins : List (Addr × Obj)) (s : Shared) (σ : St) (H : Hp) (vs : List V) (us : List Value) (Q : St → Hp → Prop), Inv X pins σ H s → Vals vs us → t vs σ H Q →
    wpAny (model X.prog X.w) X.A (assignInOrder ((assignEach ts X.env).map (·.2)) us) (fun _ s' => ∃ σ' H', Inv X pins σ' H' s' ∧ Q σ' H') X.xe s
abbrev TSet := V → V → V → Hp → (Hp → Prop) → Prop
def PSet (X : Cx) (t : TSet) : Prop :=
  ∀ (pins : List (Addr × Obj)) (s : Shared) (σ : St) (H : Hp) (o i v : V) (ov iv u : Value) (Q : Hp → Prop), Inv X pins σ H s → RelV o ov → RelV i iv → RelV v u → t o i v H Q →
    wpAny (model X.prog X.w) X.A (setItem ov iv u) (fun _ s' => ∃ H', Inv X pins σ H' s' ∧ Q H') X.xe s
section
variable {X : Cx} {pos : Pos}
def gName (i : Nat) : TG := fun v σ H Q => Q (σ.set i (some v)) H
theorem pg_name {i : Nat} {x : Str} (hN : X.N.Nodup) (hi : X.N[i]? = some x) (hx : Loc X.env.scope x) (hf : X.fn x = true ∨ X.env.scope.names.lookup x = some .local := by first | exact .inl rfl | exact .inr rfl | assumption) : PG X (.Name x pos) (gName i) := by
  intro pins s σ H v u Q I r h
  exact wpAny_assign_Name (store_ok I hN hi hx r (fun s' I' => ⟨_, H, I', h⟩) hf)
def gNil : TGs := fun vs σ H Q => vs = [] ∧ Q σ H
def gCons (t : TG) (u : TGs) : TGs := fun vs σ H Q => ∃ v r, vs = v :: r ∧ t v σ H fun σ' H' => u r σ' H' Q
theorem pgs_nil : PGs X [] gNil := by
  intro pins s σ H vs us Q I r h
  obtain ⟨e, h⟩ := h
  subst e
  cases r
  exact assignInOrder_nil ⟨σ, H, I, h⟩
theorem pgs_cons {e : Expr} {es : List Expr} {t : TG} {u : TGs} (h1 : PG X e t) (h2 : PGs X es u)
    (hs : (assignEach (e :: es) X.env).map (·.2) = assign e X.env :: (assignEach es X.env).map (·.2) := by rfl) : PGs X (e :: es) (gCons t u) := by
  intro pins s σ H vs us Q I r h
  obtain ⟨v, vr, e1, h⟩ := h
  subst e1
  cases r with
  | cons r rr =>
    rw [hs]
    refine assignInOrder_cons (thn (h1 pins s σ H _ _ _ I r h) fun _ s1 ⟨σ1, H1, I1, q1⟩ => ?_)
    exact h2 pins s1 σ1 H1 _ _ Q I1 rr q1
def gTup (K : PySem.W.Frag) (n : Nat) (t : TGs) : TG := fun v σ H Q => ∃ a xs, v = .ref a ∧ SqT K H a xs ∧ xs.length = n ∧ t xs σ H Q
theorem pg_tup {es : List Expr} {k : Nat} {t : TGs} {n : Nat} (hc : X.calm = true) (h : PGs X es t)
    (hn : (assignEach es X.env).length = n := by rfl) (hst : (assignEach es X.env).findIdx? (·.1) = none := by rfl) : PG X (.Tuple es k pos) (gTup X.K n t) := by
  intro pins s σ H v u Q I r hw
  obtain ⟨a, xs, e1, hq, hl, hw⟩ := hw
  subst e1
  cases r
  obtain ⟨its, rv, ht, hz⟩ := I.tuple hq
  refine assign_Tuple_tuple (I.ok.hd hc) ht (by simp [hn, ← hl, rv.length]) hst fun h' hx => ?_
  have I1 : Inv X pins σ H { s with heap := h' } := I.kept (t' := s.toks) fun b o e => hx b o (Nat.ne_of_lt (Heap.lt_size e)) e
  exact h pins _ σ H xs _ Q I1 (by simpa using rv) hw
def gSub (to ti : TE) (t : TSet) : TG := fun v σ H Q => to σ H fun o H1 => ti σ H1 fun i H2 => t o i v H2 fun H3 => Q σ H3
theorem pg_sub {o i : Expr} {to ti : TE} {t : TSet} (ho : PE X o to) (hi : PE X i ti) (hs : PSet X t)
    (ha : ∀ v, assign (.Subscript o i pos) X.env v = (do
      let ov ← holding [v] (eval o X.env)
      let iv ← holding [v, ov] (eval i X.env)
      standAt pos
      holding [v, ov, iv] (setItem ov iv v)
      release [v, ov, iv] []) := by intro _; rfl) : PG X (.Subscript o i pos) (gSub to ti t) := by
  intro pins s σ H v u Q I r h
  rw [ha]
  refine wpAny_bind (wpAny_holding (thn (ho pins s σ H _ I h) fun ov s1 ⟨x, H1, I1, r1, q1⟩ => ?_))
  refine wpAny_bind (wpAny_holding (thn (hi pins s1 σ H1 _ I1 q1) fun iv s2 ⟨y, H2, I2, r2, q2⟩ => ?_))
  refine wpAny_bind (wpAny_standAt (wpAny_bind (wpAny_holding (thn (hs pins s2 σ H2 x y v ov iv u _ I2 r1 r2 r q2) fun _ s3 ⟨H3, I3, q3⟩ => ?_))))
  exact wpAny_release ⟨σ, H3, I3, q3⟩
def tAsg (te : TE) (g : TG) : TS := fun D σ H => te σ H fun x H1 => g x σ H1 D.nx
theorem ps_asg {tg e : Expr} {te : TE} {g : TG} (he : PE X e te) (hg : PG X tg g) (hs : swapsWithSole [tg] e pos.line X.env = pure false := by rfl) (hw : swappedStores [tg] e X.env = pure none := by rfl)
    (h1 : (assignEach [tg] X.env).map (·.2) = [assign tg X.env] := by rfl) : PS X (.Assign [tg] e pos) (tAsg te g) := by
  intro pins s σ H D I h
  refine wpAny_Assign_stores (thn (he pins s σ H _ I h) fun v s1 ⟨x, H1, I1, r1, q1⟩ => ?_) hs hw
  rw [h1]
  exact thn (hg pins s1 σ H1 x v _ I1 r1 q1) fun _ s2 q => q
theorem ps_set {i : Nat} {x : Str} {e : Expr} {te : TE} {pos' : Pos} (hN : X.N.Nodup) (hi : X.N[i]? = some x) (hx : Loc X.env.scope x) (he : PE X e te) (hs : swapsWith e (some (.Name x pos')) pos.line X.env = pure false := by rfl) (hf : X.fn x = true ∨ X.env.scope.names.lookup x = some .local := by first | exact .inl rfl | exact .inr rfl | assumption) :
    PS X (.Assign [.Name x pos'] e pos) (tAsg te (gName i)) := by
  intro pins s σ H D I h
  refine wpAny_Assign_Name (thn (he pins s σ H _ I h) fun v s1 ⟨y, H1, I1, r1, q1⟩ => ?_) hs
  exact store_ok I1 hN hi hx r1 (fun s2 I2 => ⟨_, H1, I2, q1⟩) hf
def tPar (i j : Nat) (ta : TA) : TS := fun D σ H => ta σ H fun vs H1 => ∃ v w, vs = [v, w] ∧ D.nx ((σ.set i (some v)).set j (some w)) H1
end
section
variable {X : Cx} {pos : Pos}
def tWhile (c : TT) (tb : TS) : TS := fun D σ H => ∃ W : Nat → St → Hp → Prop, (∃ m, W m σ H) ∧ ∀ m σ H, W m σ H →
  c σ H fun b H1 => if b = true then ∃ N : St → Hp → Prop, (∀ σ' H', N σ' H' → ∃ m', m' < m ∧ W m' σ' H') ∧ tb { D with nx := N, ct := N, bk := D.nx } σ H1 else D.nx σ H1
theorem ps_while {c : Expr} {body : List Stmt} {tc : TT} {tb : TS} (hp : PassesOwn (model X.prog X.w) X.A X.env X.xe) (hc : PT X c tc) (hb : PSs X body tb) : PS X (.While c body [] pos) (tWhile tc tb) := by
  intro pins s σ H D I h
  obtain ⟨W, ⟨m0, w0⟩, turn⟩ := h
  refine wpAny_While (codeAny_whileLoop (fun n s' => ∃ σ' H', Inv X pins σ' H' s' ∧ W n σ' H') ?_ m0 ⟨σ, H, I, w0⟩)
  rintro n s1 ⟨σ1, H1, I1, w1⟩
  refine wpAny_passesOwn hp (thn (hc pins s1 σ1 H1 _ I1 (turn n σ1 H1 w1)) fun b s2 ⟨H2, I2, q2⟩ => ?_)
  cases b with
  | true =>
    obtain ⟨N, hN, q2⟩ := q2
    rw [if_pos rfl]
    refine wpAny_passesOwn hp (thn (hb pins s2 σ1 H2 _ I2 q2) fun f s3 q3 => ?_)
    cases f with
    | next =>
      obtain ⟨σ3, H3, I3, n3⟩ := q3
      obtain ⟨m', hm, w3⟩ := hN σ3 H3 n3
      exact ⟨m', hm, σ3, H3, I3, w3⟩
    | cont =>
      obtain ⟨σ3, H3, I3, n3⟩ := q3
      obtain ⟨m', hm, w3⟩ := hN σ3 H3 n3
      exact ⟨m', hm, σ3, H3, I3, w3⟩
    | brk => exact q3
    | ret v => exact q3
  | false =>
    rw [if_neg Bool.false_ne_true]
    exact wpAny_execs_nil ⟨σ1, H2, I2, q2⟩
end
structure It where
  go : Nat → Hp → Prop
  yld : Nat → Hp → V → Hp → Prop
  stop : Nat → Hp → Prop
def FpOk (X : Cx) (pins : List (Addr × Obj)) (H : Hp) (b : Addr) : Prop :=
  H b = none ∧ b ≠ X.env.locals ∧ b ∉ X.fs ∧ (b ∈ X.ex ∨ X.s₀.heap.objs.size ≤ b) ∧ (∀ x c, X.env.cells.lookup x = some c → c ≠ b) ∧ ∀ p ∈ X.pn ++ pins, p.1 ≠ b
theorem Inv.fpOk {X : Cx} {pins : List (Addr × Obj)} {σ : St} {H H' : Hp} {s : Shared} {b : Addr} (I : Inv X pins σ H s) (hb : s.heap.objs.size ≤ b) (hn : H' b = none) : FpOk X pins H' b := by
  refine ⟨hn, Nat.ne_of_gt (Nat.lt_of_lt_of_le I.lt hb), I.nofs hb, .inr (Nat.le_trans I.sz hb), fun x c e z => ?_, fun p hp z => ?_⟩
  · obtain ⟨v, q⟩ := I.cell x c e
    exact absurd (Nat.lt_of_lt_of_le q.lt (by rw [z]; exact hb)) (Nat.lt_irrefl _)
  · exact absurd (Nat.lt_of_lt_of_le (Heap.lt_size (I.pin p hp).1) (by rw [z]; exact hb)) (Nat.lt_irrefl _)
structure Turn (P : Program) (w : World) (K : PySem.W.Frag) (tg : Expr) (J : It) (fp : List Addr) (it : Addr) (tn : Nat → Heap → Prop) : Prop where
  mem : it ∈ fp
  obj : ∀ i h, tn i h → ∀ b ∈ fp, ∃ o, h.get? b = some o ∧ ∀ v, o.data ≠ .cell v
  keep : ∀ i h h', tn i h → (∀ b ∈ fp, ∀ o, h.get? b = some o → h'.get? b = some o) → tn i h'
  item : ∀ (X : Cx), X.prog = P → X.w = w → X.K = K → X.calm = true → ∀ (i : Nat) (pins : List (Addr × Obj)) (s : Shared) (σ : St) (H : Hp) (E : Value → Shared → Prop), Inv X pins σ H s → (∀ b ∈ fp, FpOk X pins H b) → tn i s.heap → J.go i H →
    wpAny (model P w) X.A (pyNext (.ref it)) (fun r s1 => ∃ u, r = some u ∧
      wpAny (model P w) X.A (letOwnedTupleGo tg (.ref it) u) (fun _ s2 => ∃ x H', Inv X pins σ H' s2 ∧ RelV x u ∧ J.yld i H x H' ∧ tn (i + 1) s2.heap ∧ ∀ b ∈ fp, H' b = none) E s1) E s
  done : ∀ (X : Cx), X.prog = P → X.w = w → X.K = K → X.calm = true → ∀ (i : Nat) (pins : List (Addr × Obj)) (s : Shared) (σ : St) (H : Hp) (E : Value → Shared → Prop), Inv X pins σ H s → (∀ b ∈ fp, FpOk X pins H b) → tn i s.heap → J.stop i H →
    wpAny (model P w) X.A (pyNext (.ref it)) (fun r s1 => r = none ∧ Inv X pins σ H s1) E s
  self : ∀ (A : Around) (i : Nat) (s : Shared) (Q : Value → Shared → Prop) (E : Value → Shared → Prop), tn i s.heap → Q (.ref it) s → wpAny (model P w) A (pyIter (.ref it)) Q E s
abbrev TI := St → Hp → (It → Hp → Prop) → Prop
def PIE (X : Cx) (pins : List (Addr × Obj)) (σ : St) (tg : Expr) (R : It → Hp → Prop) (itv : Value) (s2 : Shared) : Prop :=
  ∃ (it : Addr) (fp : List Addr) (tn : Nat → Heap → Prop) (J : It) (H' : Hp), itv = .ref it ∧ Inv X pins σ H' s2 ∧ Turn X.prog X.w X.K tg J fp it tn ∧ tn 0 s2.heap ∧ (∀ b ∈ fp, FpOk X pins H' b) ∧ R J H'
def PI (X : Cx) (tg iter : Expr) (wi : TI) : Prop :=
  ∀ (pins : List (Addr × Obj)) (s : Shared) (σ : St) (H : Hp) (R : It → Hp → Prop), Inv X pins σ H s → wi σ H R →
    wpAny (model X.prog X.w) X.A (eval iter X.env) (fun v s1 => wpAny (model X.prog X.w) X.A (pyIter v) (PIE X pins σ tg R) X.xe s1) X.xe s
theorem go_of {M : Model} {A : Around} {E : Value → Shared → Prop} {s : Shared} {tg : Expr} {it : Addr} {u : Value} {o : Obj} {n : String} {vs : Array Value} {Q : Unit → Shared → Prop} (ho : s.heap.get? it = some o) (hc : o.cls = .type n) (hd : o.data = .fields vs)
    (hn : ["enumerate", "zip", "dict_itemiterator", "dict_reverseitemiterator", "odict_iterator", "itertools.zip_longest", "itertools.pairwise"].contains n = false) (hQ : Q () s) : wpAny M A (letOwnedTupleGo tg (.ref it) u) Q E s := by
  unfold letOwnedTupleGo
  cases tg <;> first
    | exact wpAny_pure hQ
    | (cases u <;> first
        | exact wpAny_pure hQ
        | (refine wpAny_bind (wpAny_load ho ?_)
           rw [hc, hd]
           show wpAny M A (if (["enumerate", "zip", "dict_itemiterator", "dict_reverseitemiterator", "odict_iterator", "itertools.zip_longest", "itertools.pairwise"].contains n && vs[0]? == some (rawInt _)) = true then _ else _) Q E s
           rw [if_neg (by intro h; rw [hn, Bool.false_and] at h; cases h)]
           exact wpAny_pure hQ))
def Itl (K : PySem.W.Frag) (a : Addr) : It :=
  ⟨fun i H => ∃ xs x, SqL K H a xs ∧ xs[i]? = some x, fun i H x H' => H' = H ∧ ∀ xs, SqL K H a xs → xs[i]? = some x, fun i H => ∃ xs, SqL K H a xs ∧ xs.length ≤ i⟩
def Itt (K : PySem.W.Frag) (a : Addr) : It :=
  ⟨fun i H => ∃ xs x, SqT K H a xs ∧ xs[i]? = some x, fun i H x H' => H' = H ∧ ∀ xs, SqT K H a xs → xs[i]? = some x, fun i H => ∃ xs, SqT K H a xs ∧ xs.length ≤ i⟩
def Itr (lo : Int) (n : Nat) : It := ⟨fun i _ => i < n, fun i H x H' => H' = H ∧ x = .int (lo + i), fun i _ => n ≤ i⟩
theorem turn_list {P : Program} {w : World} {K : PySem.W.Frag} {tg : Expr} (a it : Addr) : Turn P w K tg (Itl K a) [it] it (fun i h => h.IsListIter it a i) where
  mem := by simp
  obj := fun i h st b hb => by
    have e : b = it := by simpa using hb
    subst e
    obtain ⟨o, e, c, d⟩ := st
    exact ⟨o, e, fun v z => by rw [d] at z; cases z⟩
  keep := fun i h h' st k => st.at fun o e => k it (by simp) o e
  item := by
    intro X hP hw hK hc i pins s σ H E I hf st hg
    subst hP hw hK
    obtain ⟨xs, x, hq, hx⟩ := hg
    obtain ⟨its, rv, p, hz⟩ := I.list hq
    obtain ⟨u, hu, ru⟩ := rv.get hx
    obtain ⟨f0, f1, f2, f3, f4, f5⟩ := hf it (by simp)
    refine wpAny_pyNext_list_item st p.isList (x := u) (by simpa using hu) fun h' st' sb => ?_
    have I1 : Inv X pins σ H { s with heap := h' } := I.turned (t' := s.toks) (fun b o hb e => (sb.2 b hb).trans e) f0 f1 f3 f4 f5
    obtain ⟨o, e, c, d⟩ := id st'
    exact ⟨u, rfl, go_of (s := { s with heap := h' }) e c d (by decide) ⟨x, H, I1, ru, ⟨rfl, fun ys hy => by rw [I.list_inj hy hq]; exact hx⟩, st', fun b hb => (hf b hb).1⟩⟩
  done := by
    intro X hP hw hK hc i pins s σ H E I hf st hg
    subst hP hw hK
    obtain ⟨xs, hq, hx⟩ := hg
    obtain ⟨its, rv, p, hz⟩ := I.list hq
    obtain ⟨f0, f1, f2, f3, f4, f5⟩ := hf it (by simp)
    have hl := rv.length
    exact wpAny_pyNext_list_end (I.ok.hd hc) st p.isList (by simp; omega) fun h' eb => ⟨rfl, I.turned (t' := s.toks) (fun b o hb e => eb b o hb e) f0 f1 f3 f4 f5⟩
  self := fun _ _ _ _ _ st h => wpAny_pyIter_listiter st h
theorem turn_tuple {P : Program} {w : World} {K : PySem.W.Frag} {tg : Expr} (a it : Addr) : Turn P w K tg (Itt K a) [it] it (fun i h => h.IsTupleIter it a i) where
  mem := by simp
  obj := fun i h st b hb => by
    have e : b = it := by simpa using hb
    subst e
    obtain ⟨o, e, c, d⟩ := st
    exact ⟨o, e, fun v z => by rw [d] at z; cases z⟩
  keep := fun i h h' st k => st.at fun o e => k it (by simp) o e
  item := by
    intro X hP hw hK hc i pins s σ H E I hf st hg
    subst hP hw hK
    obtain ⟨xs, x, hq, hx⟩ := hg
    obtain ⟨its, rv, p, hz⟩ := I.tuple hq
    obtain ⟨u, hu, ru⟩ := rv.get hx
    obtain ⟨f0, f1, f2, f3, f4, f5⟩ := hf it (by simp)
    refine wpAny_pyNext_tuple_item st (show s.heap.IsTuple a its.toArray from p) (x := u) (by simpa using hu) fun h' st' sb => ?_
    have I1 : Inv X pins σ H { s with heap := h' } := I.turned (t' := s.toks) (fun b o hb e => (sb.2 b hb).trans e) f0 f1 f3 f4 f5
    obtain ⟨o, e, c, d⟩ := id st'
    exact ⟨u, rfl, go_of (s := { s with heap := h' }) e c d (by decide) ⟨x, H, I1, ru, ⟨rfl, fun ys hy => by rw [I.tuple_inj hy hq]; exact hx⟩, st', fun b hb => (hf b hb).1⟩⟩
  done := by
    intro X hP hw hK hc i pins s σ H E I hf st hg
    subst hP hw hK
    obtain ⟨xs, hq, hx⟩ := hg
    obtain ⟨its, rv, p, hz⟩ := I.tuple hq
    obtain ⟨f0, f1, f2, f3, f4, f5⟩ := hf it (by simp)
    have hl := rv.length
    exact wpAny_pyNext_tuple_end (I.ok.hd hc) st (show s.heap.IsTuple a its.toArray from p) (by simp; omega) fun h' eb => ⟨rfl, I.turned (t' := s.toks) (fun b o hb e => eb b o hb e) f0 f1 f3 f4 f5⟩
  self := fun _ _ _ _ _ st h => wpAny_pyIter_tupleiter st h
theorem turn_range {P : Program} {w : World} {K : PySem.W.Frag} {tg : Expr} (it : Addr) (lo : Int) (n : Nat) : Turn P w K tg (Itr lo n) [it] it (fun i h => IsRangeIter h it (lo + (i : Nat) * 1) ((n : Int) - (i : Nat)) 1) where
  mem := by simp
  obj := fun i h st b hb => by
    have e : b = it := by simpa using hb
    subst e
    exact ⟨_, st, fun v z => by
      have z' : Data.fields _ = Data.cell v := z
      cases z'⟩
  keep := fun i h h' st k => k it (by simp) _ st
  item := by
    intro X hP hw hK hc i pins s σ H E I hf st hg
    subst hP hw hK
    obtain ⟨f0, f1, f2, f3, f4, f5⟩ := hf it (by simp)
    have W := Walks.range (prog := X.prog) (w := X.w) (I.ok.hd hc) it lo 1 n
    refine W.item i s _ _ hg st fun v h' tk hv st' kk => ?_
    obtain ⟨t, rfl⟩ := hv
    have I1 : Inv X pins σ H { s with heap := h', toks := tk } := I.turned (fun b o hb e => kk b o (by simpa using hb) e) f0 f1 f3 f4 f5
    refine ⟨_, rfl, go_of (s := { s with heap := h', toks := tk }) (n := "range_iterator") st' rfl rfl (by decide) ⟨.int (lo + i), H, I1, ⟨t, ?_⟩, ⟨rfl, rfl⟩, st', fun b hb => (hf b hb).1⟩⟩
    rw [Int.mul_one]
  done := by
    intro X hP hw hK hc i pins s σ H E I hf st hg
    subst hP hw hK
    obtain ⟨f0, f1, f2, f3, f4, f5⟩ := hf it (by simp)
    exact wpAny_pyNext_range_end (I.ok.hd hc) st (by have : n ≤ i := hg; omega) fun h' eb => ⟨rfl, I.turned (t' := s.toks) (fun b o hb e => eb b o hb e) f0 f1 f3 f4 f5⟩
  self := fun _ _ _ _ _ st h => wpAny_pyIter_rangeiter st h
end L2
namespace L2
open PySem PySem.Spec PyProof.Rows
section
variable {X : Cx} {tg : Expr}
def iList (K : PySem.W.Frag) (tl : TE) : TI := fun σ H R => tl σ H fun x H1 => ∃ a, x = .ref a ∧ (∃ xs, SqL K H1 a xs) ∧ R (Itl K a) H1
def iTup (K : PySem.W.Frag) (tl : TE) : TI := fun σ H R => tl σ H fun x H1 => ∃ a, x = .ref a ∧ (∃ xs, SqT K H1 a xs) ∧ R (Itt K a) H1
theorem pi_list {l : Expr} {tl : TE} (hl : PE X l tl) : PI X tg l (iList X.K tl) := by
  intro pins s σ H R I h
  refine thn (hl pins s σ H _ I h) fun v s1 ⟨x, H1, I1, r1, q1⟩ => ?_
  obtain ⟨a, e, ⟨xs, hq⟩, q⟩ := q1
  subst e
  cases r1
  obtain ⟨its, rv, p, hz⟩ := I1.list hq
  refine wpAny_pyIter_list p.isList ?_
  refine ⟨s1.heap.objs.size, [s1.heap.objs.size], _, _, H1, rfl, I1.kept (t' := s1.toks) fun b o e => Heap.get?_push_of_some _ e, turn_list a _, ⟨_, Heap.get?_push_size _ rfl, rfl, rfl⟩, fun b hb => ?_, q⟩
  have e : b = s1.heap.objs.size := by simpa using hb
  subst e
  exact I1.fpOk (Nat.le_refl _) (I1.hok.fresh (Nat.le_refl _))
theorem pi_tup {l : Expr} {tl : TE} (hl : PE X l tl) : PI X tg l (iTup X.K tl) := by
  intro pins s σ H R I h
  refine thn (hl pins s σ H _ I h) fun v s1 ⟨x, H1, I1, r1, q1⟩ => ?_
  obtain ⟨a, e, ⟨xs, hq⟩, q⟩ := q1
  subst e
  cases r1
  obtain ⟨its, rv, p, hz⟩ := I1.tuple hq
  refine wpAny_pyIter_tuple (show s1.heap.IsTuple a its.toArray from p) ?_
  refine ⟨s1.heap.objs.size, [s1.heap.objs.size], _, _, H1, rfl, I1.kept (t' := s1.toks) fun b o e => Heap.get?_push_of_some _ e, turn_tuple a _, ⟨_, Heap.get?_push_size _ rfl, rfl, rfl⟩, fun b hb => ?_, q⟩
  have e : b = s1.heap.objs.size := by simpa using hb
  subst e
  exact I1.fpOk (Nat.le_refl _) (I1.hok.fresh (Nat.le_refl _))
theorem range_it {pins : List (Addr × Obj)} {σ : St} {H : Hp} {s : Shared} {R : It → Hp → Prop} {E : Value → Shared → Prop} {lo hi : Int} {t u v : Tok} {tk : Nat} (I : Inv X pins σ H s) (h1 : -(2 ^ 62) ≤ lo) (h2 : lo < 2 ^ 62) (h3 : -(2 ^ 62) ≤ hi) (h4 : hi < 2 ^ 62)
    (q : R (Itr lo (hi - lo).toNat) H) : wpAny (model X.prog X.w) X.A (pyIter (.ref s.heap.objs.size)) (PIE X pins σ tg R) E { s with heap := s.heap.push { cls := .type "range", data := .fields #[.int lo t, .int hi u, .int 1 v] }, toks := tk } := by
  refine wpAny_pyIter_range (IsRange.new ..) (small_one h1 h2 h3 h4) ?_
  have I1 : Inv X pins σ H { s with heap := s.heap.push { cls := .type "range", data := .fields #[.int lo t, .int hi u, .int 1 v] }, toks := tk } := I.kept fun b o e => Heap.get?_push_of_some _ e
  refine ⟨(s.heap.push { cls := .type "range", data := .fields #[.int lo t, .int hi u, .int 1 v] }).objs.size, [(s.heap.push { cls := .type "range", data := .fields #[.int lo t, .int hi u, .int 1 v] }).objs.size], _, _, H, rfl,
    I1.kept (t' := tk) fun b o e => Heap.get?_push_of_some _ e, turn_range _ lo (hi - lo).toNat, ?_, fun b hb => ?_, q⟩
  · have e1 : lo + ((0 : Nat) : Int) * 1 = lo := by simp
    have e2 : (((hi - lo).toNat : Nat) : Int) - ((0 : Nat) : Int) = Builtin.Range.rangeSize lo hi 1 := by rw [rangeSize_one]; split <;> omega
    show IsRangeIter _ _ (lo + ((0 : Nat) : Int) * 1) ((((hi - lo).toNat : Nat) : Int) - ((0 : Nat) : Int)) 1
    rw [e1, e2]
    exact Heap.get?_push_size _ rfl
  · have e : b = (s.heap.push { cls := .type "range", data := .fields #[.int lo t, .int hi u, .int 1 v] }).objs.size := by simpa using hb
    subst e
    exact I1.fpOk (Nat.le_refl _) (I1.hok.fresh (Nat.le_refl _))
def iRng1 (ta : TA) : TI := fun σ H R => ta σ H fun vs H1 => ∃ j : Int, vs = [.int j] ∧ -(2 ^ 62) ≤ j ∧ j < 2 ^ 62 ∧ R (Itr 0 j.toNat) H1
theorem pi_range1 {a : Expr} {ta : TA} {p pos : Pos} (hg : Gl X "range") (hm : X.mg "range" = none) (ha : PA X [a] ta) (hs : starEach [a] X.env = [(false, eval a X.env)] := by rfl) : PI X tg (.Call (.Name "range" p) [a] [] pos) (iRng1 ta) := by
  intro pins s σ H R I h
  refine Call_ (ld_blt I hg hm boot_range (PyProof.Rows.callWith_type1 (thn (ha pos pins s σ H _ I h) fun us s1 ⟨vs, H1, I1, r1, q1⟩ => ?_) hs rfl))
  obtain ⟨j, e, q1, q2, q⟩ := q1
  subst e
  cases r1 with
  | cons r rr =>
    cases rr
    obtain ⟨t, rfl⟩ := r
    exact call_range_1 (range_it I1 (by omega) (by omega) q1 q2 (by simpa using q))
def tFor (wi : TI) (g : TG) (tb : TS) : TS := fun D σ H => wi σ H fun J H1 => ∃ W : Nat → Nat → St → Hp → Prop, (∃ m, W 0 m σ H1) ∧ ∀ i m σ H, W i m σ H →
  (J.stop i H ∧ D.nx σ H) ∨ (J.go i H ∧ ∃ N : St → Hp → Prop, (∀ σ' H', N σ' H' → ∃ m', m' < m ∧ W (i + 1) m' σ' H') ∧ ∀ x H', J.yld i H x H' → g x σ H' fun σ2 H2 => tb { D with nx := N, ct := N, bk := D.nx } σ2 H2)
def pinsAt (fp : List Addr) (h : Heap) : List (Addr × Obj) := fp.filterMap fun b => (h.get? b).map fun o => (b, o)
theorem mem_pinsAt {fp : List Addr} {h : Heap} {b : Addr} {o : Obj} (hb : b ∈ fp) (e : h.get? b = some o) : (b, o) ∈ pinsAt fp h := List.mem_filterMap.mpr ⟨b, hb, by rw [e]; rfl⟩
theorem of_pinsAt {fp : List Addr} {h : Heap} {p : Addr × Obj} (hp : p ∈ pinsAt fp h) : p.1 ∈ fp ∧ h.get? p.1 = some p.2 := by
  obtain ⟨b, hb, e⟩ := List.mem_filterMap.mp hp
  cases q : h.get? b with
  | none => rw [q] at e; cases e
  | some o =>
    rw [q] at e
    have e' : (b, o) = p := Option.some.inj e
    subst e'
    exact ⟨hb, q⟩
theorem Inv.pinned {pins : List (Addr × Obj)} {σ : St} {H : Hp} {s : Shared} {fp : List Addr} (I : Inv X pins σ H s) (hf : ∀ b ∈ fp, FpOk X pins H b) (ho : ∀ b ∈ fp, ∃ o, s.heap.get? b = some o ∧ ∀ v, o.data ≠ .cell v) : Inv X (pins ++ pinsAt fp s.heap) σ H s :=
  I.pins_of fun p hp => (List.mem_append.mp hp).elim (fun z => I.pin p (List.mem_append_right _ z)) fun z => by
    obtain ⟨hb, e⟩ := of_pinsAt z
    obtain ⟨f0, f1, f2, _⟩ := hf p.1 hb
    obtain ⟨o, e', d⟩ := ho p.1 hb
    rw [e] at e'; cases e'
    exact ⟨e, f0, f1, f2, d⟩
theorem Inv.unpinned {pins pl : List (Addr × Obj)} {σ : St} {H : Hp} {s : Shared} (I : Inv X (pins ++ pl) σ H s) : Inv X pins σ H s := I.pins_of fun p hp => I.pin p (List.mem_append_right _ (List.mem_append_left _ hp))
theorem ps_for {iter : Expr} {body : List Stmt} {wi : TI} {g : TG} {tb : TS} {pos : Pos} (hp : PassesOwn (model X.prog X.w) X.A X.env X.xe) (hc : X.calm = true) (hi : PI X tg iter wi) (hg : PG X tg g) (hb : PSs X body tb)
    (hs : ∀ x, foldedSetIterable iter X.env x = pure x := by intro _; rfl) : PS X (.For tg iter body [] pos) (tFor wi g tb) := by
  intro pins s σ H D I h
  refine wpAny_For (thn (hi pins s σ H _ I h) fun v s1 h1 => thn h1 fun itv s2 h2 => ?_) hs
  obtain ⟨it, fp, tn, J, H2, e, I2, T, st2, f2, W, ⟨m0, w0⟩, turn⟩ := h2
  subst e
  -- what stays true of the iterator's objects through the loop
  have stat : ∀ {H' : Hp}, (∀ b ∈ fp, H' b = none) → ∀ b ∈ fp, FpOk X pins H' b := fun hn b hb => ⟨hn b hb, (f2 b hb).2⟩
  refine codeAny_forLoop_any (fun n s' => ∃ i σ' H', Inv X pins σ' H' s' ∧ tn i s'.heap ∧ (∀ b ∈ fp, H' b = none) ∧ W i n σ' H') ?_ m0 ⟨0, σ, H2, I2, st2, fun b hb => (f2 b hb).1, w0⟩
  rintro n s3 ⟨i, σ3, H3, I3, st3, fr3, w3⟩
  rcases turn i n σ3 H3 w3 with ⟨stop, qn⟩ | ⟨go, N, hN, step⟩
  · refine wpAny_passesOwn hp (thn (T.done X rfl rfl rfl hc i pins s3 σ3 H3 X.xe I3 (stat fr3) st3 stop) fun r s4 ⟨hr, I4⟩ => ?_)
    subst hr
    exact wpAny_execs_nil ⟨σ3, H3, I4, qn⟩
  · refine wpAny_passesOwn hp (thn (T.item X rfl rfl rfl hc i pins s3 σ3 H3 X.xe I3 (stat fr3) st3 go) fun r s4 ⟨u, hr, h4⟩ => ?_)
    subst hr
    refine wpAny_passesOwn hp (thn h4 fun _ s5 ⟨x, H5, I5, r5, y5, st5, fr5⟩ => ?_)
    have I5' := I5.pinned (stat fr5) (T.obj _ _ st5)
    refine wpAny_passesOwn hp (thn (hg _ s5 σ3 H5 x u _ I5' r5 (step x H5 y5)) fun _ s6 ⟨σ6, H6, I6, q6⟩ => ?_)
    refine wpAny_passesOwn hp (thn (hb _ s6 σ6 H6 _ I6 q6) fun f s7 q7 => ?_)
    have again : ∀ {σ7 : St} {H7 : Hp}, Inv X (pins ++ pinsAt fp s5.heap) σ7 H7 s7 → N σ7 H7 → ∃ m, m < n ∧ ∃ i σ' H', Inv X pins σ' H' s7 ∧ tn i s7.heap ∧ (∀ b ∈ fp, H' b = none) ∧ W i m σ' H' := fun {σ7 H7} I7 n7 => by
      obtain ⟨m', hm, w7⟩ := hN σ7 H7 n7
      refine ⟨m', hm, i + 1, σ7, H7, I7.unpinned, T.keep _ _ _ st5 fun b hb o e => (I7.pin (b, o) (List.mem_append_right _ (List.mem_append_right _ (mem_pinsAt hb e)))).1, fun b hb => ?_, w7⟩
      obtain ⟨o, e, d⟩ := T.obj _ _ st5 b hb
      exact (I7.pin (b, o) (List.mem_append_right _ (List.mem_append_right _ (mem_pinsAt hb e)))).2.1
    cases f with
    | next => obtain ⟨σ7, H7, I7, n7⟩ := q7; exact again I7 n7
    | cont => obtain ⟨σ7, H7, I7, n7⟩ := q7; exact again I7 n7
    | brk => obtain ⟨σ7, H7, I7, q7⟩ := q7; exact ⟨σ7, H7, I7.unpinned, q7⟩
    | ret v => obtain ⟨x7, σ7, H7, I7, r7, q7⟩ := q7; exact ⟨x7, σ7, H7, I7.unpinned, r7, q7⟩
end
theorem for_list {K : PySem.W.Frag} {a : Addr} {xs : List V} {g : TG} {tb : TS} {D : Ends} {σ : St} {H : Hp} (Pv : Nat → St → Hp → Prop) (h0 : Pv 0 σ H) (hl : ∀ i σ H, i ≤ xs.length → Pv i σ H → SqL K H a xs)
    (hs : ∀ i x σ H, xs[i]? = some x → Pv i σ H → g x σ H fun σ2 H2 => tb { D with nx := Pv (i + 1), ct := Pv (i + 1), bk := D.nx } σ2 H2) (hd : ∀ σ H, Pv xs.length σ H → D.nx σ H) :
    ∃ W : Nat → Nat → St → Hp → Prop, (∃ m, W 0 m σ H) ∧ ∀ i m σ H, W i m σ H →
      ((Itl K a).stop i H ∧ D.nx σ H) ∨ ((Itl K a).go i H ∧ ∃ N : St → Hp → Prop, (∀ σ' H', N σ' H' → ∃ m', m' < m ∧ W (i + 1) m' σ' H') ∧ ∀ x H', (Itl K a).yld i H x H' → g x σ H' fun σ2 H2 => tb { D with nx := N, ct := N, bk := D.nx } σ2 H2) := by
  refine ⟨fun i m σ H => m = xs.length - i ∧ i ≤ xs.length ∧ Pv i σ H, ⟨xs.length, by simp, Nat.zero_le _, h0⟩, ?_⟩
  rintro i m σ H ⟨rfl, hi, p⟩
  have q := hl i σ H hi p
  by_cases hlt : i < xs.length
  · refine .inr ⟨⟨xs, xs[i], q, by simp [hlt]⟩, Pv (i + 1), fun σ' H' p' => ⟨xs.length - (i + 1), by omega, rfl, hlt, p'⟩, fun x H' y => ?_⟩
    obtain ⟨e, y⟩ := y
    subst e
    exact hs i x σ _ (y xs q) p
  · have e : i = xs.length := by omega
    subst e
    exact .inl ⟨⟨xs, q, Nat.le_refl _⟩, hd σ H p⟩
theorem for_range {lo : Int} {n : Nat} {g : TG} {tb : TS} {D : Ends} {σ : St} {H : Hp} (Pv : Nat → St → Hp → Prop) (h0 : Pv 0 σ H)
    (hs : ∀ i σ H, i < n → Pv i σ H → g (.int (lo + i)) σ H fun σ2 H2 => tb { D with nx := Pv (i + 1), ct := Pv (i + 1), bk := D.nx } σ2 H2) (hd : ∀ σ H, Pv n σ H → D.nx σ H) :
    ∃ W : Nat → Nat → St → Hp → Prop, (∃ m, W 0 m σ H) ∧ ∀ i m σ H, W i m σ H →
      ((Itr lo n).stop i H ∧ D.nx σ H) ∨ ((Itr lo n).go i H ∧ ∃ N : St → Hp → Prop, (∀ σ' H', N σ' H' → ∃ m', m' < m ∧ W (i + 1) m' σ' H') ∧ ∀ x H', (Itr lo n).yld i H x H' → g x σ H' fun σ2 H2 => tb { D with nx := N, ct := N, bk := D.nx } σ2 H2) := by
  refine ⟨fun i m σ H => m = n - i ∧ i ≤ n ∧ Pv i σ H, ⟨n, by simp, Nat.zero_le _, h0⟩, ?_⟩
  rintro i m σ H ⟨rfl, hi, p⟩
  by_cases hlt : i < n
  · refine .inr ⟨hlt, Pv (i + 1), fun σ' H' p' => ⟨n - (i + 1), by omega, rfl, hlt, p'⟩, fun x H' y => ?_⟩
    obtain ⟨e, y⟩ := y
    subst e y
    exact hs i σ _ hlt p
  · have e : i = n := by omega
    subst e
    exact .inl ⟨Nat.le_refl _, hd σ H p⟩
theorem while_by {c : TT} {tb : TS} {D : Ends} {σ : St} {H : Hp} (Pv : St → Hp → Prop) (μ : St → Hp → Nat) (h0 : Pv σ H)
    (hs : ∀ σ H, Pv σ H → c σ H fun b H1 => if b = true then tb { D with nx := fun σ' H' => Pv σ' H' ∧ μ σ' H' < μ σ H, ct := fun σ' H' => Pv σ' H' ∧ μ σ' H' < μ σ H, bk := D.nx } σ H1 else D.nx σ H1)
    (mono : ∀ σ H Q Q', (∀ b H1, Q b H1 → Q' b H1) → c σ H Q → c σ H Q') : tWhile c tb D σ H := by
  refine ⟨fun m σ H => m = μ σ H ∧ Pv σ H, ⟨_, rfl, h0⟩, ?_⟩
  rintro m σ H ⟨rfl, p⟩
  refine mono σ H _ _ (fun b H1 q => ?_) (hs σ H p)
  cases b with
  | true => exact ⟨_, fun σ' H' ⟨p', l⟩ => ⟨_, l, rfl, p'⟩, q⟩
  | false => exact q
end L2
namespace L2
open PySem PySem.Spec PyProof.Rows
abbrev R2 := V → V → Hp → VK → Prop
def OpR (X : Cx) (f : Value → Value → Sem Value) (r : R2) : Prop :=
  ∀ (pins : List (Addr × Obj)) (s : Shared) (σ : St) (H : Hp) (x y : V) (v u : Value) (Q : VK), Inv X pins σ H s → RelV x v → RelV y u → r x y H Q →
    wpAny (model X.prog X.w) X.A (f v u) (EP X pins σ Q) X.xe s
def UnR (X : Cx) (f : Value → Sem Value) (r : V → Hp → VK → Prop) : Prop :=
  ∀ (pins : List (Addr × Obj)) (s : Shared) (σ : St) (H : Hp) (x : V) (v : Value) (Q : VK), Inv X pins σ H s → RelV x v → r x H Q →
    wpAny (model X.prog X.w) X.A (f v) (EP X pins σ Q) X.xe s
def CallR (X : Cx) (f : Value) (r : List V → Hp → VK → Prop) : Prop :=
  ∀ (pins : List (Addr × Obj)) (s : Shared) (σ : St) (H : Hp) (xs : List V) (us : List Value) (Q : VK), Inv X pins σ H s → Vals xs us → r xs H Q →
    wpAny (model X.prog X.w) X.A (call f us) (EP X pins σ Q) X.xe s
def tOp (r : R2) (ta tb : TE) : TE := fun σ H Q => ta σ H fun x H1 => tb σ H1 fun y H2 => r x y H2 Q
def tUn (r : V → Hp → VK → Prop) (ta : TE) : TE := fun σ H Q => ta σ H fun x H1 => r x H1 Q
def rI (C : Int → Int → Prop) (g : Int → Int → V) : R2 := fun x y H Q => ∃ i j, x = .int i ∧ y = .int j ∧ C i j ∧ Q (g i j) H
def rI0 (g : Int → Int → V) : R2 := fun x y H Q => ∃ i j, x = .int i ∧ y = .int j ∧ Q (g i j) H
def rU (g : Int → V) : V → Hp → VK → Prop := fun x H Q => ∃ i, x = .int i ∧ Q (g i) H
section
variable {X : Cx} {a b c : Expr} {ta tb tc : TE} {pos : Pos}
theorem binT (ha : PE X a ta) (hb : PE X b tb) {pins : List (Addr × Obj)} {s : Shared} {σ : St} {H : Hp} {R : V → V → Hp → Prop} (I : Inv X pins σ H s)
    (h : ta σ H fun x H1 => tb σ H1 fun y H2 => R x y H2) {Q : Value → Shared → Prop} {f : Value → Value → Sem Value}
    (hf : ∀ v u s2 x y H2, Inv X pins σ H2 s2 → RelV x v → RelV y u → R x y H2 → wpAny (model X.prog X.w) X.A (f v u) Q X.xe s2) :
    wpAny (model X.prog X.w) X.A (eval a X.env) (fun v s₁ => wpAny (model X.prog X.w) X.A (eval b X.env) (fun u s₂ => wpAny (model X.prog X.w) X.A (f v u) Q X.xe s₂) X.xe s₁) X.xe s := by
  refine thn (ha pins s σ H _ I h) fun v s1 ⟨x, H1, I1, r1, q1⟩ => ?_
  refine thn (hb pins s1 σ H1 _ I1 q1) fun u s2 ⟨y, H2, I2, r2, q2⟩ => ?_
  exact hf v u s2 x y H2 I2 r1 r2 q2
theorem pe_op {op : Operator} {r : R2} (ho : OpR X (binaryOp op) r) (ha : PE X a ta) (hb : PE X b tb) : PE X (.BinOp a op b pos) (tOp r ta tb) := by
  intro pins s σ H Q I h
  exact wpAny_BinOp (binT ha hb I h fun v u s2 x y H2 I2 rx ry q => ho pins s2 σ H2 x y v u Q I2 rx ry q)
theorem pe_un {op : UnaryOp} {r : V → Hp → VK → Prop} (ho : UnR X (unaryOp op) r) (ha : PE X a ta) : PE X (.UnaryOp op a pos) (tUn r ta) := by
  intro pins s σ H Q I h
  exact UnaryOp_ (thn (ha pins s σ H _ I h) fun v s1 ⟨x, H1, I1, r1, q1⟩ => ho pins s1 σ H1 x v Q I1 r1 q1)
theorem opI {f : Value → Value → Sem Value} {C : Int → Int → Prop} {g : Int → Int → Int}
    (rule : ∀ (i j : Int) (t u : Tok) (s : Shared) (Q : Value → Shared → Prop) (E : Value → Shared → Prop), C i j → Q (.int (g i j) s.toks) { s with toks := s.toks + 1 } → wpAny (model X.prog X.w) X.A (f (.int i t) (.int j u)) Q E s) :
    OpR X f (rI C fun i j => .int (g i j)) := by
  intro pins s σ H x y v u Q I rx ry h
  obtain ⟨i, j, rfl, rfl, hc, q⟩ := h
  obtain ⟨t, rfl⟩ := rx
  obtain ⟨t', rfl⟩ := ry
  exact rule i j t t' s _ _ hc ⟨.int (g i j), H, I.tok _, ⟨_, rfl⟩, q⟩
theorem opI0 {f : Value → Value → Sem Value} {g : Int → Int → Int}
    (rule : ∀ (i j : Int) (t u : Tok) (s : Shared) (Q : Value → Shared → Prop) (E : Value → Shared → Prop), Q (.int (g i j) s.toks) { s with toks := s.toks + 1 } → wpAny (model X.prog X.w) X.A (f (.int i t) (.int j u)) Q E s) :
    OpR X f (rI0 fun i j => .int (g i j)) := by
  intro pins s σ H x y v u Q I rx ry h
  obtain ⟨i, j, rfl, rfl, q⟩ := h
  obtain ⟨t, rfl⟩ := rx
  obtain ⟨t', rfl⟩ := ry
  exact rule i j t t' s _ _ ⟨.int (g i j), H, I.tok _, ⟨_, rfl⟩, q⟩
theorem opB0 {f : Value → Value → Sem Value} {g : Int → Int → Bool}
    (rule : ∀ (i j : Int) (t u : Tok) (s : Shared) (Q : Value → Shared → Prop) (E : Value → Shared → Prop), Q (.bool (g i j)) s → wpAny (model X.prog X.w) X.A (f (.int i t) (.int j u)) Q E s) :
    OpR X f (rI0 fun i j => .bl (g i j)) := by
  intro pins s σ H x y v u Q I rx ry h
  obtain ⟨i, j, rfl, rfl, q⟩ := h
  obtain ⟨t, rfl⟩ := rx
  obtain ⟨t', rfl⟩ := ry
  exact rule i j t t' s _ _ ⟨.bl (g i j), H, I, rfl, q⟩
def CPow (i j : Int) : Prop := 0 ≤ j ∧ j ≤ 1000000 ∧ i.natAbs < 2 ^ 64
def CMul (i j : Int) : Prop := (-(2 ^ 64) < i ∧ i < 2 ^ 64) ∨ (-(2 ^ 64) < j ∧ j < 2 ^ 64)
theorem CMul.ok {i j : Int} (h : CMul i j) : IntMulOk i j := by
  rcases h with ⟨h1, h2⟩ | ⟨h1, h2⟩
  · exact .of_left (intBits_le_64 h1 h2)
  · exact .of_right (intBits_le_64 h1 h2)
theorem op_add : OpR X (binaryOp .Add) (rI0 fun i j => .int (i + j)) := opI0 fun _ _ _ _ _ _ _ q => add_int q
theorem op_sub : OpR X (binaryOp .Sub) (rI0 fun i j => .int (i - j)) := opI0 fun _ _ _ _ _ _ _ q => sub_int q
theorem op_mul : OpR X (binaryOp .Mult) (rI CMul fun i j => .int (i * j)) := opI fun _ _ _ _ _ _ _ hc q => mul_int q hc.ok
theorem op_mod : OpR X (binaryOp .Mod) (rI (fun _ j => 0 < j) fun i j => .int (i % j)) := opI fun i j _ _ _ _ _ hc q => by
  have h1 : (0 : Int) < j := hc
  exact mod_int' (by omega) (by rw [Int.fmod_eq_emod_of_nonneg i (by omega)]; exact q)
theorem op_pow : OpR X (binaryOp .Pow) (rI CPow fun i j => .int (i ^ j.toNat)) := opI fun _ _ _ _ _ _ _ hc q => pow_int_small hc.1 hc.2.1 hc.2.2 q
theorem unI {f : Value → Sem Value} {g : Int → Int}
    (rule : ∀ (i : Int) (t : Tok) (s : Shared) (Q : Value → Shared → Prop) (E : Value → Shared → Prop), Q (.int (g i) s.toks) { s with toks := s.toks + 1 } → wpAny (model X.prog X.w) X.A (f (.int i t)) Q E s) :
    UnR X f (rU fun i => .int (g i)) := by
  intro pins s σ H x v Q I rx h
  obtain ⟨i, rfl, q⟩ := h
  obtain ⟨t, rfl⟩ := rx
  exact rule i t s _ _ ⟨.int (g i), H, I.tok _, ⟨_, rfl⟩, q⟩
theorem un_neg : UnR X (unaryOp .USub) (rU fun i => .int (-i)) := unI fun _ _ _ _ _ q => neg_int q
end
def scal : V → V → Bool
  | .non, .non => true | .non, .int _ => true | .int _, .non => true | .non, .bl _ => true | .bl _, .non => true | .non, .str _ => true | .str _, .non => true
  | .int _, .int _ => true | .bl _, .bl _ => true | .str _, .str _ => true | .byt _, .byt _ => true
  | .int _, .str _ => true | .str _, .int _ => true | .bl _, .str _ => true | .str _, .bl _ => true
  | _, _ => false
def rEq : R2 := fun x y H Q => scal x y = true ∧ Q (.bl (decide (x = y))) H
def rNe : R2 := fun x y H Q => scal x y = true ∧ Q (.bl (!decide (x = y))) H
theorem dec_int {i j : Int} : decide (V.int i = V.int j) = (i == j) := by
  rw [Bool.eq_iff_iff]
  simp
theorem dec_bl {i j : Bool} : decide (V.bl i = V.bl j) = (i == j) := by
  rw [Bool.eq_iff_iff]
  simp
theorem dec_str {i j : Str} : decide (V.str i = V.str j) = (i == j) := by
  rw [Bool.eq_iff_iff]
  simp
theorem dec_byt {i j : Array UInt8} : decide (V.byt i = V.byt j) = (i.toList == j.toList) := by
  rw [Bool.eq_iff_iff]
  cases i
  cases j
  simp
section
variable {X : Cx} {a b c : Expr} {ta tb tc : TE} {pos : Pos}
theorem fin_bl {pins : List (Addr × Obj)} {σ : St} {H : Hp} {s : Shared} {Q : VK} {k k' : Bool} (I : Inv X pins σ H s) (q : Q (.bl k) H) (e : k = k') : EP X pins σ Q (.bool k') s := by
  subst e
  exact ⟨.bl k, H, I, rfl, q⟩
theorem op_eq : OpR X (compareOp .Eq) rEq := by
  intro pins s σ H x y v u Q I rx ry h
  obtain ⟨hs, q⟩ := h
  cases x with
  | non =>
    cases rx
    cases y with
    | non => cases ry; exact PySem.EqNone.eq_none_none (fin_bl I q (by simp))
    | bl j => cases ry; exact PySem.EqNone.eq_none_bool (fin_bl I q (by simp))
    | int j => obtain ⟨t', rfl⟩ := ry; exact PySem.EqNone.eq_none_int (fin_bl I q (by simp))
    | str j => obtain ⟨t', rfl⟩ := ry; exact PySem.EqNone.eq_none_str (fin_bl I q (by simp))
    | _ => exact absurd (show false = true from hs) Bool.false_ne_true
  | bl i =>
    cases rx
    cases y with
    | non => cases ry; exact PySem.EqNone.eq_bool_none (fin_bl I q (by simp))
    | bl j => cases ry; exact eq_bool (fin_bl I q dec_bl)
    | str j => obtain ⟨t', rfl⟩ := ry; exact PySem.EqMixed.eq_bool_str (fin_bl I q (by simp))
    | _ => exact absurd (show false = true from hs) Bool.false_ne_true
  | int i =>
    obtain ⟨t, rfl⟩ := rx
    cases y with
    | non => cases ry; exact PySem.EqNone.eq_int_none (fin_bl I q (by simp))
    | int j => obtain ⟨t', rfl⟩ := ry; exact eq_int (fin_bl I q dec_int)
    | str j => obtain ⟨t', rfl⟩ := ry; exact PySem.EqMixed.eq_int_str (fin_bl I q (by simp))
    | _ => exact absurd (show false = true from hs) Bool.false_ne_true
  | str i =>
    obtain ⟨t, rfl⟩ := rx
    cases y with
    | non => cases ry; exact PySem.EqNone.eq_str_none (fin_bl I q (by simp))
    | bl j => cases ry; exact PySem.EqMixed.eq_str_bool (fin_bl I q (by simp))
    | int j => obtain ⟨t', rfl⟩ := ry; exact PySem.EqMixed.eq_str_int (fin_bl I q (by simp))
    | str j => obtain ⟨t', rfl⟩ := ry; exact eq_str (fin_bl I q dec_str)
    | _ => exact absurd (show false = true from hs) Bool.false_ne_true
  | byt i =>
    obtain ⟨t, rfl⟩ := rx
    cases y with
    | byt j => obtain ⟨t', rfl⟩ := ry; exact PySem.W.eq_bytes (fin_bl I q dec_byt)
    | _ => exact absurd (show false = true from hs) Bool.false_ne_true
  | _ => cases y <;> exact absurd (show false = true from hs) Bool.false_ne_true
theorem op_ne : OpR X (compareOp .NotEq) rNe := by
  intro pins s σ H x y v u Q I rx ry h
  obtain ⟨hs, q⟩ := h
  cases x with
  | non =>
    cases rx
    cases y with
    | non => cases ry; exact PySem.EqNone.ne_none_none (fin_bl I q (by simp))
    | bl j => cases ry; exact PySem.EqNone.ne_none_bool (fin_bl I q (by simp))
    | int j => obtain ⟨t', rfl⟩ := ry; exact PySem.EqNone.ne_none_int (fin_bl I q (by simp))
    | str j => obtain ⟨t', rfl⟩ := ry; exact PySem.EqNone.ne_none_str (fin_bl I q (by simp))
    | _ => exact absurd (show false = true from hs) Bool.false_ne_true
  | bl i =>
    cases rx
    cases y with
    | non => cases ry; exact PySem.EqNone.ne_bool_none (fin_bl I q (by simp))
    | bl j => cases ry; exact ne_bool (fin_bl I q (congrArg not dec_bl))
    | str j => obtain ⟨t', rfl⟩ := ry; exact PySem.EqMixed.ne_bool_str (fin_bl I q (by simp))
    | _ => exact absurd (show false = true from hs) Bool.false_ne_true
  | int i =>
    obtain ⟨t, rfl⟩ := rx
    cases y with
    | non => cases ry; exact PySem.EqNone.ne_int_none (fin_bl I q (by simp))
    | int j => obtain ⟨t', rfl⟩ := ry; exact ne_int (fin_bl I q (congrArg not dec_int))
    | str j => obtain ⟨t', rfl⟩ := ry; exact PySem.EqMixed.ne_int_str (fin_bl I q (by simp))
    | _ => exact absurd (show false = true from hs) Bool.false_ne_true
  | str i =>
    obtain ⟨t, rfl⟩ := rx
    cases y with
    | non => cases ry; exact PySem.EqNone.ne_str_none (fin_bl I q (by simp))
    | bl j => cases ry; exact PySem.EqMixed.ne_str_bool (fin_bl I q (by simp))
    | int j => obtain ⟨t', rfl⟩ := ry; exact PySem.EqMixed.ne_str_int (fin_bl I q (by simp))
    | str j => obtain ⟨t', rfl⟩ := ry; exact ne_str (fin_bl I q (congrArg not dec_str))
    | _ => exact absurd (show false = true from hs) Bool.false_ne_true
  | byt i =>
    obtain ⟨t, rfl⟩ := rx
    cases y with
    | byt j => obtain ⟨t', rfl⟩ := ry; exact PySem.W.ne_bytes (fin_bl I q (congrArg not dec_byt))
    | _ => exact absurd (show false = true from hs) Bool.false_ne_true
  | _ => cases y <;> exact absurd (show false = true from hs) Bool.false_ne_true
theorem op_lt : OpR X (compareOp .Lt) (rI0 fun i j => .bl (decide (i < j))) := opB0 fun _ _ _ _ _ _ _ q => lt_int q
theorem op_le : OpR X (compareOp .LtE) (rI0 fun i j => .bl (decide (i ≤ j))) := opB0 fun _ _ _ _ _ _ _ q => le_int q
theorem op_gt : OpR X (compareOp .Gt) (rI0 fun i j => .bl (decide (j < i))) := opB0 fun _ _ _ _ _ _ _ q => gt_int q
theorem op_ge : OpR X (compareOp .GtE) (rI0 fun i j => .bl (decide (j ≤ i))) := opB0 fun _ _ _ _ _ _ _ q => ge_int q
theorem OpR.or {f : Value → Value → Sem Value} {r r' : R2} (h : OpR X f r) (h' : OpR X f r') : OpR X f (fun x y H Q => r x y H Q ∨ r' x y H Q) := by
  intro pins s σ H x y v u Q I rx ry q
  rcases q with q | q
  · exact h pins s σ H x y v u Q I rx ry q
  · exact h' pins s σ H x y v u Q I rx ry q
theorem nomark (b : Expr) {op : CmpOp} (h : op ≠ .In := by decide) (h2 : op ≠ .NotIn := by decide) : behindInMarks op b = false := by
  have e1 : (op == CmpOp.In) = false := by cases op <;> first | rfl | exact absurd rfl h
  have e2 : (op == CmpOp.NotIn) = false := by cases op <;> first | rfl | exact absurd rfl h2
  cases b <;> simp [behindInMarks, e1, e2]
theorem pe_cmpR {op : CmpOp} {r : R2} (ho : OpR X (compareOp op) r) (ha : PE X a ta) (hb : PE X b tb) (hm : behindInMarks op b = false) : PE X (.Compare a [op] [b] pos) (tOp r ta tb) := by
  intro pins s σ H Q I h
  exact wpAny_Compare1 (binT ha hb I h fun v u s2 x y H2 I2 rx ry q => ho pins s2 σ H2 x y v u Q I2 rx ry q) hm
def tTest (t : TE) : TT := fun σ H Q => t σ H fun x H' => ∃ k, x = .bl k ∧ Q k H'
theorem pt_cmpR {op : CmpOp} {r : R2} (ho : OpR X (compareOp op) r) (ha : PE X a ta) (hb : PE X b tb) (hm : behindInMarks op b = false) : PT X (.Compare a [op] [b] pos) (tTest (tOp r ta tb)) := by
  intro pins s σ H Q I h
  refine wpAny_isTrue_Compare1 (thn (ha pins s σ H _ I h) fun v s1 ⟨x, H1, I1, r1, q1⟩ => thn (hb pins s1 σ H1 _ I1 q1) fun u s2 ⟨y, H2, I2, r2, q2⟩ =>
    thn (ho pins s2 σ H2 x y v u _ I2 r1 r2 q2) fun c s3 ⟨z, H3, I3, r3, k, e, q3⟩ => ?_) hm
  subst e
  cases r3
  exact wpAny_truthy_bool ⟨H3, I3, q3⟩
def tChain (r r' : R2) (ta tb tc : TE) : TE := fun σ H Q => ta σ H fun x H1 => tb σ H1 fun y H2 => r x y H2 fun z H3 => ∃ k, z = .bl k ∧
  (if k = true then tc σ H3 fun w' H4 => r' y w' H4 Q else Q (.bl false) H3)
theorem pt_chain {op op' : CmpOp} {r r' : R2} (ho : OpR X (compareOp op) r) (ho' : OpR X (compareOp op') r') (ha : PE X a ta) (hb : PE X b tb) (hc : PE X c tc)
    (hm : lastMarks [op, op'] [b, c] = false := by with_unfolding_all rfl) : PT X (.Compare a [op, op'] [b, c] pos) (tTest (tChain r r' ta tb tc)) := by
  intro pins s σ H Q I h
  refine isTrue_chain (thn (ha pins s σ H _ I h) fun v s1 ⟨x, H1, I1, r1, q1⟩ => test_link (thn (hb pins s1 σ H1 _ I1 q1) fun u s2 ⟨y, H2, I2, r2, q2⟩ =>
    thn (ho pins s2 σ H2 x y v u _ I2 r1 r2 q2) fun d s3 ⟨z, H3, I3, r3, k, e, q3⟩ => ?_)) hm
  subst e
  cases r3
  refine wpAny_truthy_bool ?_
  cases k with
  | false =>
    obtain ⟨k', e', q'⟩ := q3
    cases e'
    exact ite_ff ⟨H3, I3, q'⟩
  | true =>
    refine ite_tt (test_last (thn (hc pins s3 σ H3 _ I3 q3) fun w' s4 ⟨z', H4, I4, r4, q4⟩ => thn (ho' pins s4 σ H4 y z' u w' _ I4 r2 r4 q4) fun d' s5 ⟨z2, H5, I5, r5, k2, e2, q5⟩ => ?_))
    subst e2
    cases r5
    exact wpAny_truthy_bool ⟨H5, I5, q5⟩
theorem line63 : (sizeLine : Nat) < 2 ^ 63 := by rw [sizeLine_eq]; decide
theorem vals1 {x : V} {us : List Value} (r : Vals [x] us) : ∃ u, us = [u] ∧ RelV x u := by
  cases r with
  | cons r1 r2 => cases r2; exact ⟨_, rfl, r1⟩
theorem vals2 {x y : V} {us : List Value} (r : Vals [x, y] us) : ∃ u w', us = [u, w'] ∧ RelV x u ∧ RelV y w' := by
  cases r with
  | cons r1 r2 =>
    cases r2 with
    | cons r3 r4 => cases r4; exact ⟨_, _, rfl, r1, r3⟩
theorem call_abs : CallR X (.builtin "abs") (fun xs H Q => ∃ i, xs = [.int i] ∧ Q (.int (if i < 0 then -i else i)) H) := by
  intro pins s σ H xs us Q I r h
  obtain ⟨i, rfl, q⟩ := h
  obtain ⟨u, rfl, t, rfl⟩ := vals1 r
  exact call_abs_int fun u tk => ⟨.int (if i < 0 then -i else i), H, I.tok _, ⟨_, rfl⟩, q⟩
theorem call_max2 (hc : X.calm = true) : CallR X (.builtin "max") (fun xs H Q => ∃ i j, xs = [.int i, .int j] ∧ Q (.int (if j > i then j else i)) H) := by
  intro pins s σ H xs us Q I r h
  obtain ⟨i, j, rfl, q⟩ := h
  obtain ⟨u, w', rfl, ⟨t, rfl⟩, ⟨t', rfl⟩⟩ := vals2 r
  refine max_two_ints (I.ok.hd hc) fun h' tk k => ⟨_, H, I.kept k, ?_, q⟩
  by_cases hj : j > i
  · rw [if_pos hj, if_pos hj]; exact ⟨_, rfl⟩
  · rw [if_neg hj, if_neg hj]; exact ⟨_, rfl⟩
end
end L2
namespace L2
open PySem PySem.Spec PyProof.Rows
structure ObjM (h : Heap) (x dx C : Addr) (mA : Str → Option Value) : Prop where
  obj : h.get? x = some (PySem.W.instObj C dx)
  ns : h.Ns1 dx mA
  ne : dx ≠ x
theorem lookIn_ns {h : Heap} {dx : Addr} {mA : Str → Option Value} (n : h.Ns1 dx mA) : ∃ od, h.get? dx = some od ∧ ∀ name, PySem.W.lookIn name od = some (mA name) := by
  obtain ⟨o, es, ep, ho, hd, hk, _, hm⟩ := n
  refine ⟨o, ho, fun name => ?_⟩
  have e := hm name
  unfold nsFind findBy at e
  rw [← Array.find?_toList] at e
  unfold PySem.W.lookIn
  rw [hd]
  dsimp only
  split
  · rename_i y q
    rw [q] at e
    exact congrArg some e
  · rename_i q
    rw [q] at e
    have a : es.toList.any (·.refKey) = false := by
      rw [List.any_eq_false]
      intro y hy
      obtain ⟨z, t, hkey⟩ := hk y (Array.mem_toList_iff.mp hy)
      simp [DictEntry.refKey, hkey]
    have a' : ¬ es.toList.any (·.refKey) = true := by rw [a]; exact Bool.false_ne_true
    rw [if_neg a']
    exact congrArg some e
theorem ObjM.look {h : Heap} {x dx C : Addr} {mA : Str → Option Value} (I : ObjM h x dx C mA) : ∃ od, PySem.W.InstAt h x (PySem.W.instObj C dx) C (some od) ∧ ∀ name, PySem.W.lookIn name od = some (mA name) :=
  let ⟨od, ho, hl⟩ := lookIn_ns I.ns
  ⟨od, ⟨I.obj, rfl, rfl, ho⟩, hl⟩
section
variable {prog : Program} {w : World} {A : Around} {E : Value → Shared → Prop} {s : Shared} {K : PySem.W.Frag} {x dx C f : Addr} {mA : Str → Option Value} {name : Str} {v : Value}
theorem set_map {ns : List Str} {Q : Unit → Shared → Prop} (X : K.In s.heap) (I : ObjM s.heap x dx C mA)
    (hs : PySem.W.findIn K (.ref C) "__setattr__" = some (some (.builtin "object.__setattr__"))) (hp : PySem.W.plainOver K C = true) (ht : PySem.W.takerIn K C name = some none) (hh : PySem.W.hasDictIn K C = true)
    (hw : PySem.Within mA ns) (hsz : ns.length ≤ sizeLine)
    (h : ∀ h', ObjM h' x dx C (fun y => if y = name then some v else mA y) → Heap.SameBut dx s.heap h' → Q () { s with heap := h', toks := s.toks + 2 }) :
    wpAny (model prog w) A (setAttr (.ref x) name v) Q E s := by
  obtain ⟨od, J, hl⟩ := I.look
  refine PySem.W.set_plain X J hs (PySem.W.osa_open (s := { s with toks := s.toks + 1 }) (r := none) X J hp ht fun b => ?_)
  obtain ⟨cd, hc, hd'⟩ := PySem.W.any_some hh
  have hx : s.heap.get? x = some ⟨.ref C, some dx, .plain, #[]⟩ := I.obj
  refine wpAny_bind (wpAny_pure (wpAny_bind (wpAny_bind (wpAny_loadPart hx (wpAny_bind (PySem.W.Looks.here (s := { s with toks := s.toks + 1 }) (PySem.W.looks_clsIn X hc) ?_))))))
  rw [hd']
  refine wpAny_pure (a := some dx) (wpAny_bind (wpAny_pure (wpAny_bind ?_)))
  refine wpAny_nsSet1 (s := { s with toks := s.toks + 1 }) I.ns fun h' hn2 hs2 => ?_
  obtain ⟨oD, esD, epD, hoD, hdD, hcD⟩ := hn2.count (PySem.Within.cons name v hw)
  refine wpAny_bind (wpAny_lookBehind hoD (by rw [hdD]; exact pastItsLine_dict (Nat.le_trans hcD (by rw [List.length_cons]; omega))) ?_)
  exact wpAny_pure (h _ ⟨(hs2.2 _ (Ne.symm I.ne)).trans I.obj, hn2, I.ne⟩ hs2)
end
section
variable {P : Program} {w : World} {H H' : Hp} {h h' : Heap} {a C dx : Addr} {fs fs' : List (Str × V)}
theorem ins_get (hok : HOk P w H h) (e : H a = some (.ins C dx fs)) : ∃ mA, ObjM h a dx C mA ∧ (∀ f, RelO (fs.lookup f) (mA f)) ∧ PySem.Within mA (fs.map (·.1)) ∧ fs.length ≤ 1000 ∧ H dx = some (.own a) := by
  obtain ⟨d, z, ne, ob, mA, n, r, q⟩ := (show ObjOk P w H h a (.ins C dx fs) from hok a _ e)
  exact ⟨mA, ⟨ob, n, ne⟩, r, q, z, d⟩
end
structure Cls (K : PySem.W.Frag) (C : Addr) : Prop where
  pg : PySem.W.plainGet K C Str.empty = true
  hd : PySem.W.hasDictIn K C = true
  po : PySem.W.plainOver K C = true
  sa : PySem.W.findIn K (.ref C) "__setattr__" = some (some (.builtin "object.__setattr__"))
theorem Cls.get {K : PySem.W.Frag} {C : Addr} (c : Cls K C) (f : Str) : PySem.W.plainGet K C f = true := c.pg
section
variable {X : Cx} {pins : List (Addr × Obj)} {σ : St} {H : Hp} {s : Shared} {a C dx : Addr} {fs : List (Str × V)} {f : Str} {v : V} {A : Around} {E : Value → Shared → Prop}
theorem Inv.made (I : Inv X pins σ H s) : Inv X pins σ (upd (upd H s.heap.objs.size (.own (s.heap.objs.size + 1))) (s.heap.objs.size + 1) (.ins C s.heap.objs.size []))
    { s with heap := (s.heap.push PySem.W.emptyDict).push (PySem.W.instObj C s.heap.objs.size) } := by
  have e1 : (s.heap.push PySem.W.emptyDict).get? s.heap.objs.size = some PySem.W.emptyDict := Heap.get?_push_size s.heap rfl
  have e2 : ((s.heap.push PySem.W.emptyDict).push (PySem.W.instObj C s.heap.objs.size)).get? (s.heap.objs.size + 1) = some (PySem.W.instObj C s.heap.objs.size) := by
    have := Heap.get?_push_size (s.heap.push PySem.W.emptyDict) (o := PySem.W.instObj C s.heap.objs.size) rfl
    rwa [Heap.size_push] at this
  have e3 : (s.heap.push PySem.W.emptyDict).Ns s.heap.objs.size (fun _ => none) := ⟨PySem.W.emptyDict, #[], _, e1, rfl, (fun e he => absurd he (by simp)), fun _ => rfl⟩
  have I1 := I.laid (a := s.heap.objs.size) (o := .own (s.heap.objs.size + 1)) (h' := s.heap.push PySem.W.emptyDict) (t' := s.toks) (fun b u q => Heap.get?_push_of_some _ q) (Nat.le_refl _) ⟨_, e1⟩
  refine I1.laid (a := s.heap.objs.size + 1) (o := .ins C s.heap.objs.size []) (t' := s.toks) (fun b u q => Heap.get?_push_of_some _ q) (Nat.le_of_eq (Heap.size_push _ _)) ?_
  have ne : s.heap.objs.size ≠ s.heap.objs.size + 1 := Nat.ne_of_lt (Nat.lt_succ_self _)
  refine ⟨by rw [upd_ne ne, upd_same], Nat.zero_le _, ne, e2, fun _ => none, (Heap.Ns1.of_empty e3).at fun o q => Heap.get?_push_of_some _ q, fun _ => True.intro, fun y hy => absurd rfl hy⟩
end
section
variable {X : Cx} {o e value : Expr} {f : Str} {pos pos' tpos : Pos} {ta tv : TE}
end
section
variable {X : Cx} {pins : List (Addr × Obj)} {σ : St} {H : Hp} {s : Shared} {A : Around} {E : Value → Shared → Prop} {Q : Value → Shared → Prop} {c : Value} {b : Bool}
inductive TyOf (K : PySem.W.Frag) (H : Hp) : V → Value → Prop where
  | non : TyOf K H .non (.type "NoneType")
  | bl (x : Bool) : TyOf K H (.bl x) (.type "bool")
  | int (i : Int) : TyOf K H (.int i) (.type "int")
  | str (x : Str) : TyOf K H (.str x) (.type "str")
  | flt (x : UInt64) : TyOf K H (.flt x) (.type "float")
  | lst {a : Addr} {xs : List V} (e : H a = some (.lst xs)) : TyOf K H (.ref a) (.type "list")
  | frz {a : Addr} {o : Obj} {xs : List V} (e : H a = some (.frz o (.lst xs))) : TyOf K H (.ref a) (.type "list")
  | tup {a : Addr} {xs : List V} (e : H a = some (.tup xs)) : TyOf K H (.ref a) (.type "tuple")
  | dK {a : Addr} {kvs : List (Key × V)} (e : H a = some (.dK kvs)) : TyOf K H (.ref a) (.type "dict")
  | dT {a : Addr} {kvs : List (List Key × V)} (e : H a = some (.dT kvs)) : TyOf K H (.ref a) (.type "dict")
  | ins {a C dx : Addr} {fs : List (Str × V)} (e : H a = some (.ins C dx fs)) (cl : Cls K C) (ha : PySem.W.findIn K (.ref C) "__class__" = some (some (.builtin "object.__class__")))
      (hn : PySem.W.specialIn K (.builtin "object.__class__") "__get__" = some (some (.builtin "getset_descriptor.__get__"))) (htk : PySem.W.takesIn K (.builtin "object.__class__") = some true)
      (hm : PySem.W.mroIn K C (.type "object") = some true) : TyOf K H (.ref a) (.ref C)
theorem isinst_ok {x : V} {u t : Value} (I : Inv X pins σ H s) (rx : RelV x u) (ty : TyOf X.K H x t) (e : PySem.W.kitOne X.K t c = some b) (h : ∀ tk, Q (.bool b) { s with toks := tk }) :
    wpAny (model X.prog X.w) A (call (.builtin "isinstance") [u, c]) Q E s := by
  cases ty with
  | non => cases (show u = Value.none from rx); exact PySem.W.kia_one PySem.W.kitx_none I.kIn True.intro e (fun z => nomatch z) h
  | bl y => cases (show u = Value.bool y from rx); exact PySem.W.kia_one PySem.W.kitx_bool I.kIn True.intro e (fun z => nomatch z) h
  | int i => obtain ⟨t, q⟩ := (show ∃ t, u = Value.int i t from rx); cases q; exact PySem.W.kia_one PySem.W.kitx_int I.kIn True.intro e (fun z => nomatch z) h
  | str y => obtain ⟨t, q⟩ := (show ∃ t, u = Value.str y t from rx); cases q; exact PySem.W.kia_one PySem.W.kitx_str I.kIn True.intro e (fun z => nomatch z) h
  | flt y => obtain ⟨t, q⟩ := (show ∃ t, u = Value.float y t from rx); cases q; exact PySem.W.kia_one PySem.W.kitx_float I.kIn True.intro e (fun z => nomatch z) h
  | @lst a xs ea =>
    cases (show u = Value.ref a from rx)
    obtain ⟨_, _, n, _, h1⟩ := (show ObjOk X.prog X.w H s.heap a (.lst xs) from I.hok a _ ea)
    exact PySem.W.kia_one PySem.W.kitx_list I.kIn ⟨_, h1, rfl⟩ e (fun z => nomatch z) h
  | @frz a ob xs ea =>
    cases (show u = Value.ref a from rx)
    obtain ⟨_, _, _, n, _, h1⟩ := (show ObjOk X.prog X.w H s.heap a (.frz ob (.lst xs)) from I.hok a _ ea)
    exact PySem.W.kia_one PySem.W.kitx_list I.kIn ⟨_, h1, rfl⟩ e (fun z => nomatch z) h
  | @tup a xs ea =>
    cases (show u = Value.ref a from rx)
    obtain ⟨_, _, _, p⟩ := (show ObjOk X.prog X.w H s.heap a (.tup xs) from I.hok a _ ea)
    obtain ⟨o, h1, h2, _⟩ := p
    exact PySem.W.kia_one PySem.W.kitx_tuple I.kIn ⟨o, h1, h2⟩ e (fun z => nomatch z) h
  | @dK a kvs ea =>
    cases (show u = Value.ref a from rx)
    obtain ⟨_, _, vs, _, p⟩ := (show ObjOk X.prog X.w H s.heap a (.dK kvs) from I.hok a _ ea)
    obtain ⟨o, es, ep, h1, h2, _⟩ := p
    exact PySem.W.kia_one PySem.W.kitx_dict I.kIn ⟨o, h1, h2.1⟩ e (fun z => nomatch z) h
  | @dT a kvs ea =>
    cases (show u = Value.ref a from rx)
    obtain ⟨_, _, xs, _, o, es, ep, h1, h2, _⟩ := (show ObjOk X.prog X.w H s.heap a (.dT kvs) from I.hok a _ ea)
    exact PySem.W.kia_one PySem.W.kitx_dict I.kIn ⟨o, h1, h2.1⟩ e (fun z => nomatch z) h
  | @ins a C dx fs ea cl ha hn htk hm =>
    cases (show u = Value.ref a from rx)
    obtain ⟨mA, O, _⟩ := ins_get I.hok ea
    obtain ⟨od, J, _⟩ := O.look
    exact PySem.W.kia_one (PySem.W.kitx_own (cl.get _) cl.hd ha hn htk hm) I.kIn J e (fun z => nomatch z) h
end
end L2
namespace L2
open PySem PySem.Spec PyProof.Rows
structure Room (k : Nat) (A : Around) : Prop where
  hd : A.handled = none
  dp : A.depth + 3 * k + 5 < recursionLimit
  un : A.units + 16 * k + 200 < cLine
theorem Room.mono {j k : Nat} {A : Around} (r : Room k A) (h : j ≤ k) : Room j A := ⟨r.hd, by have := r.dp; omega, by have := r.un; omega⟩
theorem Room.deeper {k : Nat} {A : Around} (r : Room (k + 1) A) (env : Env) : Room k (A.deeper env) :=
  ⟨r.hd, by have := r.dp; show A.depth + 1 + 3 * k + 5 < _; omega, by have := r.un; show A.units + 3 + 16 * k + 200 < _; omega⟩
theorem Room.in1 {k : Nat} {A : Around} (r : Room (k + 1) A) : Room k A.in1 :=
  ⟨r.hd, by have := r.dp; show A.depth + 3 * k + 5 < _; omega, by have := r.un; show A.units + 1 + 16 * k + 200 < _; omega⟩
theorem Room.depth {k : Nat} {A : Around} (r : Room k A) : A.depth < recursionLimit := by have := r.dp; omega
theorem Room.units {k : Nat} {A : Around} (r : Room k A) : A.units + 64 < cLine := by have := r.un; omega
def tNil : TA := fun _ H Q => Q [] H
def tCons (ta : TE) (tr : TA) : TA := fun σ H Q => ta σ H fun x H1 => tr σ H1 fun xs H2 => Q (x :: xs) H2
section
variable {X : Cx} {e : Expr} {es : List Expr} {te : TE} {t : TA} {pos : Pos}
theorem pa_nil : PA X [] tNil := fun _ _ _ _ H Q I h => Calls.spliced_nil ⟨[], H, I, .nil, h⟩
theorem pa_cons (ha : PE X e te) (hr : PA X es t) (hs : starEach (e :: es) X.env = (false, eval e X.env) :: starEach es X.env := by rfl) : PA X (e :: es) (tCons te t) := by
  intro pos pins s σ H Q I h
  rw [hs]
  show wpAny _ _ (spliced ((false, eval e X.env) :: backTo pos (starEach es X.env))) _ _ s
  refine Calls.spliced_cons (thn (ha pins s σ H _ I h) fun u s1 ⟨x, H1, I1, r1, q1⟩ => ?_)
  exact thn (hr pos pins s1 σ H1 _ I1 q1) fun us s2 ⟨xs, H2, I2, r2, q2⟩ => ⟨x :: xs, H2, I2, .cons r1 r2, q2⟩
def tTup (t : TA) : TE := fun σ H Q => t σ H fun xs H1 => xs.length ≤ sizeLine ∧ ∀ p, H1 p = none → Q (.ref p) (upd H1 p (.tup xs))
def tLst (t : TA) : TE := fun σ H Q => t σ H fun xs H1 => xs.length ≤ sizeLine ∧ ∀ p, H1 p = none → Q (.ref p) (upd H1 p (.lst xs))
theorem pe_tup {x1} (h : PA X es t) : PE X (.Tuple es x1 pos) (tTup t) := by
  intro pins s σ H Q I hq
  refine wpAny_Tuple_spliced (thn (h pos pins s σ H _ I hq) fun us s1 ⟨xs, H1, I1, r, z, q⟩ => ⟨by rw [← r.length]; exact z, ?_⟩)
  have hf : H1 s1.heap.objs.size = none := I1.hok.fresh (Nat.le_refl _)
  refine ⟨.ref s1.heap.objs.size, upd H1 s1.heap.objs.size (.tup xs), I1.laid (t' := s1.toks) (fun b u e => Heap.get?_push_of_some _ e) (Nat.le_refl _) ?_, rfl, q _ hf⟩
  exact ⟨z, us, r, ⟨_, Heap.get?_push_size _ rfl, rfl, _, rfl⟩⟩
theorem pe_lst (h : PA X es t) : PE X (.List es pos) (tLst t) := by
  intro pins s σ H Q I hq
  refine wpAny_List_spliced (thn (h pos pins s σ H _ I hq) fun us s1 ⟨xs, H1, I1, r, z, q⟩ => ⟨by rw [← r.length]; exact z, ?_⟩)
  have hf : H1 s1.heap.objs.size = none := I1.hok.fresh (Nat.le_refl _)
  refine ⟨.ref s1.heap.objs.size, upd H1 s1.heap.objs.size (.lst xs), I1.laid (t' := s1.toks) (fun b u e => Heap.get?_push_of_some _ e) (Nat.le_refl _) ?_, rfl, q _ hf⟩
  exact ⟨z, us, 0, r, Heap.get?_push_size _ rfl⟩
end
abbrev Sp := List V → Hp → VK → XK → Prop
abbrev CXT := List Env → Hp → Shared → XK → Value → Shared → Prop
structure Env0 (P : Program) (w : World) (K : PySem.W.Frag) (mg : Str → Option Value) (base : Heap) (A : Around) (outer : List Env) (s : Shared) (H : Hp) : Prop where
  frames : A.frames = some outer
  mod : Mod K mg base
  bs : ∀ b o, base.get? b = some o → s.heap.get? b = some o ∧ H b = none
  bsz : base.objs.size ≤ s.heap.objs.size
  funs : s.heap.FunFrames base outer
  frf : ∀ b ∈ frs outer, H b = none
  hok : HOk P w H s.heap
  bare : AllBare s.gens
def CE (outer : List Env) (P : Program) (w : World) (H : Hp) (s : Shared) (Q : VK) (u : Value) (s' : Shared) : Prop :=
  ∃ v H', s'.os = s.os ∧ AllBare s'.gens ∧ Un (frs outer) [] H H' s.heap s'.heap ∧ HOk P w H' s'.heap ∧ RelV v u ∧ Q v H'
def CR (CX : CXT) (outer : List Env) (P : Program) (w : World) (H : Hp) (s : Shared) (Q : VK) (E : XK) (r : Result) (s' : Shared) : Prop :=
  match r with
  | .ok (.ret u) => CE outer P w H s Q u s'
  | .ok _ => False
  | .error e => CX outer H s E e s'
structure FnOk (P : Program) (w : World) (K : PySem.W.Frag) (mg : Str → Option Value) (base : Heap) (CX : CXT) (k : Nat) (f : Addr) (fd : FuncData) (ps : List Str) (sp : Sp) : Prop where
  len : ∀ vs H Q E, sp vs H Q E → vs.length = ps.length
  run : ∀ (A : Around) (outer : List Env) (s : Shared) (H : Hp) (args : Args) (us : List Value) (vs : List V) (Q : VK) (E : XK), Room k A → Env0 P w K mg base A outer s H → BindsTo s fd args (ps.zip us) → Vals vs us → sp vs H Q E →
    codeAny (model P w) A (.call (.ref f) args) (CR CX outer P w H s Q E) s
theorem FnOk.mono {P : Program} {w : World} {K : PySem.W.Frag} {mg : Str → Option Value} {base : Heap} {CX : CXT} {j k : Nat} {f : Addr} {fd : FuncData} {ps : List Str} {sp : Sp} (F : FnOk P w K mg base CX j f fd ps sp) (h : j ≤ k) :
    FnOk P w K mg base CX k f fd ps sp := ⟨F.len, fun A outer s H args us vs Q E hr => F.run A outer s H args us vs Q E (hr.mono h)⟩
theorem FnOk.imp {P : Program} {w : World} {K : PySem.W.Frag} {mg : Str → Option Value} {base : Heap} {CX : CXT} {k : Nat} {f : Addr} {fd : FuncData} {ps : List Str} {sp sp' : Sp} (F : FnOk P w K mg base CX k f fd ps sp)
    (h : ∀ vs H Q E, sp' vs H Q E → sp vs H Q E) : FnOk P w K mg base CX k f fd ps sp' :=
  ⟨fun vs H Q E q => F.len vs H Q E (h _ _ _ _ q), fun A outer s H args us vs Q E hr he hb hv hs => F.run A outer s H args us vs Q E hr he hb hv (h _ _ _ _ hs)⟩
theorem Env0.in1 {P : Program} {w : World} {K : PySem.W.Frag} {mg : Str → Option Value} {base : Heap} {A : Around} {outer : List Env} {s : Shared} {H : Hp} (e : Env0 P w K mg base A outer s H) :
    Env0 P w K mg base A.in1 outer s H := ⟨e.frames, e.mod, e.bs, e.bsz, e.funs, e.frf, e.hok, e.bare⟩
section
variable {X : Cx} {pins : List (Addr × Obj)} {σ : St} {H : Hp} {s s' : Shared}
theorem Inv.env0 (I : Inv X pins σ H s) : Env0 X.prog X.w X.K X.mg X.base X.A X.stack s H :=
  ⟨I.ok.frames, I.ok.mod, I.bs, Nat.le_trans I.ok.bsz I.sz, I.stack, I.stkFree, I.hok, I.bare⟩
theorem Inv.after {Q : VK} {u : Value} (I : Inv X pins σ H s) (h : CE X.stack X.prog X.w H s Q u s') : EP X pins σ Q u s' := by
  obtain ⟨v, H', os, bare, un, hok, r, q⟩ := h
  obtain ⟨hh, g, d, t, os'⟩ := s'
  obtain rfl : os' = s.os := os
  exact ⟨v, H', I.call (h' := hh) (g' := g) (d' := d) (t' := t) (ch := []) un hok bare (fun b z => absurd z (by simp)), r, q⟩
end
def tCall (sp : Sp) (dvs : List V) (E : XK) (t : TA) : TE := fun σ H Q => t σ H fun vs H1 => sp (vs ++ dvs) H1 Q E
def Binds (K : PySem.W.Frag) (fd : FuncData) (ps : List Str) (ds : List Value) : Prop :=
  ∀ (s : Shared) (us : List Value), K.In s.heap → (us ++ ds).length = ps.length → BindsTo s fd ⟨us, []⟩ (ps.zip (us ++ ds))
theorem Binds.all {K : PySem.W.Frag} {fd : FuncData} {ps : List Str} (h : ∀ us : List Value, us.length = ps.length → bindArgs fd ⟨us, []⟩ = pure (ps.zip us)) : Binds K fd ps [] := fun s us _ hl => by
  rw [List.append_nil] at hl ⊢
  exact .of_eq (h us hl)
def Passes (CX : CXT) (X : Cx) (E : XK) : Prop := ∀ (pins : List (Addr × Obj)) (σ : St) (H : Hp) (s : Shared) (e : Value) (s' : Shared), Inv X pins σ H s → CX X.stack H s E e s' → X.xe e s'
section
variable {X : Cx} {CX : CXT} {k : Nat} {f C : Addr} {fd : FuncData} {ps : List Str} {sp : Sp} {dvs : List V} {ds : List Value} {E : XK} {x m : Str} {p pos apos : Pos} {e o : Expr} {es : List Expr} {ta : TE} {t : TA}
theorem run_fn {pins : List (Addr × Obj)} {σ : St} {H : Hp} {s : Shared} {Q : VK} {us : List Value} {vs : List V} (F : FnOk X.prog X.w X.K X.mg X.base CX k f fd ps sp) (hr : Room k X.A) (hb : Binds X.K fd ps ds) (hd : Vals dvs ds) (hx : Passes CX X E)
    (I : Inv X pins σ H s) (r : Vals vs us) (h : sp (vs ++ dvs) H Q E) : wpAny (model X.prog X.w) X.A (call (.ref f) us) (EP X pins σ Q) X.xe s := by
  have r2 : Vals (vs ++ dvs) (us ++ ds) := r.append hd
  have hl : (us ++ ds).length = ps.length := by rw [← r2.length]; exact F.len _ _ _ _ h
  refine wpAny_call (codeAny_mono (F.run X.A X.stack s H ⟨us, []⟩ (us ++ ds) (vs ++ dvs) Q E hr I.env0 (hb s us I.kIn hl) r2 h) fun r s' hq => ?_)
  cases r with
  | error e => exact hx pins σ H s e s' I hq
  | ok fl =>
    cases fl with
    | ret u => exact I.after hq
    | next => exact False.elim hq
    | brk => exact False.elim hq
    | cont => exact False.elim hq
theorem pe_call (F : FnOk X.prog X.w X.K X.mg X.base CX k f fd ps sp) (hr : Room k X.A) (hg : Gl X x) (hm : X.mg x = some (.ref f)) (hk : PySem.W.keepIn X.K (.ref f) = true) (hb : Binds X.K fd ps ds) (hd : Vals dvs ds) (hx : Passes CX X E)
    (ha : PA X (e :: es) t) (hdb : (x == ("__debug__" : Str)) = false := by decide) (he : starEach (e :: es) X.env = (false, eval e X.env) :: starEach es X.env := by rfl) (hpl : (backTo pos (starEach es X.env)).any (·.1) = false := by rfl) :
    PE X (.Call (.Name x p) (e :: es) [] pos) (tCall sp dvs E t) := by
  intro pins s σ H Q I h
  refine wpAny_Call_Name_kw (ld_glob I hg hm ?_ hdb)
  refine PySem.W.callWith_K (h₀ := X.base) I.ok.mod.kin hk (thn (ha pos pins s σ H _ I h) fun us s1 ⟨vs, H1, I1, r, q⟩ => ⟨I1.kIn, ?_⟩) he hpl
  exact run_fn F hr hb hd hx I1 r q
end
section
variable {X : Cx} {CX : CXT} {k : Nat} {f C : Addr} {fd : FuncData} {ps ks : List Str} {sp : Sp} {E : XK} {x m : Str} {p pos apos kpos : Pos} {e o : Expr} {es : List Expr} {kws : List Keyword} {te ta : TE} {t tk : TA} {nm : Option Str}
variable {g : List Value → List Value → List Value} {gV : List V → List V → List V}
end
structure FnScope (N P : List Str) (sc : Scope) : Prop where
  kind : sc.kind = .function
  co : sc.isCoroutine = false
  gen : sc.isGenerator = false
  nd : N.Nodup
  pre : N.take P.length = P
  par : ∀ x ∈ P, sc.names.lookup x = some .local ∨ sc.names.lookup x = some .cell
  nofree : ∀ y ∈ sc.names, y.2 ≠ .free
theorem bindL_out {kindOf : Str → Option NameKind} {x : Str} : ∀ {binds : List (Str × Value)} {m : Str → Option Value}, (∀ v, (x, v) ∉ binds) → bindL kindOf binds m x = m x
  | [], _, _ => rfl
  | (n, v) :: r, m, h => by
    unfold bindL
    rw [bindL_out fun w hw => h w (List.mem_cons_of_mem _ hw)]
    split
    · have : x ≠ n := by rintro rfl; exact h v List.mem_cons_self
      simp [this]
    · rfl
theorem bindC_out {kindOf : Str → Option NameKind} {x : Str} : ∀ {binds : List (Str × Value)} {m : Str → Option Value}, (∀ v, (x, v) ∉ binds) → bindC kindOf binds m x = m x
  | [], _, _ => rfl
  | (n, v) :: r, m, h => by
    unfold bindC
    rw [bindC_out fun w hw => h w (List.mem_cons_of_mem _ hw)]
    split
    · rfl
    · have : x ≠ n := by rintro rfl; exact h v List.mem_cons_self
      simp [this]
theorem bindL_get {kindOf : Str → Option NameKind} {x : Str} {v : Value} : ∀ {P : List Str} {vs : List Value} {i : Nat} {m : Str → Option Value}, P.Nodup → P[i]? = some x → vs[i]? = some v → kindOf x = some .local →
    bindL kindOf (P.zip vs) m x = some v
  | [], _, _, _, _, h, _, _ => by simp at h
  | _ :: _, [], _, _, _, _, h, _ => by simp at h
  | p :: P, w :: vs, 0, m, nd, h1, h2, hk => by
    simp at h1 h2; subst h1; subst h2
    show bindL kindOf ((p, w) :: P.zip vs) m p = _
    unfold bindL
    rw [bindL_out fun v hv => (List.nodup_cons.mp nd).1 (List.of_mem_zip hv).1, if_pos hk]
    simp
  | p :: P, w :: vs, i + 1, m, nd, h1, h2, hk => by
    show bindL kindOf ((p, w) :: P.zip vs) m x = _
    unfold bindL
    exact bindL_get (i := i) (List.nodup_cons.mp nd).2 (by simpa using h1) (by simpa using h2) hk
theorem bindC_get {kindOf : Str → Option NameKind} {x : Str} {v : Value} : ∀ {P : List Str} {vs : List Value} {i : Nat} {m : Str → Option Value}, P.Nodup → P[i]? = some x → vs[i]? = some v → kindOf x ≠ some .local →
    bindC kindOf (P.zip vs) m x = some v
  | [], _, _, _, _, h, _, _ => by simp at h
  | _ :: _, [], _, _, _, _, h, _ => by simp at h
  | p :: P, w :: vs, 0, m, nd, h1, h2, hk => by
    simp at h1 h2; subst h1; subst h2
    show bindC kindOf ((p, w) :: P.zip vs) m p = _
    unfold bindC
    rw [bindC_out fun v hv => (List.nodup_cons.mp nd).1 (List.of_mem_zip hv).1, if_neg hk]
    simp
  | p :: P, w :: vs, i + 1, m, nd, h1, h2, hk => by
    show bindC kindOf ((p, w) :: P.zip vs) m x = _
    unfold bindC
    exact bindC_get (i := i) (List.nodup_cons.mp nd).2 (by simpa using h1) (by simpa using h2) hk
def start (N : List Str) (vs : List V) : St := vs.map some ++ List.replicate (N.length - vs.length) none
def cxOf (CX : CXT) (P : Program) (w : World) (K : PySem.W.Frag) (mg : Str → Option Value) (base : Heap) (N : List Str) (qual : Str) (scope : Scope) (f : Addr) (cd : Value) (A : Around) (outer : List Env) (s : Shared) (H : Hp) (E : XK) : Cx where
  prog := P
  w := w
  K := K
  mg := mg
  base := base
  A := A.deeper (envOfC qual scope s.heap.objs.size f cd)
  N := N
  s₀ := s
  H₀ := H
  env := envOfC qual scope s.heap.objs.size f cd
  outer := outer
  stack := envOfC qual scope s.heap.objs.size f cd :: outer
  ex := []
  calm := true
  fn := fun _ => true
  pn := []
  xe := fun e s' => wpAny (model P w) (A.deeper (envOfC qual scope s.heap.objs.size f cd)) (leaving (envOfC qual scope s.heap.objs.size f cd) e) (fun _ s'' => CX outer H s E e s'') (fun e' s'' => CX outer H s E e' s'') s'
theorem cell_has {sc : Scope} {n : Nat} {x : Str} (h : sc.names.lookup x = some .cell) : ∃ c, (cellsFrom n sc.names []).lookup x = some c := by
  have q := PySem.W.cellsFrom_some sc.names n [] (.inl h)
  exact Option.isSome_iff_exists.mp q
theorem inv_start {CX : CXT} {P : Program} {w : World} {K : PySem.W.Frag} {mg : Str → Option Value} {base : Heap} {N ps : List Str} {qual : Str} {scope : Scope} {f : Addr} {cd : Value} {A : Around} {outer : List Env} {s s1 : Shared} {H : Hp} {E : XK} {us : List Value} {vs : List V}
    (S : FnScope N ps scope) (hd : A.handled = none) (e0 : Env0 P w K mg base A outer s H) (hl : vs.length = ps.length) (r : Vals vs us)
    (x : InCallC s s.heap.objs.size (bindL (envOfC qual scope s.heap.objs.size f cd).kindOf (ps.zip us) fun _ => none) (cellsFrom (s.heap.objs.size + 1) scope.names []) (bindC (envOfC qual scope s.heap.objs.size f cd).kindOf (ps.zip us) fun _ => none) s1) :
    Inv (cxOf CX P w K mg base N qual scope f cd A outer s H E) [] (start N vs) H s1 := by
  have hpl : ps.length ≤ N.length := by have := congrArg List.length S.pre; rw [List.length_take] at this; omega
  obtain ⟨h1, tk, rfl, hk⟩ := x.done
  have noA : ∀ b : Addr, b ∉ (cxOf CX P w K mg base N qual scope f cd A outer s H E).ex := fun b z => absurd (show b ∈ ([] : List Addr) from z) (by simp)
  refine ⟨⟨e0.mod, S.kind, rfl, rfl, Nat.le_refl _, fun y z c h1 h2 => ?_, fun y hy => ?_, fun y c _ h => ?_, fun _ => hd, Around.frames_deeper e0.frames, .inr ⟨rfl, rfl⟩, fun b z => absurd z (noA b), e0.bs, e0.bsz, fun b _ _ => noA b, fun b z => absurd z (noA b), e0.funs, e0.frf⟩,
    rfl, e0.bare, Un.kept hk, ⟨_, x.toInCall.ns, fun i y v h1 h2 h3 => ?_⟩, fun y c h => ⟨_, x.cell y c h⟩, e0.hok.fresh (Nat.le_refl _), fun y c h => ?_, fun p hp => absurd (show p ∈ ([] : List (Addr × Obj)) from hp) (by simp), e0.hok.kept hk, ?_⟩
  · exact name_of_addr x.apart (PySem.mem_of_lookup h1) (PySem.mem_of_lookup h2)
  · have hy : scope.names.lookup y = some .cell ∨ scope.names.lookup y = some .free := hy
    rcases hy with hy | hy
    · exact cell_has hy
    · exact absurd rfl (S.nofree _ (PySem.mem_of_lookup hy))
  · exact Nat.le_of_lt (x.above y c (PySem.mem_of_lookup h))
  · have hi : i < vs.length := by
      unfold start at h2
      by_cases hi : i < vs.length
      · exact hi
      · rw [List.getElem?_append_right (by simpa using hi)] at h2
        rw [List.getElem?_replicate] at h2
        split at h2 <;> cases h2
    have ha : vs[i]? = some v := by
      unfold start at h2
      rw [List.getElem?_append_left (by simpa using hi), List.getElem?_map] at h2
      cases e : vs[i]? with
      | none => rw [e] at h2; cases h2
      | some a => rw [e] at h2; cases h2; rfl
    obtain ⟨u, hu, rv⟩ := r.get ha
    have hp : ps[i]? = some y := by
      rw [← S.pre, List.getElem?_take_of_lt (by omega)]; exact h1
    have ndP : ps.Nodup := by rw [← S.pre]; exact S.nd.sublist (List.take_sublist _ _)
    refine ⟨u, rv, ?_⟩
    rcases S.par y (List.mem_of_getElem? hp) with k | k
    · exact .inl ⟨k, bindL_get ndP hp hu k⟩
    · obtain ⟨c, e⟩ := cell_has (n := s.heap.objs.size + 1) k
      refine .inr ⟨.inl k, c, e, ?_⟩
      have q := x.cell y c e
      rw [bindC_get ndP hp hu (by show scope.names.lookup y ≠ _; rw [k]; decide)] at q
      exact q
  · exact e0.hok.fresh (Nat.le_of_lt (x.above y c (PySem.mem_of_lookup h)))
  · unfold start
    show _ = N.length
    rw [List.length_append, List.length_map, List.length_replicate]
    omega
theorem fn_of {CX : CXT} {P : Program} {w : World} {K : PySem.W.Frag} {mg : Str → Option Value} {base : Heap} {k : Nat} {f : Addr} {name qual : Str} {params : Arguments} {body : List Stmt} {scope : Scope} {dV kV doc pm cdv ct oc : Value} {an od : Option Addr}
    {osl : Array (Option Value)} {N ps : List Str} {sp : Sp} (lk : K.lookup f = some ⟨oc, od, .func (PySem.W.fnOf name qual params body scope dV kV doc pm an cdv ct), osl⟩) (hcd : PySem.W.codeIn K cdv qual = true) (S : FnScope N ps scope)
    (len : ∀ vs H Q E, sp vs H Q E → vs.length = ps.length)
    (hbody : ∀ (A : Around) (outer : List Env) (s : Shared) (H : Hp) (vs : List V) (Q : VK) (E : XK), Room k (A.deeper (envOfC qual scope s.heap.objs.size f cdv)) → sp vs H Q E →
      ∃ t, PSs (cxOf CX P w K mg base N qual scope f cdv A outer s H E) body t ∧ t { nx := fun _ H' => Q .non H', rt := Q } (start N vs) H) :
    FnOk P w K mg base CX (k + 1) f (PySem.W.fnOf name qual params body scope dV kV doc pm an cdv ct) ps sp := by
  refine ⟨len, fun A outer s H args us vs Q E hr e0 hb r hsp => ?_⟩
  have hl := len _ _ _ _ hsp
  have KX : K.In s.heap := e0.mod.kin.keeps fun b o e => (e0.bs b o e).1
  have lim : s.heap.NoLimit := e0.mod.nolimit.keeps fun b o e => (e0.bs b o e).1
  have hkind : ∀ y ∈ ps.zip us, scope.names.lookup y.1 = some .local ∨ (scope.names.lookup y.1 = some .cell ∧ ((cellsFrom (s.heap.objs.size + 1) scope.names []).lookup y.1).isSome = true) := fun ⟨n, v⟩ hy => by
    rcases S.par n (List.of_mem_zip hy).1 with q | q
    · exact .inl q
    · exact .inr ⟨q, PySem.W.cellsFrom_some _ _ _ (.inl q)⟩
  refine codeAny_call_function hr.depth (KX _ _ lk) rfl S.co S.gen rfl (PySem.W.codeRec_of KX hcd) (hb _ _ _ _ ?_)
  refine wpAny_newFunctionEnv_cells S.kind hkind fun env he s1 x => ?_
  subst he
  refine ⟨lim.keeps x.toInCall.keep, codeAny_func ?_⟩
  obtain ⟨t, ht, hq⟩ := hbody A outer s H vs Q E (hr.deeper _) hsp
  have I : Inv (cxOf CX P w K mg base N qual scope f cdv A outer s H E) [] (start N vs) H s1 := inv_start S hr.hd e0 hl r x
  refine wpAny_mono (ht [] s1 (start N vs) H _ I hq) (fun fl s' hs => ?_) fun e s' hs => hs
  have fin : ∀ {σ' : St} {H' : Hp} {v : V} {u : Value}, Inv (cxOf CX P w K mg base N qual scope f cdv A outer s H E) [] σ' H' s' → RelV v u → Q v H' → CE outer P w H s Q u s' :=
    fun {σ' H' v u} J rv q => ⟨v, H', J.os, J.bare, J.base, J.hok, rv, q⟩
  cases fl with
  | ret u =>
    obtain ⟨v, σ', H', J, rv, q⟩ := hs
    exact fin J rv q
  | next =>
    obtain ⟨σ', H', J, q⟩ := hs
    exact fin (v := V.non) (u := Value.none) J rfl q
  | brk =>
    obtain ⟨_, _, _, q⟩ := hs
    exact False.elim q
  | cont =>
    obtain ⟨_, _, _, q⟩ := hs
    exact False.elim q
end L2
namespace L2
open PySem PySem.Spec PyProof.Rows
section
variable {X : Cx} {x : Str} {p pos : Pos} {e : Expr} {es : List Expr} {t : TA} {id T : String} {r : List V → Hp → VK → Prop}
def tCB (r : List V → Hp → VK → Prop) (t : TA) : TE := fun σ H Q => t σ H fun vs H1 => r vs H1 Q
theorem pe_callB (hc : CallR X (.builtin id) r) (hg : Gl X x) (hm : X.mg x = none) (hv : bootBuiltins x = some (.builtin id)) (ha : PA X (e :: es) t) (hn : x ≠ "__name__" := by decide) (hdb : (x == ("__debug__" : Str)) = false := by decide)
    (he : starEach (e :: es) X.env = (false, eval e X.env) :: starEach es X.env := by rfl) (hpl : (backTo pos (starEach es X.env)).any (·.1) = false := by rfl) : PE X (.Call (.Name x p) (e :: es) [] pos) (tCB r t) := by
  intro pins s σ H Q I h
  refine wpAny_Call_Name_kw (ld_blt I hg hm hv ?_ hn hdb)
  exact PyProof.Rows.callWith_builtin1 (thn (ha pos pins s σ H _ I h) fun us s1 ⟨vs, H1, I1, r1, q1⟩ => hc pins s1 σ H1 vs us Q I1 r1 q1) he hpl
theorem pe_callTy (hc : CallR X (.type T) r) (hg : Gl X x) (hm : X.mg x = none) (hv : bootBuiltins x = some (.type T)) (ha : PA X (e :: es) t) (hn : x ≠ "__name__" := by decide) (hdb : (x == ("__debug__" : Str)) = false := by decide)
    (he : starEach (e :: es) X.env = (false, eval e X.env) :: starEach es X.env := by rfl) (hpl : (backTo pos (starEach es X.env)).any (·.1) = false := by rfl) : PE X (.Call (.Name x p) (e :: es) [] pos) (tCB r t) := by
  intro pins s σ H Q I h
  refine wpAny_Call_Name_kw (ld_blt I hg hm hv ?_ hn hdb)
  exact PyProof.Rows.callWith_type1 (thn (ha pos pins s σ H _ I h) fun us s1 ⟨vs, H1, I1, r1, q1⟩ => hc pins s1 σ H1 vs us Q I1 r1 q1) he hpl
end
end L2
namespace HT
open PySem PyProof.Rows
section
open PySem.SeqAt
open PySem.AutoSeq1 (wpAny_loadPart')
open PySem.MeetsSeq PySem.MeetsSeq2 PySem.MeetsSeq3
end
section
variable {prog : Program} {w : World} {A : Around} {E : Value → Shared → Prop} {s : Shared}
theorem cat_tup {t b : Addr} {vs ws : List Value} {Q : Value → Shared → Prop} (ht : IsTup s.heap t vs.toArray) (hb : IsTup s.heap b ws.toArray) (hv : vs ≠ [])
    (h1 : ws = [] → Q (.ref t) s) (h2 : ws ≠ [] → Q (.ref s.heap.objs.size) { s with heap := s.heap.push { cls := .type "tuple", data := .seq (vs ++ ws).toArray } })
    (hsz : vs.length + ws.length ≤ sizeLine) : wpAny (model prog w) A (binaryOp .Add (.ref t) (.ref b)) Q E s := by
  obtain ⟨⟨cls, dd, data, sl⟩, ho, hc, n, hd⟩ := id ht
  obtain ⟨⟨cls2, dd2, data2, sl2⟩, ho2, hc2, n2, hd2⟩ := id hb
  simp only at hc hd hc2 hd2
  subst hc hd hc2 hd2
  have e : vs.toArray ++ ws.toArray = (vs ++ ws).toArray := by simp
  by_cases hw : ws = []
  · exact concat_meets ⟨_, ho, rfl⟩ ⟨_, ho2, rfl⟩ noFill_tuple_add seq_tuple_add PySem.F.slot_tuple_add PySem.F.entry_tuple_add (PySem.F.args_tuple_add_2 _ _)
      (tuple_addW1 t b vs.toArray ws.toArray n n2 dd dd2 sl sl2 (by simpa using hv) (by simp [hw])) ⟨ho, ho2, h1 hw⟩
  · refine concat_meets ⟨_, ho, rfl⟩ ⟨_, ho2, rfl⟩ noFill_tuple_add seq_tuple_add PySem.F.slot_tuple_add PySem.F.entry_tuple_add (PySem.F.args_tuple_add_2 _ _)
      (tuple_addW2 t b vs.toArray ws.toArray n n2 dd dd2 sl sl2 (by simpa using hv) (by simpa using hw) (by rw [List.size_toArray, List.size_toArray]; exact hsz)) ⟨ho, ho2, ?_⟩
    rw [e]
    exact h2 hw
def sIx (n d : Nat) : Option Int → Nat
  | none => d
  | some v => if v < 0 then (v + (n : Int)).toNat else min v.toNat n
theorem sIx_none (n d : Nat) : sIx n d none = d := rfl
theorem sIx_nat (n d k : Nat) : sIx n d (some (k : Int)) = min k n := by
  show (if (k : Int) < 0 then ((k : Int) + (n : Int)).toNat else min (k : Int).toNat n) = min k n
  rw [if_neg (by omega), Int.toNat_natCast]
theorem sIx_le (n d : Nat) (hd : d ≤ n) (o : Option Int) : sIx n d o ≤ n := by
  cases o with
  | none => exact hd
  | some v =>
    show (if v < 0 then (v + (n : Int)).toNat else min v.toNat n) ≤ n
    by_cases hv : v < 0
    · rw [if_pos hv]; omega
    · rw [if_neg hv]; exact Nat.min_le_right _ _
theorem clip_eq (v : Int) (n d : Nat) : (if v < 0 then max (v + (n : Int)) 0 else min v (n : Int)) = ((sIx n d (some v) : Nat) : Int) := by
  show (if v < 0 then max (v + (n : Int)) 0 else min v (n : Int)) = (((if v < 0 then (v + (n : Int)).toNat else min v.toNat n) : Nat) : Int)
  by_cases hv : v < 0
  · simp only [if_pos hv]; omega
  · simp only [if_neg hv]; omega
theorem adjust_gen (lo hi : Option Int) (n : Nat) : Builtin.Slice.sliceAdjust lo hi 1 (n : Int) = (((sIx n 0 lo : Nat) : Int), ((sIx n n hi : Nat) : Int)) := by
  have h1 : ¬ ((1 : Int) < 0) := by omega
  unfold Builtin.Slice.sliceAdjust
  simp only [h1, if_false]
  refine Prod.ext ?_ ?_
  · cases lo with
    | none => rfl
    | some v => exact clip_eq v n 0
  · cases hi with
    | none => rfl
    | some v => exact clip_eq v n n
theorem places_gen (i j : Nat) : Builtin.Slice.slicePlaces (i : Int) (j : Int) 1 = j - i := by
  unfold Builtin.Slice.slicePlaces
  have h1 : (1 : Int) > 0 := by omega
  simp only [h1, if_true, Int.ediv_one]
  split <;> omega
theorem slicePart_ {v : Value} {o : Option Int} {Q : Option Int → Shared → Prop} (p : IsPart v o) (h : Q o s) : wpAny (model prog w) A (Builtin.Slice.slicePartIndex v) Q E s := by
  cases p with
  | none => exact slicePart_none h
  | int i t => exact slicePart_int h
theorem sliceApplied_gen {sl : Addr} {vl vu : Value} {lo hi : Option Int} {n : Nat} {Q : Int × Int × Nat → Shared → Prop} (hs : s.heap.IsSliceOf sl vl vu .none) (pl : IsPart vl lo) (pu : IsPart vu hi)
    (h : Q (((sIx n 0 lo : Nat) : Int), 1, sIx n n hi - sIx n 0 lo) s) : wpAny (model prog w) A (Builtin.Slice.sliceApplied (.ref sl) (pure (n : Int))) Q E s := by
  obtain ⟨os, hos, hcs, hds⟩ := id hs
  unfold Builtin.Slice.sliceApplied Builtin.Slice.sliceFields
  refine wpAny_bind (wpAny_bind (wpAny_field hos hds (x := vl) rfl (wpAny_bind (wpAny_field hos hds (x := vu) rfl (wpAny_bind (wpAny_field hos hds (x := .none) rfl (wpAny_pure ?_)))))))
  refine wpAny_bind (slicePart_none ?_)
  show wpAny _ _ (if ((1 : Int) == 0) = true then _ else _) _ _ s
  rw [if_neg (by decide)]
  refine wpAny_bind (slicePart_ pl (wpAny_bind (slicePart_ pu (wpAny_bind (wpAny_pure ?_)))))
  show wpAny _ _ (match Builtin.Slice.sliceAdjust lo hi 1 (n : Int) with | (lo, hi) => pure (lo, (1 : Int), Builtin.Slice.slicePlaces lo hi 1)) _ _ s
  rw [adjust_gen lo hi n]
  show wpAny _ _ (pure (((sIx n 0 lo : Nat) : Int), (1 : Int), Builtin.Slice.slicePlaces ((sIx n 0 lo : Nat) : Int) ((sIx n n hi : Nat) : Int) 1)) _ _ s
  rw [places_gen]
  exact wpAny_pure h
theorem pick_gen (xs : Array Value) (i k : Nat) : ((List.range k).filterMap fun (m : Nat) => xs[((i : Int) + (m : Int) * 1).toNat]?).toArray = ((xs.toList.drop i).take k).toArray := by
  have e : (fun (m : Nat) => xs[((i : Int) + (m : Int) * 1).toNat]?) = fun m => xs[i + m]? := by
    funext m
    have : ((i : Int) + (m : Int) * 1).toNat = i + m := by omega
    rw [this]
  rw [e]
  have := pick_run xs i k
  rw [List.filterMap_map] at this
  have e2 : ((fun x => xs[x]?) ∘ fun x => i + x) = fun m => xs[i + m]? := rfl
  rw [e2] at this
  rw [this]
theorem getItem_tuple_cut {t sl : Addr} {items : Array Value} {vl vu : Value} {lo hi : Option Int} {Q : Value → Shared → Prop} (ht : IsTup s.heap t items) (hs : s.heap.IsSliceOf sl vl vu .none) (pl : IsPart vl lo) (pu : IsPart vu hi)
    (hw : ¬ (sIx items.size 0 lo = 0 ∧ sIx items.size items.size hi = items.size))
    (h : Q (.ref s.heap.objs.size) { s with heap := s.heap.push { cls := .type "tuple", data := .seq ((items.toList.drop (sIx items.size 0 lo)).take (sIx items.size items.size hi - sIx items.size 0 lo)).toArray } })
    (hsz : items.size ≤ sizeLine) : wpAny (model prog w) A (getItem (.ref t) (.ref sl)) Q E s := by
  have htake : sizeOk (.seq ((items.toList.drop (sIx items.size 0 lo)).take (sIx items.size items.size hi - sIx items.size 0 lo)).toArray) := by
    show ((items.toList.drop (sIx items.size 0 lo)).take (sIx items.size items.size hi - sIx items.size 0 lo)).toArray.size ≤ sizeLine
    rw [List.size_toArray, List.length_take, List.length_drop, Array.length_toList]
    omega
  have hj : sIx items.size items.size hi ≤ items.size := sIx_le _ _ (Nat.le_refl _) hi
  obtain ⟨os, hos, hcs, hds⟩ := id hs
  have hTs : s.TypeIs (.ref sl) "slice" := ⟨os, hos, hcs⟩
  unfold getItem
  try with_reducible refine wpAny_holding ?_
  first | refine wpAny_bind (wpAny_pure ?_) | skip
  refine wpAny_bind (wpAny_sequenceKey ht.typeIs (by decide) ?_)
  refine wpAny_bind (wpAny_callSpecial?_slot (name := Str.ofString "__getitem__") ht.typeIs PyProof.Rows.slot_tuple_getitem
    (wpAny_call_entry PyProof.Rows.slot_tuple_getitem ht.typeIs entry_tuple_getitem ?_ (args_tuple_getitem _ _)))
  show wpAny _ _ (Builtin.Tuple.tupleItemsOf (.ref t) >>= _) _ _ s
  refine wpAny_bind (tupleItemsOf_ ht ?_)
  refine wpAny_bind (wpAny_typeOf hTs ?_)
  rw [if_pos (by decide)]
  refine wpAny_bind (sliceApplied_gen hs pl pu ?_)
  have hno : ¬ ((((sIx items.size 0 lo : Nat) : Int) == 0 && (1 : Int) == 1 && (sIx items.size items.size hi - sIx items.size 0 lo) == items.size) = true) := by
    intro q
    rw [Bool.and_eq_true, Bool.and_eq_true] at q
    have q1 : ((sIx items.size 0 lo : Nat) : Int) = 0 := eq_of_beq q.1.1
    have q2 : sIx items.size items.size hi - sIx items.size 0 lo = items.size := eq_of_beq q.2
    exact hw ⟨by omega, by omega⟩
  show wpAny _ _ (if (((sIx items.size 0 lo : Nat) : Int) == 0 && (1 : Int) == 1 && (sIx items.size items.size hi - sIx items.size 0 lo) == items.size) = true then _ else _) _ _ s
  rw [if_neg hno, pick_gen]
  first
    | exact wpAny_bind (m := Builtin.Tuple.tupleExact _) (wpAny_newObj_type (wpAny_pure ⟨_, rfl, wpAny_pure h⟩) htake)
    | exact wpAny_bind (m := Builtin.Tuple.tupleExact _) (wpAny_newObj_type (wpAny_bind (wpAny_pure (wpAny_pure ⟨_, rfl, wpAny_pure h⟩))) htake)
    | exact wpAny_bind (wpAny_bind (m := Builtin.Tuple.tupleExact _) (wpAny_newObj_type (wpAny_pure (wpAny_pure ⟨_, rfl, wpAny_pure h⟩)) htake))
    | exact wpAny_bind (wpAny_bind (m := Builtin.Tuple.tupleExact _) (wpAny_newObj_type (wpAny_pure ⟨_, rfl, wpAny_pure h⟩) htake))
end
end HT
namespace L2
open PySem PySem.Spec PyProof.Rows
abbrev TO := St → Hp → (Option Int → Hp → Prop) → Prop
def PO (X : Cx) (e : Option Expr) (t : TO) : Prop :=
  ∀ (pins : List (Addr × Obj)) (s : Shared) (σ : St) (H : Hp) (Q : Option Int → Hp → Prop), Inv X pins σ H s → t σ H Q →
    wpAny (model X.prog X.w) X.A (evalPart e X.env) (fun u s' => ∃ o H', Inv X pins σ H' s' ∧ IsPart u o ∧ Q o H') X.xe s
def tNoPart : TO := fun _ H Q => Q none H
def tPart (t : TE) : TO := fun σ H Q => t σ H fun x H1 => ∃ i, x = .int i ∧ Q (some i) H1
theorem intsAre_of {ns : List Int} : ∀ {us : List Value}, Vals (ns.map V.int) us → IntsAre us ns := by
  induction ns with
  | nil => intro us r; rw [List.map_nil] at r; cases r; exact .nil
  | cons n ns ih =>
    intro us r
    rw [List.map_cons] at r
    cases r with
    | cons r1 r2 =>
      obtain ⟨t, e⟩ := r1
      subst e
      exact .cons n t (ih r2)
section
variable {X : Cx} {e : Expr} {te : TE} {lo hi : Option Expr} {tl th : TO} {pos p2 : Pos}
theorem po_none : PO X none tNoPart := by
  intro pins s σ H Q I h
  rw [evalPart_none]
  exact wpAny_pure ⟨none, H, I, .none, h⟩
theorem po_some (h : PE X e te) : PO X (some e) (tPart te) := by
  intro pins s σ H Q I hw
  rw [evalPart_some]
  refine thn (h pins s σ H _ I hw) fun u s1 ⟨x, H1, I1, r1, q1⟩ => ?_
  obtain ⟨i, rfl, q⟩ := q1
  obtain ⟨t, rfl⟩ := r1
  exact ⟨some i, H1, I1, .int i t, q⟩
def SlR (X : Cx) (r : V → Option Int → Option Int → Hp → VK → Prop) : Prop :=
  ∀ (pins : List (Addr × Obj)) (s : Shared) (σ : St) (H : Hp) (x : V) (v vl vu : Value) (lo hi : Option Int) (sl : Addr) (Q : VK), Inv X pins σ H s → RelV x v → s.heap.IsSliceOf sl vl vu .none → IsPart vl lo → IsPart vu hi → r x lo hi H Q →
    ∃ T id, typeLookup (.type T) "__getitem__" = pure (some (.builtin id)) ∧ s.TypeIs v T ∧ wpAny (model X.prog X.w) X.A (getItem v (.ref sl)) (EP X pins σ Q) X.xe s
theorem SlR.or {r r' : V → Option Int → Option Int → Hp → VK → Prop} (h : SlR X r) (h' : SlR X r') : SlR X (fun x lo hi H Q => r x lo hi H Q ∨ r' x lo hi H Q) := by
  intro pins s σ H x v vl vu lo hi sl Q I rx hs pl pu q
  rcases q with q | q
  · exact h pins s σ H x v vl vu lo hi sl Q I rx hs pl pu q
  · exact h' pins s σ H x v vl vu lo hi sl Q I rx hs pl pu q
def tSl (r : V → Option Int → Option Int → Hp → VK → Prop) (te : TE) (tl th : TO) : TE := fun σ H Q => te σ H fun x H1 => tl σ H1 fun l H2 => th σ H2 fun u H3 => r x l u H3 Q
theorem pe_slice {r : V → Option Int → Option Int → Hp → VK → Prop} (hr : SlR X r) (he : PE X e te) (hl : PO X lo tl) (hu : PO X hi th) : PE X (.Subscript e (.Slice lo hi none p2) pos) (tSl r te tl th) := by
  intro pins s σ H Q I h
  refine Subscript_ (thn (he pins s σ H _ I h) fun v s1 ⟨x, H1, I1, r1, q1⟩ => ?_)
  refine wpAny_Slice (thn (hl pins s1 σ H1 _ I1 q1) fun vl s2 ⟨l, H2, I2, pl, q2⟩ => thn (hu pins s2 σ H2 _ I2 q2) fun vu s3 ⟨u, H3, I3, pu, q3⟩ => ?_)
  rw [evalPart_none]
  refine wpAny_pure ?_
  have I4 : Inv X pins σ H3 { s3 with heap := s3.heap.push { cls := .type "slice", data := .fields #[vl, vu, .none] } } := I3.kept (t' := s3.toks) fun b ob q => Heap.get?_push_of_some _ q
  obtain ⟨T, id, hT, ht, hg⟩ := hr pins { s3 with heap := s3.heap.push { cls := .type "slice", data := .fields #[vl, vu, .none] } } σ H3 x v vl vu l u s3.heap.objs.size Q I4 r1 (Heap.IsSliceOf.new ..) pl pu q3
  show wpAny (model X.prog X.w) X.A (subscriptTail e (.Slice lo hi none p2) v (.ref s3.heap.objs.size)) (EP X pins σ Q) X.xe { s3 with heap := s3.heap.push { cls := .type "slice", data := .fields #[vl, vu, .none] } }
  exact tail_any (ops := [.ref s3.heap.objs.size, v]) ht hT hg (by with_unfolding_all rfl)
def cutV (xs : List V) (lo hi : Option Int) : List V := (xs.drop (HT.sIx xs.length 0 lo)).take (HT.sIx xs.length xs.length hi - HT.sIx xs.length 0 lo)
theorem cutV_length (xs : List V) (lo hi : Option Int) : (cutV xs lo hi).length ≤ xs.length := by
  unfold cutV
  rw [List.length_take, List.length_drop]
  omega
def rSlT (K : PySem.W.Frag) : V → Option Int → Option Int → Hp → VK → Prop := fun x lo hi H Q => ∃ a xs, x = .ref a ∧ SqT K H a xs ∧
  ¬ (HT.sIx xs.length 0 lo = 0 ∧ HT.sIx xs.length xs.length hi = xs.length) ∧ ∀ p, H p = none → Q (.ref p) (upd H p (.tup (cutV xs lo hi)))
theorem sl_tup : SlR X (rSlT X.K) := by
  intro pins s σ H x v vl vu lo hi sl Q I rx hs pl pu h
  obtain ⟨a, xs, rfl, hx, hw, q⟩ := h
  cases rx
  obtain ⟨its, r, ht, hz⟩ := I.tuple hx
  have hlen : its.toArray.size = xs.length := by rw [List.size_toArray]; exact r.length.symm
  refine ⟨"tuple", _, PyProof.Rows.slot_tuple_getitem.lookup, ht.typeIs, ?_⟩
  refine HT.getItem_tuple_cut ht hs pl pu (by rw [hlen]; exact hw) ?_ (by rw [hlen]; exact hz)
  rw [hlen]
  refine ⟨.ref s.heap.objs.size, _, I.laid (t' := s.toks) (o := .tup (cutV xs lo hi)) (fun b ob q => Heap.get?_push_of_some _ q) (Nat.le_refl _) ?_, rfl, q _ (I.hok.fresh (Nat.le_refl _))⟩
  exact ⟨Nat.le_trans (cutV_length xs lo hi) hz, _, (r.drop (HT.sIx xs.length 0 lo)).take (HT.sIx xs.length xs.length hi - HT.sIx xs.length 0 lo), IsTup.new _ _⟩
def rCatT (K : PySem.W.Frag) : R2 := fun x y H Q => ∃ a b xs ys, x = .ref a ∧ y = .ref b ∧ SqT K H a xs ∧ SqT K H b ys ∧ xs ≠ [] ∧ xs.length + ys.length ≤ sizeLine ∧
  (ys = [] → Q (.ref a) H) ∧ (ys ≠ [] → ∀ p, H p = none → Q (.ref p) (upd H p (.tup (xs ++ ys))))
theorem Vals.nil_iff {xs : List V} {us : List Value} (r : Vals xs us) : us = [] ↔ xs = [] := by
  cases r with
  | nil => simp
  | cons _ _ => simp
theorem op_catT : OpR X (binaryOp .Add) (rCatT X.K) := by
  intro pins s σ H x y v u Q I rx ry h
  obtain ⟨a, b, xs, ys, rfl, rfl, ha, hb, hx, hz, q1, q2⟩ := h
  cases rx
  cases ry
  obtain ⟨its, r1, p1, _⟩ := I.tuple ha
  obtain ⟨its2, r2, p2, _⟩ := I.tuple hb
  refine HT.cat_tup p1 p2 (fun z => hx (r1.nil_iff.mp z)) (fun z => ⟨.ref a, H, I, rfl, q1 (r2.nil_iff.mp z)⟩) (fun z => ?_) (by rw [← r1.length, ← r2.length]; exact hz)
  refine ⟨.ref s.heap.objs.size, _, I.laid (t' := s.toks) (o := .tup (xs ++ ys)) (fun b ob q => Heap.get?_push_of_some _ q) (Nat.le_refl _) ?_, rfl, q2 (fun w => z (r2.nil_iff.mpr w)) _ (I.hok.fresh (Nat.le_refl _))⟩
  exact ⟨by rw [List.length_append]; exact hz, _, r1.append r2, IsTup.new _ _⟩
end
end L2
namespace L2
open PySem PySem.Spec PyProof.Rows
def ixN (n : Nat) (i : Int) : Option Nat := if 0 ≤ i then (if i < n then some i.toNat else none) else if -(n : Int) ≤ i then some (i + n).toNat else none
def atI {α : Type} (xs : List α) (i : Int) : Option α := (ixN xs.length i).bind fun j => xs[j]?
theorem ixN_seq {n : Nat} {i : Int} {j : Nat} (h : ixN n i = some j) : seqIndex? i n = some j ∧ j < n ∧ -(n : Int) ≤ i ∧ i < n := by
  unfold ixN at h
  by_cases h0 : 0 ≤ i
  · rw [if_pos h0] at h
    by_cases h1 : i < n
    · rw [if_pos h1] at h
      have e : i.toNat = j := Option.some.inj h
      exact ⟨by rw [seqIndex_of h0 h1, e], by omega, by omega, h1⟩
    · rw [if_neg h1] at h; cases h
  · rw [if_neg h0] at h
    by_cases h1 : -(n : Int) ≤ i
    · rw [if_pos h1] at h
      have e : (i + n).toNat = j := Option.some.inj h
      exact ⟨by rw [seqIndex_neg (by omega) h1, e], by omega, h1, by omega⟩
    · rw [if_neg h1] at h; cases h
theorem atI_get {α : Type} {xs : List α} {i : Int} {v : α} (h : atI xs i = some v) : ∃ j, seqIndex? i xs.length = some j ∧ xs[j]? = some v ∧ j < xs.length ∧ -(xs.length : Int) ≤ i ∧ i < xs.length := by
  unfold atI at h
  cases e : ixN xs.length i with
  | none => rw [e] at h; cases h
  | some j =>
    rw [e] at h
    obtain ⟨h1, h2, h3, h4⟩ := ixN_seq e
    exact ⟨j, h1, h, h2, h3, h4⟩
theorem atI_nat {α : Type} {xs : List α} {j : Nat} {v : α} (h : xs[j]? = some v) : atI xs (j : Int) = some v := by
  have hj : j < xs.length := (List.getElem?_eq_some_iff.mp h).1
  have e : ixN xs.length (j : Int) = some j := by
    unfold ixN
    rw [if_pos (by omega), if_pos (by omega)]; simp
  unfold atI; rw [e]; exact h
theorem atI_last {α : Type} (xs : List α) (v : α) : atI (xs ++ [v]) (-1) = some v := by
  have hl : (xs ++ [v]).length = xs.length + 1 := by simp
  have e : ixN (xs ++ [v]).length (-1) = some xs.length := by
    unfold ixN
    rw [hl, if_neg (by decide), if_pos (by omega)]
    congr 1
    omega
  unfold atI
  rw [e]
  show (xs ++ [v])[xs.length]? = some v
  simp
def PlainIx (b : Expr) : Prop := ∀ o i, subscripted b false o i = operate [o, i] (getItem o i)
def IxR (X : Cx) (r : R2) : Prop :=
  ∀ (value slice : Expr) (pins : List (Addr × Obj)) (s : Shared) (σ : St) (H : Hp) (x y : V) (v u : Value) (Q : VK), Inv X pins σ H s → RelV x v → RelV y u → r x y H Q →
    subscripted slice false v u = operate [v, u] (getItem v u) → wpAny (model X.prog X.w) X.A (subscriptTail value slice v u) (EP X pins σ Q) X.xe s
def MtR (X : Cx) (id : String) (r : V → List V → Hp → VK → Prop) : Prop :=
  ∀ (pins : List (Addr × Obj)) (s : Shared) (σ : St) (H : Hp) (x : V) (xs : List V) (v : Value) (us : List Value) (Q : VK), Inv X pins σ H s → RelV x v → Vals xs us → r x xs H Q →
    wpAny (model X.prog X.w) X.A (call (.builtin id) (v :: us)) (EP X pins σ Q) X.xe s
section
variable {X : Cx} {a b : Expr} {ta tb : TE} {pos : Pos}
theorem IxR.or {r r' : R2} (h : IxR X r) (h' : IxR X r') : IxR X (fun x y H Q => r x y H Q ∨ r' x y H Q) := by
  intro value slice pins s σ H x y v u Q I rx ry q hs
  rcases q with q | q
  · exact h value slice pins s σ H x y v u Q I rx ry q hs
  · exact h' value slice pins s σ H x y v u Q I rx ry q hs
theorem MtR.or {id : String} {r r' : V → List V → Hp → VK → Prop} (h : MtR X id r) (h' : MtR X id r') : MtR X id (fun x xs H Q => r x xs H Q ∨ r' x xs H Q) := by
  intro pins s σ H x xs v us Q I rx rs q
  rcases q with q | q
  · exact h pins s σ H x xs v us Q I rx rs q
  · exact h' pins s σ H x xs v us Q I rx rs q
theorem pe_ix {r : R2} (hr : IxR X r) (ha : PE X a ta) (hb : PE X b tb) (hs : PlainIx b) : PE X (.Subscript a b pos) (tOp r ta tb) := by
  intro pins s σ H Q I h
  exact Subscript_ (binT ha hb I h fun v u s2 x y H2 I2 rx ry q => hr a b pins s2 σ H2 x y v u Q I2 rx ry q (hs _ _))
def rIxL (K : PySem.W.Frag) : R2 := fun x y H Q => ∃ p xs i v, x = .ref p ∧ y = .int i ∧ SqL K H p xs ∧ atI xs i = some v ∧ Q v H
def rIxT (K : PySem.W.Frag) : R2 := fun x y H Q => ∃ p xs i v, x = .ref p ∧ y = .int i ∧ SqT K H p xs ∧ atI xs i = some v ∧ Q v H
def rIxS : R2 := fun x y H Q => ∃ z i c, x = .str z ∧ y = .int i ∧ z.length ≤ sizeLine ∧ atI z.cps.toList i = some c ∧ Q (.str ⟨#[c]⟩) H
theorem ix_list : IxR X (rIxL X.K) := by
  intro value slice pins s σ H x y v u Q I rx ry h hs
  obtain ⟨p, xs, i, z, rfl, rfl, hq, he, q⟩ := h
  cases rx
  obtain ⟨t, rfl⟩ := ry
  obtain ⟨its, r, pl, hz⟩ := I.list hq
  obtain ⟨j, h1, h2, h3, h4, h5⟩ := atI_get he
  obtain ⟨w, ew, rw'⟩ := r.get h2
  have hl := r.length
  have hn := line63
  have fin : EP X pins σ Q w s := ⟨z, H, I, rw', q⟩
  by_cases h0 : 0 ≤ i
  · have hj : i.toNat = j := by
      rw [seqIndex_of h0 h5] at h1
      exact Option.some.inj h1
    exact item_listR pl.isList h0 (by omega) (by rw [hj]; simpa using ew) fin hs
  · have hj : (i + (its.toArray.size : Int)).toNat = j := by
      rw [seqIndex_neg (by omega) h4] at h1
      rw [List.size_toArray, ← hl]
      exact Option.some.inj h1
    exact subscriptTail_builtinR (x := w) pl.isList.typeIs slot_list_getitem.lookup
      (wpAny_getItem_list_neg (Q := fun r s' => r = w ∧ EP X pins σ Q r s') pl.isList (by omega) (by rw [List.size_toArray] <;> omega) (by omega) (by rw [hj]; simpa using ew) ⟨rfl, fin⟩) hs
theorem ix_tup : IxR X (rIxT X.K) := by
  intro value slice pins s σ H x y v u Q I rx ry h hs
  obtain ⟨p, xs, i, z, rfl, rfl, hq, he, q⟩ := h
  cases rx
  obtain ⟨t, rfl⟩ := ry
  obtain ⟨its, r, pl, hz⟩ := I.tuple hq
  obtain ⟨j, h1, h2, h3, h4, h5⟩ := atI_get he
  obtain ⟨w, ew, rw'⟩ := r.get h2
  have hl := r.length
  have hn := line63
  have fin : EP X pins σ Q w s := ⟨z, H, I, rw', q⟩
  exact subscriptTail_builtinR (x := w) pl.typeIs slot_tuple_getitem.lookup
    (getItem_tuple (j := j) (Q := fun r s' => r = w ∧ EP X pins σ Q r s') pl (by omega) (by omega) (by rw [List.size_toArray, ← hl]; exact h1) (by simpa using ew) ⟨rfl, fin⟩) hs
theorem ix_str : IxR X rIxS := by
  intro value slice pins s σ H x y v u Q I rx ry h hs
  obtain ⟨z, i, c, rfl, rfl, hz, he, q⟩ := h
  obtain ⟨t, rfl⟩ := rx
  obtain ⟨t', rfl⟩ := ry
  obtain ⟨j, h1, h2, h3, h4, h5⟩ := atI_get he
  have hl : z.cps.toList.length = z.length := by simp [Str.length]
  rw [hl] at h1 h4 h5
  have hn := line63
  exact tail_any (typeIs_str s z t) slot_str_getitem.lookup (getItem_str (c := c) (by
    have e1 : decide (i < -(2 ^ 63 : Int)) = false := decide_eq_false (by omega)
    have e2 : decide (i ≥ 2 ^ 63) = false := decide_eq_false (by omega)
    rw [e1, e2, Bool.or_false]) (by rw [h1]; simpa using h2) ⟨.str ⟨#[c]⟩, H, I.tok _, ⟨_, rfl⟩, q⟩) hs
def rIx (K : PySem.W.Frag) : R2 := fun x y H Q => rIxL K x y H Q ∨ rIxT K x y H Q ∨ rIxS x y H Q
theorem ix_seq : IxR X (rIx X.K) := ix_list.or (ix_tup.or ix_str)
theorem mapSeq_set (its : List Value) (n j : Nat) (u : Value) : Obj.mapSeq (·.setIfInBounds j u) { cls := .type "list", data := .seq its.toArray n } = { cls := .type "list", data := .seq (its.set j u).toArray n } := by
  simp [Obj.mapSeq]
theorem Inv.lst {pins : List (Addr × Obj)} {σ : St} {H : Hp} {s : Shared} {p : Addr} {xs : List V} (I : Inv X pins σ H s) (h : H p = some (.lst xs)) :
    ∃ (its : List Value) (n : Nat), Vals xs its ∧ s.heap.get? p = some { cls := .type "list", data := .seq its.toArray n } ∧ xs.length ≤ sizeLine := by
  obtain ⟨z, its, n, r, e⟩ := I.hok p _ h
  exact ⟨its, n, r, e, z⟩
theorem Inv.lstUpd {pins : List (Addr × Obj)} {σ : St} {H : Hp} {s : Shared} {p : Addr} {xs ys : List V} {its its' : List Value} {n n' : Nat} {f : Obj → Obj} (I : Inv X pins σ H s) (h : H p = some (.lst xs))
    (ho : s.heap.get? p = some { cls := .type "list", data := .seq its.toArray n }) (hf : f { cls := .type "list", data := .seq its.toArray n } = { cls := .type "list", data := .seq its'.toArray n' }) (r : Vals ys its') (hz : ys.length ≤ sizeLine) (t : Nat) :
    Inv X pins σ (upd H p (.lst ys)) { s with heap := s.heap.update p f, toks := t } := by
  have e : (s.heap.update p f).get? p = some { cls := .type "list", data := .seq its'.toArray n' } := by
    rw [Heap.get?_update_self f ho (by rw [hf] <;> rfl), hf]
  refine I.write (x := p) (e := p) (by rw [h]; trivial) (.inl rfl) (fun b u hb q => (Heap.get?_update_other _ _ (Ne.symm hb)).trans q) ⟨_, e⟩ ?_
  exact ⟨hz, its', n', r, e⟩
def rSetL : V → V → V → Hp → (Hp → Prop) → Prop := fun o i v H Q => ∃ p xs k j, o = .ref p ∧ i = .int k ∧ H p = some (.lst xs) ∧ ixN xs.length k = some j ∧ Q (upd H p (.lst (xs.set j v)))
theorem set_list : PSet X rSetL := by
  intro pins s σ H o i v ov iv u Q I ro ri rv h
  obtain ⟨p, xs, k, j, rfl, rfl, hp, hj, q⟩ := h
  cases ro
  obtain ⟨t, rfl⟩ := ri
  obtain ⟨its, n, r, ho, hz⟩ := I.lst hp
  obtain ⟨h1, h2, h3, h4⟩ := ixN_seq hj
  have hl := r.length
  have hn := line63
  have I' : Inv X pins σ (upd H p (.lst (xs.set j v))) { s with heap := s.heap.update p (Obj.mapSeq (·.setIfInBounds j u)) } :=
    I.lstUpd hp ho (mapSeq_set its n j u) (r.set rv j) (by rw [List.length_set]; exact hz) s.toks
  by_cases h0 : 0 ≤ k
  · have hk : k.toNat = j := by
      rw [seqIndex_of h0 h4] at h1
      exact Option.some.inj h1
    exact PySem.W.ki_setAt ho h0 (by omega) (by rw [List.size_toArray, ← hl]; exact h4) (by rw [hk]; exact ⟨_, I', q⟩)
  · have hk : (k + (its.toArray.size : Int)).toNat = j := by
      rw [seqIndex_neg (by omega) h3] at h1
      rw [List.size_toArray, ← hl]
      exact Option.some.inj h1
    exact PySem.W.ki_setBack ho (by omega) (by rw [List.size_toArray, ← hl]; exact h3) (by omega) (by rw [hk]; exact ⟨_, I', q⟩)
theorem slice_bounds (lo hi : Option Int) (n : Nat) : (sliceBounds lo hi none n).1 = ((HT.sIx n 0 lo : Nat) : Int) ∧ (sliceBounds lo hi none n).2.1 = ((HT.sIx n n hi : Nat) : Int) ∧ (sliceBounds lo hi none n).2.2 = 1 := by
  refine ⟨?_, ?_, rfl⟩
  · cases lo with
    | none => simp [sliceBounds, HT.sIx]
    | some i =>
      simp only [sliceBounds, HT.sIx, Option.getD_none, show (1 : Int) > 0 by decide, if_true]
      by_cases h : i < 0
      · simp only [h, if_true] <;> omega
      · simp only [h, if_false] <;> omega
  · cases hi with
    | none => simp [sliceBounds, HT.sIx]
    | some i =>
      simp only [sliceBounds, HT.sIx, Option.getD_none, show (1 : Int) > 0 by decide, if_true]
      by_cases h : i < 0
      · simp only [h, if_true] <;> omega
      · simp only [h, if_false] <;> omega
theorem slicePick_cut (its : List Value) (lo hi : Option Int) : slicePick its.toArray lo hi none = ((its.drop (HT.sIx its.length 0 lo)).take (HT.sIx its.length its.length hi - HT.sIx its.length 0 lo)).toArray := by
  obtain ⟨h1, h2, h3⟩ := slice_bounds lo hi its.toArray.size
  unfold slicePick
  rw [h1, h2, h3]
  simp only [sliceRange_one, pick_run, List.size_toArray] <;> rfl
def rSlL (K : PySem.W.Frag) : V → Option Int → Option Int → Hp → VK → Prop := fun x lo hi H Q => ∃ a xs, x = .ref a ∧ SqL K H a xs ∧ ∀ p, H p = none → Q (.ref p) (upd H p (.lst (cutV xs lo hi)))
theorem sl_list : SlR X (rSlL X.K) := by
  intro pins s σ H x v vl vu lo hi sl Q I rx hs pl pu h
  obtain ⟨a, xs, rfl, hx, q⟩ := h
  cases rx
  obtain ⟨its, r, ht, hz⟩ := I.list hx
  have hlen := r.length
  refine ⟨"list", _, slot_list_getitem.lookup, ht.isList.typeIs, ?_⟩
  refine wpAny_getItem_list_slice ht.isList hs pl pu .none (by simp) ?_ (by rw [List.size_toArray] <;> omega)
  rw [slicePick_cut, ← hlen]
  refine ⟨.ref s.heap.objs.size, _, I.laid (t' := s.toks) (o := .lst (cutV xs lo hi)) (fun b ob q => Heap.get?_push_of_some _ q) (Nat.le_refl _) ?_, rfl, q _ (I.hok.fresh (Nat.le_refl _))⟩
  exact ⟨Nat.le_trans (cutV_length xs lo hi) hz, _, 0, (r.drop (HT.sIx xs.length 0 lo)).take (HT.sIx xs.length xs.length hi - HT.sIx xs.length 0 lo), Heap.get?_push_size _ rfl⟩
def flatV : V → Bool
  | .non => true
  | .bl _ => true
  | .int _ => true
  | .str _ => true
  | _ => false
def eqV : V → V → Bool
  | .non, .non => true
  | .bl a, .bl b => a == b
  | .bl a, .int b => (if a then 1 else 0) == b
  | .int a, .bl b => a == (if b then 1 else 0)
  | .int a, .int b => a == b
  | .str a, .str b => a == b
  | _, _ => false
def inV (x : V) (xs : List V) : Bool := xs.any fun y => eqV y x
def rIn (K : PySem.W.Frag) (neg : Bool) : R2 := fun x y H Q => ∃ p xs, y = .ref p ∧ (SqL K H p xs ∨ SqT K H p xs) ∧ flatV x = true ∧ xs.all flatV = true ∧ Q (.bl (if neg then !inV x xs else inV x xs)) H
theorem call_len_seq : CallR X (.builtin "len") (fun xs H Q => ∃ p ys, xs = [.ref p] ∧ (SqL X.K H p ys ∨ SqT X.K H p ys) ∧ Q (.int ys.length) H) := by
  intro pins s σ H xs us Q I r h
  obtain ⟨p, ys, rfl, hq, q⟩ := h
  obtain ⟨u, rfl, rx⟩ := vals1 r
  cases rx
  have hn := line63
  rcases hq with hq | hq
  · obtain ⟨its, r', pl, hz⟩ := I.list hq
    have hlen := r'.length
    exact Calls.call_len_list pl.isList (by simp only [List.size_toArray] <;> omega) ⟨.int ys.length, H, I.tok _, ⟨s.toks + 1, by rw [List.size_toArray, hlen]⟩, q⟩
  · obtain ⟨its, r', pl, hz⟩ := I.tuple hq
    have hlen := r'.length
    exact len_tuple pl (by simp only [List.size_toArray] <;> omega) ⟨.int ys.length, H, I.tok _, ⟨s.toks + 1, by rw [List.size_toArray, hlen]⟩, q⟩
theorem CallR.or {f : Value} {r r' : List V → Hp → VK → Prop} (h : CallR X f r) (h' : CallR X f r') : CallR X f (fun xs H Q => r xs H Q ∨ r' xs H Q) := by
  intro pins s σ H xs us Q I rs q
  rcases q with q | q
  · exact h pins s σ H xs us Q I rs q
  · exact h' pins s σ H xs us Q I rs q
theorem call_list_of : CallR X (.type "list") (fun xs H Q => ∃ p ys, xs = [.ref p] ∧ (SqL X.K H p ys ∨ SqT X.K H p ys) ∧ ∀ l, H l = none → Q (.ref l) (upd H l (.lst ys))) := by
  intro pins s σ H xs us Q I r h
  obtain ⟨p, ys, rfl, hq, q⟩ := h
  obtain ⟨u, rfl, rx⟩ := vals1 r
  cases rx
  have fin : ∀ (its : List Value), Vals ys its → ys.length ≤ sizeLine → ∀ (h' : Heap) (c' : Nat), (∀ b o', s.heap.get? b = some o' → h'.get? b = some o') →
      h'.get? s.heap.objs.size = some { cls := .type "list", dict := none, data := .seq its.toArray c', slots := #[] } → EP X pins σ Q (.ref s.heap.objs.size) { s with heap := h' } := fun its r' hz h' c' kp e =>
    ⟨.ref s.heap.objs.size, _, I.laid (t' := s.toks) kp (Nat.le_refl _) (show ObjOk X.prog X.w _ h' _ (.lst ys) from ⟨hz, its, c', r', e⟩), rfl, q _ (I.hok.fresh (Nat.le_refl _))⟩
  rcases hq with hq | hq
  · obtain ⟨its, r', pl, hz⟩ := I.list hq
    have hlen := r'.length
    obtain ⟨o, ho, hc, n, hd⟩ := pl.isList
    exact call_list_seq p (.inl rfl) ho hc hd (fun h' c' kp e => fin its r' hz h' c' kp e) (by simp only [List.size_toArray] <;> omega)
  · obtain ⟨its, r', pl, hz⟩ := I.tuple hq
    have hlen := r'.length
    obtain ⟨o, ho, hc, n, hd⟩ := pl
    exact call_list_seq p (.inr rfl) ho hc hd (fun h' c' kp e => fin its r' hz h' c' kp e) (by simp only [List.size_toArray] <;> omega)
theorem call_tuple_of : CallR X (.type "tuple") (fun xs H Q => ∃ p ys, xs = [.ref p] ∧ ((SqL X.K H p ys ∧ ∀ l, H l = none → Q (.ref l) (upd H l (.tup ys))) ∨ (SqT X.K H p ys ∧ Q (.ref p) H))) := by
  intro pins s σ H xs us Q I r h
  obtain ⟨p, ys, rfl, h⟩ := h
  obtain ⟨u, rfl, rx⟩ := vals1 r
  cases rx
  rcases h with ⟨hq, q⟩ | ⟨hq, q⟩
  · obtain ⟨its, r', pl, hz⟩ := I.list hq
    have hlen := r'.length
    refine call_tuple_list pl.isList (fun h' kp => ?_) (by simp only [List.size_toArray] <;> omega)
    have I1 : Inv X pins σ H { s with heap := h' } := I.kept (t' := s.toks) kp
    have I2 : Inv X pins σ (upd H h'.objs.size (.tup ys)) { s with heap := h'.push { cls := .type "tuple", data := .seq its.toArray } } :=
      I1.laid (t' := s.toks) (fun b o e => Heap.get?_push_of_some _ e) (Nat.le_refl _) (show ObjOk X.prog X.w _ _ _ (.tup ys) from ⟨hz, its, r', IsTup.new _ _⟩)
    exact ⟨.ref h'.objs.size, _, I2, rfl, q _ (I1.hok.fresh (Nat.le_refl _))⟩
  · obtain ⟨its, r', pl, hz⟩ := I.tuple hq
    exact call_tuple_same pl ⟨.ref p, H, I, rfl, q⟩
def tyV (K : PySem.W.Frag) (T : String) (x : V) (H : Hp) : Prop := match x with
  | .str _ => T = "str"
  | .int _ => T = "int"
  | .ref p => (T = "list" ∧ ∃ xs, SqL K H p xs) ∨ (T = "tuple" ∧ ∃ o, K.lookup p = some o ∧ o.cls = .type "tuple" ∧ o.dict = none) ∨
      (T = "dict" ∧ ((∃ kvs, H p = some (.dK kvs)) ∨ ∃ kvs, H p = some (.dT kvs))) ∨ (T = "set" ∧ ∃ S n, H p = some (.set S n))
  | _ => False
theorem tyV_is {pins : List (Addr × Obj)} {σ : St} {H : Hp} {s : Shared} {T : String} {x : V} {v : Value} (I : Inv X pins σ H s) (r : RelV x v) (ty : tyV X.K T x H) :
    s.TypeIs v T ∧ ∀ a, v = .ref a → ∃ ob, s.heap.get? a = some ob ∧ ob.dict = none := by
  cases x with
  | str z =>
    obtain ⟨t, rfl⟩ := r
    cases (show T = "str" from ty)
    exact ⟨typeIs_str s z t, fun _ e => nomatch e⟩
  | int i =>
    obtain ⟨t, rfl⟩ := r
    cases (show T = "int" from ty)
    exact ⟨typeIs_int s i t, fun _ e => nomatch e⟩
  | ref p =>
    cases r
    rcases ty with ⟨rfl, xs, hq⟩ | ⟨rfl, o, hk, hc, hd⟩ | ⟨rfl, hk⟩ | ⟨rfl, S, n, hk⟩
    · obtain ⟨its, _, pl, _⟩ := I.list hq
      refine ⟨pl.isList.typeIs, fun a e => ?_⟩
      cases e
      obtain ⟨o, n, e, c, hd, _⟩ := pl
      exact ⟨o, e, hd⟩
    · refine ⟨⟨o, I.kIn p o hk, hc⟩, fun a e => ?_⟩
      cases e
      exact ⟨o, I.kIn _ o hk, hd⟩
    · have z : ∃ o, s.heap.get? p = some o ∧ o.ExactDict := by
        rcases hk with ⟨kvs, hk⟩ | ⟨kvs, hk⟩
        · obtain ⟨_, _, _, _, o, _, _, e, ex, _⟩ := I.hok p _ hk
          exact ⟨o, e, ex⟩
        · obtain ⟨_, _, _, _, o, _, _, e, ex, _⟩ := I.hok p _ hk
          exact ⟨o, e, ex⟩
      obtain ⟨o, e, ex⟩ := z
      refine ⟨⟨o, e, ex.1⟩, fun a e2 => ?_⟩
      cases e2
      exact ⟨o, e, ex.2.1⟩
    · obtain ⟨o, _, _, _, e, ex, _⟩ := I.hok p _ hk
      refine ⟨⟨o, e, ex.1⟩, fun a e2 => ?_⟩
      cases e2
      exact ⟨o, e, ex.2.1⟩
  | _ => exact False.elim ty
def tBM0 (K : PySem.W.Frag) (T : String) (r : V → List V → Hp → VK → Prop) (to : TE) : TE := fun σ H Q => to σ H fun x H1 => tyV K T x H1 ∧ r x [] H1 Q
def tBM (K : PySem.W.Frag) (T : String) (r : V → List V → Hp → VK → Prop) (to : TE) (t : TA) : TE := fun σ H Q => to σ H fun x H1 => tyV K T x H1 ∧ t σ H1 fun xs H2 => r x xs H2 Q
variable {o e : Expr} {es : List Expr} {to : TE} {t : TA} {name : Str} {apos cpos : Pos} {T id : String} {r : V → List V → Hp → VK → Prop}
theorem pe_bm (pa : PlainAttrs T) (slot : Slot T name id) (hty : typeOf (.builtin id) = pure (.type "method_descriptor")) (hm : MtR X id r) (ho : PE X o to) (ha : PA X (e :: es) t)
    (hbase : attributeBase o name X.env (eval o X.env) = eval o X.env := by rfl)
    (hfew : ((backTo cpos (starEach (e :: es) X.env)).all (fun x => !x.1) && (backToKw cpos (keywordEach [] X.env)).all (fun x => x.1.isSome)
      && decide ((e :: es).length + ([] : List Keyword).length + (if ([] : List Keyword).isEmpty then 0 else 1) < 30)) = true := by rfl)
    (hline : (apos.endLine == cpos.line) = true := by rfl) (hs : starEach (e :: es) X.env = (false, eval e X.env) :: starEach es X.env := by rfl) (hplain : (backTo cpos (starEach es X.env)).any (·.1) = false := by rfl) :
    PE X (.Call (.Attribute o name apos) (e :: es) [] cpos) (tBM X.K T r to t) := by
  intro pins s σ H Q I h
  refine wpAny_Call_method_late hbase hfew hline rfl (thn (ho pins s σ H _ I h) fun v s1 ⟨x, H1, I1, r1, ty, q1⟩ => ?_)
  obtain ⟨h1, h2⟩ := tyV_is I1 r1 ty
  refine ⟨T, id, pa, slot, hty, h1, h2, ?_⟩
  have hA := ha cpos pins s1 σ H1 _ I1 q1
  rw [hs] at hA ⊢
  refine Calls.callWith_builtin (by show (false || (backTo cpos (starEach es X.env)).any (·.1)) = false; rw [hplain] <;> rfl) (Calls.evalArgs_plain ?_)
  exact thn hA fun us s2 ⟨vs, H2, I2, r2, q2⟩ => hm pins s2 σ H2 x vs v us Q I2 r1 r2 q2
/- xs.append(e), list.index on a module's tuple .. are MtR facts of 06m -/
end
end L2
namespace L2
open PySem PySem.Spec PyProof.Rows
def MtM (X : Cx) (id : String) (r : V → List V → Hp → VK → Prop) : Prop :=
  ∀ (pins : List (Addr × Obj)) (s : Shared) (σ : St) (H : Hp) (x : V) (xs : List V) (v : Value) (us : List Value) (Q : VK), Inv X pins σ H s → RelV x v → Vals xs us → r x xs H Q →
    wpAny (model X.prog X.w) X.A (call (.builtin id) (v :: us)) (EP X pins σ Q) X.xe s
theorem Vals.one : ∀ {x : V} {us : List Value}, Vals [x] us → ∃ u, us = [u] ∧ RelV x u
  | _, _, .cons r .nil => ⟨_, rfl, r⟩
theorem Vals.zero : ∀ {us : List Value}, Vals [] us → us = []
  | _, .nil => rfl
theorem Vals.reverse {xs : List V} {us : List Value} (h : Vals xs us) : Vals xs.reverse us.reverse := by
  induction h with
  | nil => exact .nil
  | cons r t ih => rw [List.reverse_cons, List.reverse_cons]; exact Vals.append ih (.cons r .nil)
theorem Vals.rep {xs : List V} {us : List Value} (h : Vals xs us) : ∀ k : Nat, Vals (List.replicate k xs).flatten (List.replicate k us).flatten
  | 0 => .nil
  | k + 1 => by
    rw [List.replicate_succ, List.replicate_succ, List.flatten_cons, List.flatten_cons]
    exact Vals.append h (Vals.rep h k)
section
variable {X : Cx} {pins : List (Addr × Obj)} {σ : St} {H : Hp} {s : Shared} {l b : Addr} {xs ys zs : List V}
theorem Inv.lset {its its' : List Value} {n : Nat} {f : Array Value → Array Value} {t' : Nat} (I : Inv X pins σ H s) (hH : H l = some (.lst xs))
    (e : s.heap.get? l = some { cls := .type "list", data := .seq its.toArray n }) (hf : f its.toArray = its'.toArray) (hv : Vals ys its') (hz : ys.length ≤ sizeLine) :
    Inv X pins σ (upd H l (.lst ys)) { s with heap := s.heap.update l (Obj.mapSeq f), toks := t' } := by
  have q := PySem.IsL.update e f
  rw [hf] at q
  refine I.write (x := l) (e := l) (by rw [hH]; exact trivial) (.inl rfl) (fun b' u hb hu => (Heap.get?_update_other s.heap (Obj.mapSeq f) (Ne.symm hb)).trans hu) ⟨_, q⟩ ?_
  exact ⟨hz, its', _, hv, q⟩
theorem Inv.lnew {its : List Value} {t' : Nat} (I : Inv X pins σ H s) (hv : Vals ys its) (hz : ys.length ≤ sizeLine) :
    Inv X pins σ (upd H s.heap.objs.size (.lst ys)) { s with heap := s.heap.push { cls := .type "list", data := .seq its.toArray }, toks := t' } :=
  I.laid (fun _ _ q => Heap.get?_push_of_some _ q) (Nat.le_refl _) ⟨hz, its, 0, hv, Heap.get?_push_size _ rfl⟩
theorem Inv.fresh (I : Inv X pins σ H s) : H s.heap.objs.size = none := I.hok.fresh (Nat.le_refl _)
theorem Inv.lstM (I : Inv X pins σ H s) (hH : H l = some (.lst xs)) : xs.length ≤ sizeLine ∧ ∃ (its : List Value) (n : Nat), Vals xs its ∧ xs.length = its.length ∧ s.heap.get? l = some { cls := .type "list", data := .seq its.toArray n } := by
  obtain ⟨z, its, n, r, e⟩ := I.hok l _ hH
  exact ⟨z, its, n, r, r.length, e⟩
end
section
variable {X : Cx}
def rAppend : V → List V → Hp → VK → Prop := fun x vs H Q => ∃ l xs y, x = .ref l ∧ vs = [y] ∧ H l = some (.lst xs) ∧ xs.length < sizeLine ∧ Q .non (upd H l (.lst (xs ++ [y])))
theorem mt_append : MtM X "list.append" rAppend := by
  intro pins s σ H x vs v us Q I rx rv h
  obtain ⟨l, xs, y, rfl, rfl, hH, hz, q⟩ := h
  cases rx
  obtain ⟨u, rfl, ru⟩ := rv.one
  obtain ⟨z, its, n, r, hl, e⟩ := I.lstM hH
  refine call_meets F.slot_list_append ⟨_, e, rfl⟩ F.entry_list_append (F.args_list_append_2 _ _) (PySem.list_append l its.toArray n u (by rw [List.size_toArray]; omega)) ⟨e, ?_⟩
  refine ⟨.non, _, I.lset (its' := its ++ [u]) hH e (by simp) (r.append (.cons ru .nil)) ?_, rfl, q⟩
  rw [List.length_append, List.length_singleton]
  omega
def rReverse : V → List V → Hp → VK → Prop := fun x vs H Q => ∃ l xs, x = .ref l ∧ vs = [] ∧ H l = some (.lst xs) ∧ Q .non (upd H l (.lst xs.reverse))
def rClear : V → List V → Hp → VK → Prop := fun x vs H Q => ∃ l xs, x = .ref l ∧ vs = [] ∧ H l = some (.lst xs) ∧ Q .non (upd H l (.lst []))
def rCat : R2 := fun x y H Q => ∃ l b xs zs, x = .ref l ∧ y = .ref b ∧ H l = some (.lst xs) ∧ H b = some (.lst zs) ∧ xs.length + zs.length ≤ sizeLine ∧ ∀ p, H p = none → Q (.ref p) (upd H p (.lst (xs ++ zs)))
theorem op_cat : OpR X (binaryOp .Add) rCat := by
  intro pins s σ H x y v u Q I rx ry h
  obtain ⟨l, b, xs, zs, rfl, rfl, hH, hB, hz, q⟩ := h
  cases rx
  cases ry
  obtain ⟨z, its, n, r, hl, e⟩ := I.lstM hH
  obtain ⟨z2, its2, n2, r2, hl2, e2⟩ := I.lstM hB
  refine PySem.P.add_list e e2 ?_ (by rw [List.size_toArray, List.size_toArray]; omega)
  have ea : its.toArray ++ its2.toArray = (its ++ its2).toArray := by simp
  rw [ea]
  exact ⟨.ref _, _, I.lnew (t' := s.toks) (r.append r2) (by rw [List.length_append]; omega), rfl, q _ I.fresh⟩
end
section
variable {prog : Program} {w : World} {A : Around} {E : Value → Shared → Prop} {s : Shared}
end
section
variable {X : Cx}
end
end L2
namespace Att
open PySem PySem.W PySem.Calls PyProof.Rows
theorem ints_of_wellAll {P : Params} {h : Heap} : ∀ (ns : List Int) (vs : List Value), WellAll P h vs (ns.map WData.int) → IntsAre vs ns := by
  intro ns
  induction ns with
  | nil =>
    intro vs w
    rw [List.map_nil] at w
    cases w
    exact .nil
  | cons n ns ih =>
    intro vs w
    rw [List.map_cons] at w
    cases w with
    | cons a b =>
      cases a
      exact .cons _ _ (ih _ b)
theorem script_of {l : OpenLaw} {n : Nat} (hn : l.most = some n) {P : Params} {h : Heap} {args : List WData} {vals : List Value}
    (hpre : l.row.toRowW.claim.pre args = true) (hwl : WellAll P h vals args) :
    ∃ a vs ns, vals = [Value.ref a] ∧ args = [WData.list (ns.map WData.int)] ∧ h.get? a = some { cls := .type "list", data := .seq vs.toArray } ∧ IntsAre vs ns ∧ ns.length ≤ n := by
  have hsh : WShape.hasAll [] args [.list .int] = true := (pre_splitW hpre).1
  have hc : l.pre.holds [] { args := args } = true := (pre_splitW hpre).2
  obtain ⟨d, r, rfl, h1, h2⟩ := hasAllW_cons hsh
  obtain rfl := hasAllW_nil h2
  obtain ⟨xs, rfl, h3⟩ := hasW_list h1
  obtain ⟨ns, rfl⟩ := items_int h3
  have hlen : ns.length ≤ n := by
    unfold OpenLaw.pre at hc
    have h4 : (WTm.not (.lt (.lit (.int (n : Int))) (.len (.arg 0)))).holds [] { args := [.list (ns.map .int)] } = true := by
      have h4 := (holds_andW hc).1
      rw [hn] at h4
      exact h4
    have h5 := condW_of h4 (w_not (w_lt w_lit (w_len_list (w_arg rfl))))
    rw [List.length_map] at h5
    refine Nat.le_of_not_lt fun q => ?_
    have q' : (n : Int) < ((ns.length : Nat) : Int) := by omega
    first
      | (rw [decide_eq_true q'] at h5; exact absurd h5 (by decide))
      | (simp at h5; omega)
  cases hwl with
  | cons w1 w2 =>
    cases w2
    cases w1 with
    | list ho hall => exact ⟨_, _, ns, rfl, rfl, ho, ints_of_wellAll ns _ hall, hlen⟩
theorem post_true (l : OpenLaw) (args : List WData) : l.row.toRowW.claim.post args (.bool true) args = true :=
  postW_of (r := l.row.toRowW) (X := (true == true))
    (show WShape.has [] (.bool true) .bool = true by first | rfl | decide | simp [WShape.has, WShape.arms, WShape.armsAll])
    (show (WTm.eq .res (.lit (.bool true))).value [] { args := args, res := some (.bool true), after := args } = some (.bool (true == true)) from w_eq_bool (w_res rfl) w_lit) rfl
theorem attach_call {l : OpenLaw} {n : Nat} {q : Program} {loose : List Str} {XP : (Str → Option Value) → Heap → Prop} {YP : World → Heap → Prop} {d : DefRec}
    (hn : l.most = some n) (hdf : d.params.defaults = [])
    (call : ∀ (w : World) (s₀ s₁ : Shared) (mg mb : Str → Option Value) (fa : Addr) (o : Obj) (pm cd doc : Value) (a : Addr) (vs : List Value) (ns : List Int),
      Ground q loose [] XP w s₀ mg mb s₁.heap → YP w s₁.heap →
      s₁.heap.get? fa = some o → o.data = .func (docDef d.name d.params d.body d.scope pm cd doc) → s₁.heap.CodeRec cd d.name → mg d.name = some (.ref fa) →
      s₁.heap.get? a = some { cls := .type "list", data := .seq vs.toArray } → IntsAre vs ns → ns.length ≤ n → s₁.gens = #[] →
      codeAny (model l.prog w) callerA (.call (.ref fa) ⟨[.ref a], []⟩) (fun r s' => r = .ok (.ret (.bool true)) ∧ OldK s₁.heap s'.heap ∧ s'.os = s₁.os ∧ AllBare s'.gens) s₁) :
    WalkO q loose XP YP l.row.toRowW d [] (fun f vs => PySem.call f vs) := by
  intro w s₀ s₁ mg mb G Y fa o pm cd doc dV kV ho hd hcd hD hmg hg args vals as hpre hlay hrd hwl hlo
  obtain rfl : dV = .none := Dflts.none hD hdf
  obtain rfl : kV = .none := Dflts.noKw hD
  obtain ⟨a, vs, ns, rfl, rfl, hobj, hints, hlen⟩ := script_of hn hpre hwl
  refine enter_call (codeAny_mono (call w s₀ s₁ mg mb fa o pm cd doc a vs ns G Y ho (fd_plain hd) hcd hmg hobj hints hlen hg) fun r s' hq => ?_)
  obtain ⟨rfl, h2, h3, h4⟩ := hq
  exact ⟨.inl ⟨.bool true, .bool true, [], rfl, fun _ => rfl, .bool true, post_true l _, fun _ => ⟨List.Pairwise.nil, fun _ hm => (nomatch hm)⟩⟩, h2, h3, h4⟩
section
variable {prog : Program} {w : World} {A : Around} {E : Value → Shared → Prop} {s : Shared} {K : Frag}
end
end Att
namespace L2
open PySem PySem.Spec PyProof.Rows
theorem vals_ints : ∀ {vs : List Value} {ns : List Int}, IntsAre vs ns → Vals (ns.map V.int) vs
  | _, _, .nil => .nil
  | _, _, .cons n t h => .cons ⟨t, rfl⟩ (vals_ints h)
def Only (H : Hp) : Prop := ∀ b, H b = none ∨ ∃ o xs, H b = some (.frz o (.lst xs))
theorem law_call {P : Program} {w : World} {K : PySem.W.Frag} {mg mb : Str → Option Value} {CX : CXT} {k : Nat} {fa a : Addr} {fd : FuncData} {x : Str} {sp : Sp} {s₁ : Shared} {vs : List Value} {ns : List Int}
    (KX : K.In s₁.heap) (hns : s₁.heap.Ns mainGlobals mg) (hb : s₁.heap.Ns builtinsNs mb) (hbb : ∀ x : Str, x ≠ "__name__" → mb x = bootBuiltins x) (hlim : s₁.heap.NoLimit) (hg : s₁.gens = #[])
    (ha : s₁.heap.get? a = some { cls := .type "list", data := .seq vs.toArray }) (hi : IntsAre vs ns) (hl : ns.length ≤ sizeLine) (hr : Room k callerA)
    (F : ∀ base : Heap, K.In base → base.Ns mainGlobals mg → FnOk P w K mg base CX k fa fd [x] sp) (hbind : ∀ (s : Shared) (u : Value), BindsTo s fd ⟨[u], []⟩ [(x, u)])
    (hsp : ∀ H : Hp, Only H → SqL K H a (ns.map V.int) → sp [.ref a] H (fun v _ => v = .bl true) fun _ _ _ => False)
    (hCX : ∀ H e s', CX [] H s₁ (fun _ _ _ => False) e s' → False) :
    codeAny (model P w) callerA (.call (.ref fa) ⟨[.ref a], []⟩) (fun r s' => r = .ok (.ret (.bool true)) ∧ OldK s₁.heap s'.heap ∧ s'.os = s₁.os ∧ AllBare s'.gens) s₁ := by
  have rv := vals_ints hi
  have lenV := hi.length
  -- from an abstract heap in which nothing but the script may be tracked
  have core : ∀ H : Hp, Only H → SqL K H a (ns.map V.int) → HOk P w H s₁.heap → (∀ b, H b ≠ none → b = a) → (H a ≠ none → K.lookup a = none) →
      codeAny (model P w) callerA (.call (.ref fa) ⟨[.ref a], []⟩) (fun r s' => r = .ok (.ret (.bool true)) ∧ OldK s₁.heap s'.heap ∧ s'.os = s₁.os ∧ AllBare s'.gens) s₁ := by
    intro H hO hS hok hA hK
    have base_of : ∀ {b : Addr} {o : Obj}, s₁.heap.get? b = some o → H b = none → (hidT s₁.heap H).get? b = some o := fun e n => hidT_get e n
    have noA : ∀ {b : Addr} {o : Obj} {es : Array DictEntry} {ep : Nat}, s₁.heap.get? b = some o → o.data = .dict es ep → H b = none := fun {b o es ep} e d => by
      cases q : H b with
      | none => rfl
      | some u =>
        have e' : b = a := hA b (by rw [q]; simp)
        subst e'
        rw [ha] at e; cases e
        have d' : Data.seq vs.toArray _ = Data.dict es ep := d
        cases d'
    have nsK : ∀ {b : Addr} {m : Str → Option Value}, s₁.heap.Ns b m → (hidT s₁.heap H).Ns b m := fun {b m} ⟨o, es, ep, e, d, r⟩ => ⟨o, es, ep, base_of e (noA e d), d, r⟩
    have hKb : K.In (hidT s₁.heap H) := fun b o e => base_of (KX b o e) (by
      cases q : H b with
      | none => rfl
      | some u =>
        have e' : b = a := hA b (by rw [q]; simp)
        subst e'
        rw [hK (by rw [q]; simp)] at e; cases e)
    have hM : Mod K mg (hidT s₁.heap H) := ⟨hKb, nsK hns, ⟨mb, nsK hb, hbb⟩, let ⟨mc, h1, h2⟩ := hlim; ⟨mc, nsK h1, h2⟩⟩
    have e0 : Env0 P w K mg (hidT s₁.heap H) callerA [] s₁ H := ⟨rfl, hM, fun b o e => of_hidT e, Nat.le_of_eq (hidT_size _ _), trivial, fun b hb => absurd (show b ∈ ([] : List Addr) from hb) (by simp), hok, .of_eq hg⟩
    refine codeAny_mono ((F _ hKb (nsK hns)).run callerA [] s₁ H ⟨[.ref a], []⟩ [.ref a] [.ref a] _ _ hr e0 (hbind s₁ (.ref a)) (.cons rfl .nil) (hsp H hO hS)) fun r s' h => ?_
    cases r with
    | error e => exact (hCX H e s' h).elim
    | ok fl =>
      cases fl with
      | next => exact False.elim h
      | brk => exact False.elim h
      | cont => exact False.elim h
      | ret u =>
        obtain ⟨v, H', os, bare, un, hok', r', q⟩ := h
        have q' : v = .bl true := q
        subst q'
        obtain rfl : u = Value.bool true := r'
        refine ⟨rfl, OldK.of_keep fun b o e => ?_, os, bare⟩
        cases q : H b with
        | none => exact un.keep b o e q (by intro z; exact absurd (show b ∈ ([] : List Addr) from z) (by simp)) (by simp)
        | some u =>
          rcases hO b with z | ⟨ob, xs, z⟩
          · rw [q] at z; cases z
          · have z2 := un.frzs b ob _ z
            obtain ⟨e1, _⟩ := hok b _ z
            obtain ⟨e2, _⟩ := hok' b _ z2
            rw [e] at e1; cases e1
            exact e2
  cases hk : K.lookup a with
  | some o =>
    -- the script is one of the module's own objects
    have e := KX a o hk
    rw [ha] at e
    cases e
    refine core (fun _ => none) (fun _ => .inl rfl) (.inr ⟨_, vs.toArray, _, hk, rfl, rfl, rfl, by rw [List.size_toArray, lenV]; exact hl, by simpa using rv⟩) (fun b u z => by have z' : (none : Option HO) = some u := z; cases z') (fun b z => absurd rfl z) fun z => absurd rfl z
  | none =>
    refine core (fun b => if b = a then some (.frz { cls := .type "list", data := .seq vs.toArray } (.lst (ns.map V.int))) else none) (fun b => ?_) (.inl (.inr ⟨{ cls := .type "list", data := .seq vs.toArray }, if_pos rfl⟩)) (fun b u z => ?_) (fun b z => ?_) fun _ => hk
    · by_cases hb : b = a
      · exact .inr ⟨_, _, if_pos hb⟩
      · exact .inl (if_neg hb)
    · by_cases hb : b = a
      · have z' := (if_pos hb).symm.trans z
        cases z'
        subst hb
        exact ⟨ha, by rw [List.length_map]; exact hl, vs, _, rv, ha⟩
      · have z' := (if_neg hb).symm.trans z
        cases z'
    · by_cases hb : b = a
      · exact hb
      · exact absurd (if_neg hb) z
end L2
namespace L2
open PySem PySem.Spec PyProof.Rows
abbrev KOf {K : PySem.W.Frag} {h : Heap} (_ : K.In h) : PySem.W.Frag := K
theorem walk_of {l : PySem.W.OpenLaw} {n k : Nat} {q : Program} {loose : List Str} {XP : (Str → Option Value) → Heap → Prop} {YP : World → Heap → Prop} {d : DefRec} {K : Params → PySem.W.Frag} {CX : World → CXT} {sp : World → Sp} {x : Str}
    (hn : l.most = some n) (hn2 : n ≤ sizeLine) (hdf : d.params.defaults = []) (hr : Room k callerA)
    (hY : ∀ (w : World) (h : Heap), YP w h → (K w.params).In h)
    (F : ∀ (w : World) (mg : Str → Option Value) (fa : Addr) (h : Heap), (K w.params).In h → h.Ns mainGlobals mg → mg d.name = some (.ref fa) →
      ∃ fd : FuncData, (∀ (s : Shared) (u : Value), BindsTo s fd ⟨[u], []⟩ [(x, u)]) ∧
        ∀ base : Heap, (K w.params).In base → base.Ns mainGlobals mg → FnOk l.prog w (K w.params) mg base (CX w) k fa fd [x] (sp w))
    (hsp : ∀ (w : World) (H : Hp) (a : Addr) (ns : List Int), ns.length ≤ n → Only H → SqL (K w.params) H a (ns.map V.int) → sp w [.ref a] H (fun v _ => v = .bl true) fun _ _ _ => False)
    (hCX : ∀ (w : World) (H : Hp) (s : Shared) (e : Value) (s' : Shared), CX w [] H s (fun _ _ _ => False) e s' → False) :
    PySem.W.WalkO q loose XP YP l.row.toRowW d [] (fun f vs => PySem.call f vs) := by
  refine Att.attach_call hn hdf fun w s₀ s₁ mg mb fa o pm cd doc a vs ns G Y ho hd hcd hmg hobj hints hlen hg => ?_
  have KX := hY w _ Y
  obtain ⟨fd, hb, hF⟩ := F w mg fa _ KX G.T.g hmg
  exact law_call KX G.T.g G.T.b G.T.builtins G.T.nolimit hg hobj hints (Nat.le_trans hlen hn2) hr hF hb (fun H hO hS => hsp w H a ns hlen hO hS) fun H e s' => hCX w H s₁ e s'
end L2
/- THE LAST THEOREM (shape; LID, My.* are yours):
   My.Adr: a structure of the addresses that your layer names (classes, functions); My.Txt K t: a structure (Prop) of the equations over K;
   My.txt_mk : {K} {implicit addresses ..} (e1 : nsIn K mainGlobals "law" = some (some (.ref f))) (e2 : K.lookup f = some ⟨oc, od, .func (fnOf "law" "law" params body scope dV kV doc pm an cdv ct), sl⟩) (e3 : codeIn K cdv "law" = true) .. : ∃ t, My.Txt K t
set_option maxRecDepth 100000 in
set_option maxHeartbeats 0 in
theorem PySem.Challenge.cw_LID_holds : PySem.Challenge.rw_LID.Holds := by
  w_on; o_law; k_head; (case hw => w_witness2)
  k_fill
  refine L2.walk_of (l := PySem.Challenge.rw_LID) (n := 63) (k := 40) (x := "script") (CX := fun w => ..) (sp := fun _ => My.sp_law) rfl (by decide) rfl ⟨rfl, by decide, by decide⟩ (fun w h Y => PySem.W.kIn_of Y) ?F ?S ?C
  case F =>
    intro w mg fa h KX G hmg
    have T : ∃ t, My.Txt (L2.KOf KX) t := by
      dsimp only [L2.KOf]                          -- K must stand as «<heap const> w.params» for k_is
      refine' My.txt_mk ?e1 ?e2 ?e3 ..
      (case e1 => PySem.W.k_is)                    -- in the order: a name -> its address -> its object -> its parts
      (case e2 => PySem.W.k_is)
      ..
    obtain ⟨t, T⟩ := T
    have e0 := hmg.symm.trans (PySem.W.mg_of KX G T.law)
    cases e0                                       -- fa is the law's own address
    exact ⟨_, fun s u => .of_eq rfl, fun base kb nb => My.law_fn T kb nb⟩     -- if «.of_eq rfl» comes too early: refine' ⟨_, ?b, fun base kb nb => My.law_fn T kb nb⟩; exact fun s u => .of_eq rfl
  case S => exact fun w H a ns hl hO hS => ..
  case C => exact ..
(the tactic k_is has no namespace: write k_is) -/
namespace L2
open PySem PySem.Spec PyProof.Rows
def defArgs (s : Stmt) : Arguments := match s with
  | .FunctionDef _ a _ _ _ _ _ _ _ _ => a
  | _ => { posonlyargs := [], args := [], vararg := none, kwonlyargs := [], kw_defaults := [], kwarg := none, defaults := [] }
def defBody (s : Stmt) : List Stmt := match s with
  | .FunctionDef _ _ b _ _ _ _ _ _ _ => b
  | _ => []
def defScope (s : Stmt) : Scope := match s with
  | .FunctionDef _ _ _ _ _ _ sc _ _ _ => sc
  | _ => { kind := .function, names := [], isGenerator := false, isCoroutine := false }
abbrev CX0 : CXT := fun _ _ _ _ _ _ => False
abbrev E0 : XK := fun _ _ _ => False
structure Fun (K : PySem.W.Frag) (x qual : Str) (st : Stmt) (f : Addr) (fd : FuncData) : Prop where
  ex : ∃ (oc : Value) (od : Option Addr) (kV doc pm : Value) (an : Option Addr) (cdv ct : Value) (osl : Array (Option Value)),
    fd = PySem.W.fnOf x qual (defArgs st) (defBody st) (defScope st) .none kV doc pm an cdv ct ∧ K.lookup f = some ⟨oc, od, .func fd, osl⟩ ∧ PySem.W.codeIn K cdv qual = true
  kp : PySem.W.keepIn K (.ref f) = true
section
variable {P : Program} {w : World} {K : PySem.W.Frag} {mg : Str → Option Value} {base : Heap}
theorem Fun.ok {x qual : Str} {st : Stmt} {f : Addr} {fd : FuncData} {N ps : List Str} {k : Nat} {sp : Sp} (F : Fun K x qual st f fd) (S : FnScope N ps (defScope st)) (len : ∀ vs H Q E, sp vs H Q E → vs.length = ps.length)
    (hbody : ∀ (cdv : Value) (A : Around) (outer : List Env) (s : Shared) (H : Hp) (vs : List V) (Q : VK) (E : XK), Room k (A.deeper (envOfC qual (defScope st) s.heap.objs.size f cdv)) → sp vs H Q E →
      ∃ t, PSs (cxOf CX0 P w K mg base N qual (defScope st) f cdv A outer s H E).nox (defBody st) t ∧ t { nx := fun _ H' => Q .non H', rt := Q } (start N vs) H) : FnOk P w K mg base CX0 (k + 1) f fd ps sp := by
  obtain ⟨oc, od, kV, doc, pm, an, cdv, ct, osl, rfl, lk, hcd⟩ := F.ex
  refine fn_of lk hcd S len fun A outer s H vs Q E hr hsp => ?_
  obtain ⟨t, h, q⟩ := hbody cdv A outer s H vs Q E hr hsp
  exact ⟨t, h.nox, q⟩
theorem Fun.binds {x qual : Str} {st : Stmt} {f : Addr} {fd : FuncData} {ps : List Str} (F : Fun K x qual st f fd)
    (h : ∀ (kV doc pm : Value) (an : Option Addr) (cdv ct : Value) (us : List Value), us.length = ps.length → bindArgs (PySem.W.fnOf x qual (defArgs st) (defBody st) (defScope st) .none kV doc pm an cdv ct) ⟨us, []⟩ = pure (ps.zip us)) : Binds K fd ps [] := by
  obtain ⟨oc, od, kV, doc, pm, an, cdv, ct, osl, rfl, lk, hcd⟩ := F.ex
  exact .all (h kV doc pm an cdv ct)
theorem fun_mk {x qual : Str} {st : Stmt} {f : Addr} {oc : Value} {od an : Option Addr} {osl : Array (Option Value)} {kV doc pm cdv ct : Value} (l : K.lookup f = some ⟨oc, od, .func (PySem.W.fnOf x qual (defArgs st) (defBody st) (defScope st) .none kV doc pm an cdv ct), osl⟩)
    (c : PySem.W.codeIn K cdv qual = true) (k : PySem.W.keepIn K (.ref f) = true) : Fun K x qual st f (PySem.W.fnOf x qual (defArgs st) (defBody st) (defScope st) .none kV doc pm an cdv ct) := ⟨⟨oc, od, kV, doc, pm, an, cdv, ct, osl, rfl, l, c⟩, k⟩
end
theorem small1000 {n : Nat} (h : n ≤ 1000) : n < sizeLine := Nat.lt_of_le_of_lt h (by decide)
section
variable {X : Cx}
theorem pv (i : Nat) {x : Str} {pos : Pos} (hN : X.N[i]? = some x := by rfl) (hv : Vis X.env.scope x := by first | exact Or.inl rfl | exact Or.inr (Or.inl rfl) | exact Or.inr (Or.inr rfl)) (hd : (x == ("__debug__" : Str)) = false := by decide)
    (hcd : (x == ("__classdict__" : Str)) = false := by decide) : PE X (.Name x pos) (tVar i) := pe_var hN hv hd hcd
end
def Same (H H' : Hp) : Prop := ∀ b o, H b = some o → H' b = some o
theorem Same.refl (H : Hp) : Same H H := fun _ _ h => h
theorem Same.trans {H H1 H2 : Hp} (a : Same H H1) (b : Same H1 H2) : Same H H2 := fun c o h => b c o (a c o h)
theorem Same.free {H H' : Hp} (e : Same H H') {l : Addr} (h : H' l = Option.none) : H l = Option.none := by
  cases q : H l with
  | none => rfl
  | some o =>
    rw [e l o q] at h
    cases h
theorem Same.seq {K : PySem.W.Frag} {H H' : Hp} {a : Addr} {xs : List V} (e : Same H H') (h : SqL K H a xs) : SqL K H' a xs := by
  rcases h with (h | ⟨o, h⟩) | h
  · exact .inl (.inl (e _ _ h))
  · exact .inl (.inr ⟨o, e _ _ h⟩)
  · exact .inr h
end L2
namespace L2
open PySem PySem.Spec PyProof.Rows
def Dic (h : Heap) (e : Addr) (dv : Option Addr) : Prop := ∃ ob ws, h.get? e = some ob ∧ ob.dict = dv ∧ ob.data = .fields ws ∧ ws[2]? = some Value.none
structure Rest (fs : List Addr) (x : Addr) (ex : Option Addr) (h h' : Heap) : Prop where
  out : ∀ b o, h.get? b = some o → b ≠ x → some b ≠ ex → b ∉ fs → h'.get? b = some o
  sl : ∀ b o, h.get? b = some o → b ≠ x → some b ≠ ex → ∃ z, h'.get? b = some { o with slots := z }
section
variable {M : Model} {A : Around} {E : Value → Shared → Prop} {s : Shared} {B : Heap} {env : Env} {outer : List Env} {L e : Addr}
theorem dict_mapF (f : Array Value → Array Value) (o : Obj) : (Obj.mapFields f o).dict = o.dict := by
  obtain ⟨c, d, dt, sl⟩ := o
  cases dt <;> rfl
theorem entry_made {ob : Obj} {ws : Array Value} {hd : Value} {had : Bool} {Q : Unit → Shared → Prop} (gf : A.frames = some (env :: outer)) (ff : s.heap.FunFrames B (env :: outer)) (ge : env.frame = some L)
    (o1 : s.heap.get? e = some ob) (o2 : ob.data = .fields ws) (o3 : 1 < ws.size)
    (k : ∀ (h' : Heap) (T : Addr) (oT : Obj) (ts : Array Value), h'.get? e = some (Obj.mapFields (·.setIfInBounds 1 (.ref T)) ob) → T ≠ e → s.heap.get? T = none → h'.get? T = some oT → oT.data = .fields ts → ts[3]? = some (rawInt L) →
      Rest (frs (env :: outer)) e none s.heap h' → Q () { s with heap := h' }) :
    wpAny M A (do let a ← frameOf env; let pl ← entryPlaceOf L had; let b ← EntryCells.newEntry hd a .none (rawInt L) .none pl; setField (.ref e) 1 b) Q E s := by
  have en : e ∉ frs (env :: outer) := fun m => by
    obtain ⟨_, o, q, n⟩ := ff.mem m
    rw [o1] at q; cases q
    exact n ws o2
  refine wpAny_bind (wpAny_frameOf_fun gf ff ge fun h1 so => wpAny_bind (wpAny_entryPlaceOf fun pl place => ?_))
  unfold EntryCells.newEntry newFields
  refine wpAny_bind (wpAny_newObj_type ?_ (place.sizeOk5 _ _ _ _ _))
  have q1 : h1.get? e = some ob := (so.2.1 e en).trans o1
  have q2 := fun oT => Heap.get?_push_of_some (h := h1) oT q1
  refine wpAny_setField (q2 _) o2 o3 ?_
  refine k _ h1.objs.size _ _ ?_ (Nat.ne_of_gt (Heap.lt_size q1)) (Heap.get?_none_of_le (by rw [so.1]; exact Nat.le_refl _)) ((Heap.get?_update_other _ _ (Nat.ne_of_lt (Heap.lt_size q1))).trans (Heap.get?_push_size h1 rfl)) rfl ?_ ?_
  · exact Heap.get?_update_self _ (q2 _) (Obj.isFreed_of_fields (Obj.data_mapFields o2 _))
  · rcases place with rfl | ⟨_, _, _, _, _, _, _, rfl⟩ <;> simp
  · refine ⟨fun b o q n _ nf => ?_, fun b o q n _ => ?_⟩
    · exact (Heap.get?_update_other _ _ (Ne.symm n)).trans (Heap.get?_push_of_some _ ((so.2.1 b nf).trans q))
    · obtain ⟨z, y⟩ := so.2.2 b o q
      exact ⟨z, (Heap.get?_update_other _ _ (Ne.symm n)).trans (Heap.get?_push_of_some _ y)⟩
theorem rest_fly {h h' : Heap} {ex : Option Addr} {l : List Env} (st : B.StaysIn h) (be : B.get? e = none) (bx : ∀ t, ex = some t → B.get? t = none) (ff : h.FunFrames B l) (hx : ∀ t o, ex = some t → h.get? t = some o → ∃ ts, o.data = .fields ts)
    (he : ∀ o, h.get? e = some o → ∃ ts, o.data = .fields ts) (r : Rest (frs l) e ex h h') : B.StaysIn h' ∧ h'.FunFrames B l ∧ h.UpToSlots h' := by
  have up : h.UpToSlots h' := fun b o q nd => r.sl b o q (fun z => by subst z; obtain ⟨ts, y⟩ := he o q; exact nd ts y) fun z => by obtain ⟨ts, y⟩ := hx b o z.symm q; exact nd ts y
  refine ⟨fun b o q => r.out b o (st b o q) (fun z => by rw [z, be] at q; cases q) (fun z => by rw [bx b z.symm] at q; cases q) (fun m => by rw [(ff.mem m).1] at q; cases q), ff.of_keeps fun b o q nd => ?_, up⟩
  obtain ⟨z, y⟩ := up b o q nd
  exact ⟨_, y, rfl⟩
theorem note_first {ob : Obj} {ws : Array Value} {a0 : Value} {Q : Unit → Shared → Prop} (gf : A.frames = some (env :: outer)) (ge : env.frame = some L) (ff : s.heap.FunFrames B (env :: outer)) (st : B.StaysIn s.heap) (be : B.get? e = none)
    (o1 : s.heap.get? e = some ob) (o2 : ob.data = .fields ws) (o3 : ws[1]? = some .none) (o4 : ws[0]? = some a0) (o5 : ws[2]? = some Value.none)
    (k : ∀ h', Heap.HeldW B (env :: outer) e ob.cls a0 L h' → Dic h' e ob.dict → s.heap.UpToSlots h' → Q () { s with heap := h' }) : wpAny M A (noteFrame (.ref e) env) Q E s := by
  have z1 : 1 < ws.size := (Array.getElem?_eq_some_iff.mp o3).1
  unfold noteFrame
  simp only [ge]
  refine wpAny_bind (wpAny_field o1 o2 o3 ?_)
  rw [if_neg (by decide)]
  refine entry_made gf ff ge o1 o2 z1 fun h' T oT ts e1 e2 e3 e4 e5 e6 r => ?_
  obtain ⟨k1, k2, k3⟩ := rest_fly (ex := none) st be (by intro _ z; cases z) ff (by intro _ _ z; cases z) (fun o q => by rw [o1] at q; cases q; exact ⟨ws, o2⟩) r
  refine k h' ⟨k1, be, k2, _, _, T, oT, ts, e1, ⟨Obj.cls_mapFields _ _, ?_⟩, Obj.data_mapFields o2 _, by simp [z1], ?_, e2, e4, e5, e6⟩ ⟨_, _, e1, dict_mapF _ _, Obj.data_mapFields o2 _, by rw [Array.getElem?_setIfInBounds_ne (by decide)]; exact o5⟩ k3
  · rw [Array.getElem?_setIfInBounds_ne (by decide)]; exact o4
  · cases q : B.get? T with
    | none => rfl
    | some o => rw [st T o q] at e3; cases e3
theorem note_next {cls a0 : Value} {dv : Option Addr} {Q : Unit → Shared → Prop} (gf : A.frames = some (env :: outer)) (ge : env.frame = some L) (fl : Heap.FlyingW B (env :: outer) e cls a0 s.heap) (dc : Dic s.heap e dv)
    (k : ∀ h', Heap.HeldW B (env :: outer) e cls a0 L h' → Dic h' e dv → s.heap.UpToSlots h' → Q () { s with heap := h' }) : wpAny M A (noteFrame (.ref e) env) Q E s := by
  obtain ⟨st, be, ff, ob, ws, T, oT, ts, o1, ⟨rfl, o4⟩, o2, o3, bT, nT, t1, t2, t3⟩ := fl
  obtain ⟨ob', ws', q, rfl, d5, o5⟩ := dc
  rw [o1] at q; cases q
  rw [o2] at d5; cases d5
  have z1 : 1 < ws.size := (Array.getElem?_eq_some_iff.mp o3).1
  unfold noteFrame
  simp only [ge]
  refine wpAny_bind (wpAny_field o1 o2 o3 ?_)
  rw [if_pos (by simp)]
  refine wpAny_bind (wpAny_field t1 t2 t3 ?_)
  rw [if_neg (by simp [rawInt])]
  refine wpAny_bind (wpAny_setField t1 t2 (Array.getElem?_eq_some_iff.mp t3).1 ?_)
  have r0 : Rest (frs (env :: outer)) e (some T) s.heap (s.heap.update T (Obj.mapFields (·.setIfInBounds 3 Value.none))) :=
    ⟨fun b o q _ n _ => (Heap.get?_update_other _ _ fun z => n (by rw [z])).trans q, fun b o q _ n => ⟨o.slots, (Heap.get?_update_other _ _ fun z => n (by rw [z])).trans q⟩⟩
  obtain ⟨s1, s2, s3⟩ := rest_fly st be (fun t z => by cases z; exact bT) ff (fun t o z q => by cases z; rw [t1] at q; cases q; exact ⟨ts, t2⟩) (fun o q => by rw [o1] at q; cases q; exact ⟨ws, o2⟩) r0
  have o1' : (s.heap.update T (Obj.mapFields (·.setIfInBounds 3 Value.none))).get? e = some ob := (Heap.get?_update_other _ _ nT).trans o1
  refine entry_made (s := { s with heap := _ }) gf s2 ge o1' o2 z1 fun h' T' oT' ts' e1 e2 e3 e4 e5 e6 r => ?_
  obtain ⟨k1, k2, k3⟩ := rest_fly (ex := none) s1 be (by intro _ z; cases z) s2 (by intro _ _ z; cases z) (fun o q => by have := o1'.symm.trans q; cases this; exact ⟨ws, o2⟩) r
  refine k h' ⟨k1, be, k2, _, _, T', oT', ts', e1, ⟨Obj.cls_mapFields _ _, ?_⟩, Obj.data_mapFields o2 _, by simp [z1], ?_, e2, e4, e5, e6⟩ ⟨_, _, e1, dict_mapF _ _, Obj.data_mapFields o2 _, by rw [Array.getElem?_setIfInBounds_ne (by decide)]; exact o5⟩ (s3.trans k3)
  · rw [Array.getElem?_setIfInBounds_ne (by decide)]; exact o4
  · cases q : B.get? T' with
    | none => rfl
    | some o => have := (s1 T' o q).symm.trans e3; cases this
theorem lands_dic {l : List Env} {cls a0 v : Value} {dv : Option Addr} {Q : Unit → Shared → Prop} (fl : B.StaysIn s.heap ∧ B.get? e = none ∧ s.heap.FunFrames B l ∧ s.heap.TracedAtW B e cls a0 v) (dc : Dic s.heap e dv)
    (k : ∀ h', Heap.FlyingW B l e cls a0 h' → Dic h' e dv → s.heap.UpToSlots h' → Q () { s with heap := h' }) : wpAny M A (setFlight (.ref e) none) Q E s := by
  obtain ⟨st, be, ff, ob, ws, T, oT, ts, o1, oc, o2, o3, bT, nT, t1, t2, t3⟩ := fl
  have z3 : 3 < ts.size := (Array.getElem?_eq_some_iff.mp t3).1
  unfold setFlight
  refine wpAny_bind (wpAny_field o1 o2 o3 ?_)
  rw [if_pos (by simp)]
  refine wpAny_setField t1 t2 z3 ?_
  have r0 : Rest (frs l) e (some T) s.heap (s.heap.update T (Obj.mapFields (·.setIfInBounds 3 ((none : Option Addr).elim Value.none fun f => rawInt f)))) :=
    ⟨fun b o q _ n _ => (Heap.get?_update_other _ _ fun z => n (by rw [z])).trans q, fun b o q _ n => ⟨o.slots, (Heap.get?_update_other _ _ fun z => n (by rw [z])).trans q⟩⟩
  obtain ⟨s1, s2, s3⟩ := rest_fly st be (fun t z => by cases z; exact bT) ff (fun t o z q => by cases z; rw [t1] at q; cases q; exact ⟨ts, t2⟩) (fun o q => by rw [o1] at q; cases q; exact ⟨ws, o2⟩) r0
  have o1' := (Heap.get?_update_other s.heap (Obj.mapFields (·.setIfInBounds 3 ((none : Option Addr).elim Value.none fun f => rawInt f))) nT).trans o1
  refine k _ ⟨s1, be, s2, ob, ws, T, _, _, o1', oc, o2, o3, bT, nT, Heap.get?_update_self _ t1 (Obj.isFreed_of_fields (Obj.data_mapFields t2 _)), Obj.data_mapFields t2 _, by simp [z3]⟩ ?_ s3
  obtain ⟨ob', ws', q, d, d5, o5⟩ := dc
  rw [o1] at q; cases q
  exact ⟨ob, ws', o1', d, d5, o5⟩
theorem leaves_next {cls a0 : Value} {dv : Option Addr} {Q : Unit → Shared → Prop} (gf : A.frames = some (env :: outer)) (ge : env.frame = some L) (fl : Heap.FlyingW B (env :: outer) e cls a0 s.heap) (dc : Dic s.heap e dv)
    (k : ∀ h', Heap.FlyingW B outer e cls a0 h' → Dic h' e dv → s.heap.UpToSlots h' → Q () { s with heap := h' }) : wpAny M A (leaving env (.ref e)) Q E s := by
  unfold leaving
  refine wpAny_bind (note_next gf ge fl dc fun h1 x1 d1 u1 => lands_dic x1 d1 fun h2 x2 d2 u2 => ?_)
  obtain ⟨y1, y2, ⟨_, _, y3⟩, y4⟩ := x2
  exact k h2 ⟨y1, y2, y3, y4⟩ d2 (u1.trans u2)
theorem leaves_first {ob : Obj} {ws : Array Value} {a0 : Value} {Q : Unit → Shared → Prop} (gf : A.frames = some (env :: outer)) (ge : env.frame = some L) (ff : s.heap.FunFrames B (env :: outer)) (st : B.StaysIn s.heap) (be : B.get? e = none)
    (o1 : s.heap.get? e = some ob) (o2 : ob.data = .fields ws) (o3 : ws[1]? = some .none) (o4 : ws[0]? = some a0) (o5 : ws[2]? = some Value.none)
    (k : ∀ h', Heap.FlyingW B outer e ob.cls a0 h' → Dic h' e ob.dict → s.heap.UpToSlots h' → Q () { s with heap := h' }) : wpAny M A (leaving env (.ref e)) Q E s := by
  unfold leaving
  refine wpAny_bind (note_first gf ge ff st be o1 o2 o3 o4 o5 fun h1 x1 d1 u1 => lands_dic x1 d1 fun h2 x2 d2 u2 => ?_)
  obtain ⟨y1, y2, ⟨_, _, y3⟩, y4⟩ := x2
  exact k h2 ⟨y1, y2, y3, y4⟩ d2 (u1.trans u2)
end
end L2
namespace L2
open PySem PySem.Spec PyProof.Rows
theorem ObjOk.there {P : Program} {w : World} {H : Hp} {h : Heap} {a : Addr} {o : HO} (x : ObjOk P w H h a o) : ∃ ob, h.get? a = some ob := by
  cases o with
  | lst xs => obtain ⟨_, _, _, _, q⟩ := x; exact ⟨_, q⟩
  | tup xs => obtain ⟨_, _, _, ob, q, _⟩ := x; exact ⟨ob, q⟩
  | dK kvs => obtain ⟨_, _, _, _, ob, _, _, q, _⟩ := x; exact ⟨ob, q⟩
  | dT kvs => obtain ⟨_, _, _, _, ob, _, _, q, _⟩ := x; exact ⟨ob, q⟩
  | set S n => obtain ⟨ob, _, _, _, q, _⟩ := x; exact ⟨ob, q⟩
  | ins C dx fs => obtain ⟨_, _, _, q, _⟩ := x; exact ⟨_, q⟩
  | own y => exact x
  | xd fs => obtain ⟨_, ⟨ob, _, _, q, _⟩, _⟩ := x; exact ⟨ob, q⟩
  | rng lo hi => obtain ⟨_, _, _, q⟩ := x; exact ⟨_, q⟩
  | frz ob u => obtain ⟨q, _⟩ := x; exact ⟨_, q⟩
  | tbl ps => exact ⟨_, x⟩
  | met f y => exact ⟨_, x⟩
  | ext φ => obtain ⟨_, q, _⟩ := x; exact q
theorem HOk.there {P : Program} {w : World} {H : Hp} {h : Heap} {a : Addr} (k : HOk P w H h) (n : H a ≠ none) : ∃ ob, h.get? a = some ob := by
  cases e : H a with
  | none => exact absurd e n
  | some o => exact (k a o e).there
structure Flown (P : Program) (w : World) (outer : List Env) (H : Hp) (s : Shared) (H' : Hp) (s' : Shared) (B : Heap) (e : Addr) (cls a0 : Value) (dv : Option Addr) : Prop where
  os : s'.os = s.os
  bare : AllBare s'.gens
  un : Un (frs outer) [] H H' s.heap s'.heap
  hok : HOk P w H' s'.heap
  fly : Heap.FlyingW B outer e cls a0 s'.heap
  cond : ∀ b o, s'.heap.get? b = some o → b ∉ frs outer → ((∃ o', s.heap.get? b = some o') ∨ H' b ≠ none) → B.get? b = some o
  frf : ∀ b ∈ frs outer, H' b = none
  dic : Dic s'.heap e dv
def CXe (P : Program) (w : World) : CXT := fun outer H s E ev s' => ∃ (e : Addr) (cls a0 : Value) (dv : Option Addr) (H' : Hp) (B : Heap), ev = .ref e ∧ Flown P w outer H s H' s' B e cls a0 dv ∧ E cls dv H'
section
variable {P : Program} {w : World} {outer : List Env} {H H' : Hp} {s s' : Shared} {B : Heap} {e : Addr} {cls a0 : Value} {dv : Option Addr} {h' : Heap}
theorem Flown.unh (F : Flown P w outer H s H' s' B e cls a0 dv) (k : B.StaysIn h') (u : s'.heap.UpToSlots h') : Un (frs outer) [] H H' s.heap h' where
  keep := fun b o q n hb hx => k b o (F.cond b o (F.un.keep b o q n hb hx) hb (.inl ⟨o, q⟩))
  slot := fun b o q n hb hx => by
    obtain ⟨sl, q1⟩ := F.un.slot b o q n hb hx
    obtain ⟨_, o2, q2, nd⟩ := F.fly.2.2.1.mem hb
    rw [q1] at q2; cases q2
    obtain ⟨sl', q3⟩ := u b _ q1 nd
    exact ⟨sl', q3⟩
  free := F.un.free
  there := fun b o q hx => by
    obtain ⟨o1, q1⟩ := F.un.there b o q hx
    by_cases hb : b ∈ frs outer
    · obtain ⟨_, o2, q2, nd⟩ := F.fly.2.2.1.mem hb
      rw [q1] at q2; cases q2
      obtain ⟨sl', q3⟩ := u b _ q1 nd
      exact ⟨_, q3⟩
    · exact ⟨o1, k b o1 (F.cond b o1 q1 hb (.inl ⟨o, q⟩))⟩
  tups := F.un.tups
  frzs := F.un.frzs
  tbls := F.un.tbls
theorem Flown.trk (F : Flown P w outer H s H' s' B e cls a0 dv) (k : B.StaysIn h') : ∀ b o, H' b ≠ none → s'.heap.get? b = some o → h'.get? b = some o := fun b o n q =>
  k b o (F.cond b o q (fun hb => n (F.frf b hb)) (.inr n))
theorem Flown.hokh (F : Flown P w outer H s H' s' B e cls a0 dv) (k : B.StaysIn h') : HOk P w H' h' := fun a o q =>
  (F.hok a o q).stay (fun b u hb z => F.trk k b u (by
    rcases hb with rfl | hb
    · rw [q]; exact fun z => nomatch z
    · rw [hb]; exact fun z => nomatch z) z) (fun _ z => z) fun _ _ z => z
theorem Flown.go (F : Flown P w outer H s H' s' B e cls a0 dv) (x : Heap.FlyingW B outer e cls a0 h') (u : s'.heap.UpToSlots h') (dc : Dic h' e dv) : Flown P w outer H s H' { s' with heap := h' } B e cls a0 dv where
  os := F.os
  bare := F.bare
  un := F.unh x.1 u
  hok := F.hokh x.1
  fly := x
  cond := fun b o q hb hc => by
    have back : ∀ o', s'.heap.get? b = some o' → B.get? b = some o := fun o' q' => by
      have z := F.cond b o' q' hb hc
      have z' := x.1 b o' z
      have q2 : h'.get? b = some o := q
      rw [z'] at q2; cases q2
      exact z
    rcases id hc with ⟨o1, q1⟩ | n
    · obtain ⟨o2, q2⟩ := F.un.there b o1 q1 (by simp)
      exact back o2 q2
    · obtain ⟨o2, q2⟩ := F.hok.there n
      exact back o2 q2
  frf := F.frf
  dic := dc
end
def excD (e : Addr) (cls : Value) (dv : Option Addr) : HO := .ext fun h => ∃ oe ws, h.get? e = some oe ∧ oe.cls = cls ∧ oe.data = .fields ws ∧ oe.dict = dv ∧ ws[2]? = some Value.none
section
variable {X : Cx} {pins : List (Addr × Obj)} {σ : St} {H H' : Hp} {s s' : Shared} {B : Heap} {e : Addr} {cls a0 : Value} {dv : Option Addr}
end
section
variable {P : Program} {w : World} {K : PySem.W.Frag} {mg : Str → Option Value} {base : Heap} {N : List Str} {qual : Str} {scope : Scope} {f : Addr} {cd : Value} {A : Around} {outer : List Env} {s : Shared} {H : Hp} {E : XK}
  {pins : List (Addr × Obj)} {σ : St} {H1 : Hp} {s1 : Shared}
theorem cx_frames (I : Inv (cxOf (CXe P w) P w K mg base N qual scope f cd A outer s H E) pins σ H1 s1) : (A.deeper (envOfC qual scope s.heap.objs.size f cd)).frames = some (envOfC qual scope s.heap.objs.size f cd :: outer) := I.ok.frames
theorem xe_core {e : Addr} {ob : Obj} {ws : Array Value} {a0 : Value} (gf : (A.deeper (envOfC qual scope s.heap.objs.size f cd)).frames = some (envOfC qual scope s.heap.objs.size f cd :: outer)) (os : s1.os = s.os) (bare : AllBare s1.gens) (un1 : Un (frs outer) [] H H1 s.heap s1.heap) (hok : HOk P w H1 s1.heap)
    (fr0 : s1.heap.FunFrames base (envOfC qual scope s.heap.objs.size f cd :: outer)) (free1 : ∀ b ∈ frs (envOfC qual scope s.heap.objs.size f cd :: outer), H1 b = none) (ge : s1.heap.get? e = some ob) (od : ob.data = .fields ws) (w1 : ws[1]? = some .none) (w0 : ws[0]? = some a0) (w2 : ws[2]? = some Value.none)
    (en : s.heap.get? e = none) (eH : H1 e = none) (q : E ob.cls ob.dict H1) :
    wpAny (model P w) (A.deeper (envOfC qual scope s.heap.objs.size f cd)) (leaving (envOfC qual scope s.heap.objs.size f cd) (.ref e)) (fun _ s'' => CXe P w outer H s E (.ref e) s'') (fun e' s'' => CXe P w outer H s E e' s'') s1 := by
  have fsE : frs (envOfC qual scope s.heap.objs.size f cd :: outer) = s.heap.objs.size :: frs outer := rfl
  have hin : ∀ env ∈ (envOfC qual scope s.heap.objs.size f cd :: outer), ∀ b, env.frame = some b → b ∈ e :: frs (envOfC qual scope s.heap.objs.size f cd :: outer) := fun env he b hb => List.mem_cons_of_mem _ (List.mem_filterMap.mpr ⟨env, he, hb⟩)
  refine leaves_first (B := PySem.W.hideAll s1.heap (e :: frs (envOfC qual scope s.heap.objs.size f cd :: outer))) (L := s.heap.objs.size) gf rfl (PySem.W.funFrames_hide fr0 hin) (fun b o z => PySem.W.of_hideAll _ z) (PySem.W.hideAll_none _ List.mem_cons_self) ge od w1 w0 w2 fun h2 fl dc up => ?_
  have inB : ∀ b o, s1.heap.get? b = some o → b ≠ e → b ∉ frs (envOfC qual scope s.heap.objs.size f cd :: outer) → (PySem.W.hideAll s1.heap (e :: frs (envOfC qual scope s.heap.objs.size f cd :: outer))).get? b = some o := fun b o z n1 n => PySem.W.hideAll_get _ z fun m => by
    rcases List.mem_cons.mp m with y | y
    · exact n1 y
    · exact n y
  have olde : ∀ b o, s.heap.get? b = some o → b ≠ e := fun b o z y => by rw [y, en] at z; cases z
  have old : ∀ b o, s.heap.get? b = some o → b ∉ frs outer → b ∉ frs (envOfC qual scope s.heap.objs.size f cd :: outer) := fun b o z n hm => by
    rw [fsE] at hm
    rcases List.mem_cons.mp hm with rfl | hm
    · exact absurd (Heap.lt_size z) (Nat.lt_irrefl _)
    · exact n hm
  have slots : ∀ b o, s1.heap.get? b = some o → b ∈ frs outer → ∃ sl, h2.get? b = some { o with slots := sl } := fun b o z hb => by
    obtain ⟨_, o2, q2, nd⟩ := fr0.mem (b := b) (by show b ∈ frs _; rw [fsE]; exact List.mem_cons_of_mem _ hb)
    rw [z] at q2; cases q2
    exact up b o z nd
  have keepT : ∀ b o, H1 b ≠ none → s1.heap.get? b = some o → h2.get? b = some o := fun b o n z => fl.1 b o (inB b o z (fun y => n (y ▸ eH)) fun hm => n (free1 b hm))
  refine ⟨e, ob.cls, a0, ob.dict, H1, _, rfl, ⟨os, bare, ⟨fun b o z n hb hx' => ?_, fun b o z n hb hx' => ?_, un1.free, fun b o z hx' => ?_, un1.tups, un1.frzs, un1.tbls⟩, fun a o z => ?_, fl, fun b o z hb hc => ?_, fun b hb => ?_, dc⟩, q⟩
  · exact fl.1 b o (inB b o (un1.keep b o z n hb hx') (olde b o z) (old b o z hb))
  · obtain ⟨sl, z1⟩ := un1.slot b o z n hb hx'
    obtain ⟨sl', z2⟩ := slots b _ z1 hb
    exact ⟨sl', z2⟩
  · obtain ⟨o1, z1⟩ := un1.there b o z hx'
    by_cases hb : b ∈ frs outer
    · obtain ⟨sl', z2⟩ := slots b _ z1 hb
      exact ⟨_, z2⟩
    · exact ⟨o1, fl.1 b o1 (inB b o1 z1 (olde b o z) (old b o z hb))⟩
  · refine (hok a o z).stay (fun b u hb y => keepT b u ?_ y) (fun _ y => y) fun _ _ y => y
    rcases hb with rfl | hb
    · rw [z]; exact fun y => nomatch y
    · rw [hb]; exact fun y => nomatch y
  · have back : ∀ o', s1.heap.get? b = some o' → b ≠ e → b ∉ frs (envOfC qual scope s.heap.objs.size f cd :: outer) → (PySem.W.hideAll s1.heap (e :: frs (envOfC qual scope s.heap.objs.size f cd :: outer))).get? b = some o := fun o' y ne nb => by
      have y1 := inB b o' y ne nb
      have y2 := fl.1 b o' y1
      have z2 : h2.get? b = some o := z
      rw [y2] at z2; cases z2
      exact y1
    rcases hc with ⟨o1, z1⟩ | n
    · obtain ⟨o2, z2⟩ := un1.there b o1 z1 (by simp)
      exact back o2 z2 (olde b o1 z1) (old b o1 z1 hb)
    · obtain ⟨o2, z2⟩ := hok.there n
      exact back o2 z2 (fun y => n (y ▸ eH)) fun hm => n (free1 b hm)
  · exact free1 b (by rw [fsE]; exact List.mem_cons_of_mem _ hb)
theorem xe_raise {h' : Heap} {e : Addr} {cls : Value} {vs : List Value} (I : Inv (cxOf (CXe P w) P w K mg base N qual scope f cd A outer s H E) pins σ H1 s1) (hx : Heap.MadeExcOf s1.heap h' e cls vs) (q : E cls none H1) :
    (cxOf (CXe P w) P w K mg base N qual scope f cd A outer s H E).xe (.ref e) { s1 with heap := h' } := by
  have un1 : Un (frs outer) [] H H1 s.heap s1.heap := I.base
  obtain ⟨t, ge, _, _⟩ := hx.there
  have new : ∀ b o, s1.heap.get? b = some o → b ≠ e := fun b o z y => by rw [y, hx.new] at z; cases z
  have eH : H1 e = none := by
    cases z : H1 e with
    | none => rfl
    | some o => obtain ⟨u, y⟩ := I.hok.there (a := e) (by rw [z]; exact fun y => nomatch y); rw [hx.new] at y; cases y
  refine xe_core (s1 := { s1 with heap := h' }) (w0 := rfl) (cx_frames I) I.os I.bare ⟨fun b o z n hb hx' => hx.keeps _ _ (un1.keep b o z n hb hx'), fun b o z n hb hx' => ?_, un1.free, fun b o z hx' => ?_, un1.tups, un1.frzs, un1.tbls⟩ (I.hok.kept hx.keeps)
    ((show s1.heap.FunFrames base (envOfC qual scope s.heap.objs.size f cd :: outer) from I.stack).of_keeps fun b o z _ => ⟨o, hx.keeps b o z, rfl⟩) I.stkFree ge rfl rfl (w2 := rfl) ?_ eH q
  · obtain ⟨sl, y⟩ := un1.slot b o z n hb hx'
    exact ⟨sl, hx.keeps _ _ y⟩
  · obtain ⟨o1, y⟩ := un1.there b o z hx'
    exact ⟨o1, hx.keeps _ _ y⟩
  · cases z : s.heap.get? e with
    | none => rfl
    | some o => obtain ⟨o1, y⟩ := un1.there e o z (by simp); rw [hx.new] at y; cases y
theorem xe_pass {ev : Value} {s' : Shared} (I : Inv (cxOf (CXe P w) P w K mg base N qual scope f cd A outer s H E) pins σ H1 s1) (h : CXe P w (envOfC qual scope s.heap.objs.size f cd :: outer) H1 s1 E ev s') :
    (cxOf (CXe P w) P w K mg base N qual scope f cd A outer s H E).xe ev s' := by
  obtain ⟨e, cls, a0, dv, H', B, rfl, F, q⟩ := h
  show wpAny (model P w) (A.deeper (envOfC qual scope s.heap.objs.size f cd)) (leaving (envOfC qual scope s.heap.objs.size f cd) (.ref e)) (fun _ s'' => CXe P w outer H s E (.ref e) s'') (fun e' s'' => CXe P w outer H s E e' s'') s'
  have fsE : frs (envOfC qual scope s.heap.objs.size f cd :: outer) = s.heap.objs.size :: frs outer := rfl
  have un1 : Un (frs outer) [] H H1 s.heap s1.heap := I.base
  have old : ∀ b o, s.heap.get? b = some o → b ∉ frs outer → b ∉ frs (envOfC qual scope s.heap.objs.size f cd :: outer) := fun b o z n hm => by
    rw [fsE] at hm
    rcases List.mem_cons.mp hm with rfl | hm
    · exact absurd (Heap.lt_size z) (Nat.lt_irrefl _)
    · exact n hm
  refine leaves_next (L := s.heap.objs.size) (cx_frames I) rfl F.fly F.dic fun h2 fl dc up => ?_
  have un2 := F.unh fl.1 up
  have sub : ∀ b, b ∈ frs outer → b ∈ frs (envOfC qual scope s.heap.objs.size f cd :: outer) := fun b hb => by rw [fsE]; exact List.mem_cons_of_mem _ hb
  refine ⟨e, cls, a0, dv, H', B, rfl, ⟨F.os.trans I.os, F.bare, ⟨fun b o z n hb hx' => ?_, fun b o z n hb hx' => ?_, fun b o z n hx' => ?_, fun b o z hx' => ?_, fun b xs z => F.un.tups b xs (un1.tups b xs z), fun b o u z => F.un.frzs b o u (un1.frzs b o u z), fun b ps z => ?_⟩, F.hokh fl.1, fl, fun b o z hb hc => ?_, fun b hb => F.frf b (sub b hb), dc⟩, q⟩
  · exact un2.keep b o (un1.keep b o z n hb hx') (un1.free b o z n hx') (old b o z hb) hx'
  · obtain ⟨sl, z1⟩ := un1.slot b o z n hb hx'
    obtain ⟨sl', z2⟩ := un2.slot b _ z1 (un1.free b o z n hx') (sub b hb) hx'
    exact ⟨sl', z2⟩
  · obtain ⟨o1, z1⟩ := un1.there b o z hx'
    exact F.un.free b o1 z1 (un1.free b o z n hx') hx'
  · obtain ⟨o1, z1⟩ := un1.there b o z hx'
    exact un2.there b o1 z1 hx'
  · obtain ⟨m1, z1⟩ := un1.tbls b ps z
    obtain ⟨m2, z2⟩ := F.un.tbls b _ z1
    exact ⟨m1 ++ m2, by rw [z2, Array.append_assoc]⟩
  · rcases hc with ⟨o1, z1⟩ | n
    · obtain ⟨o2, z2⟩ := un1.there b o1 z1 (by simp)
      exact (F.go (h' := h2) ⟨fl.1, fl.2.1, (F.fly.2.2.1.of_keeps fun c oc yc nd => by obtain ⟨sl, y⟩ := up c oc yc nd; exact ⟨_, y, rfl⟩), fl.2.2.2⟩ up dc).cond b o z (old b o1 z1 hb) (.inl ⟨o2, z2⟩)
    · refine (F.go (h' := h2) ⟨fl.1, fl.2.1, (F.fly.2.2.1.of_keeps fun c oc yc nd => by obtain ⟨sl, y⟩ := up c oc yc nd; exact ⟨_, y, rfl⟩), fl.2.2.2⟩ up dc).cond b o z (fun hm => n (F.frf b hm)) (.inr n)
end
theorem passE0 {P : Program} {w : World} {X : Cx} : Passes (CXe P w) X E0 := fun _ _ _ _ _ _ _ ⟨_, _, _, _, _, _, _, _, h⟩ => h.elim
theorem pass_cx {P : Program} {w : World} {K : PySem.W.Frag} {mg : Str → Option Value} {base : Heap} {N : List Str} {qual : Str} {scope : Scope} {f : Addr} {cd : Value} {A : Around} {outer : List Env} {s : Shared} {H : Hp} {E : XK} :
    Passes (CXe P w) (cxOf (CXe P w) P w K mg base N qual scope f cd A outer s H E) E := fun _ _ _ _ _ _ I h => xe_pass I h
end L2
namespace L2
open PySem PySem.Spec PyProof.Rows
theorem exc_obj {K : PySem.W.Frag} {h : Heap} {C : Addr} {bmB : List Value} {newId : String} (kin : K.In h) (yes : PySem.W.excIn K C bmB newId = true) :
    ∃ bm N nm q bs hdct sn sub ab col dd k0 k1 k2 k3 k5 mN, h.get? C = some (excClassObj nm q C N bs bm hdct sn sub ab col dd k0 k1 k2 k3 k5 newId) ∧ h.Ns N mN ∧ mN "__init__" = none ∧ OwnTail h bmB bm := by
  unfold PySem.W.excIn at yes
  split at yes
  case h_2 => cases yes
  case h_1 dict cdat slots found =>
    split at yes
    case h_2 => cases yes
    case h_1 C0 bm0 a0 a1 a2 a3 nid a5 em eslots =>
      simp only [Bool.and_eq_true, beq_iff_eq, Bool.not_eq_true'] at yes
      obtain ⟨⟨⟨⟨⟨y1, y2⟩, y3⟩, y4⟩, y5⟩, y6⟩ := yes
      subst y1 y2
      obtain ⟨f1, f2, f3, f4, f5, f6, f7, f8, f9, f10, f11⟩ := cdat
      dsimp only at em y3 y5 y6
      subst em y3
      obtain ⟨sl⟩ := slots
      dsimp only at eslots
      subst eslots
      have Nn := Heap.Ns.of_isNs (PySem.W.isNs_of_in kin y5)
      exact ⟨bm0, f4, f1, f5, f2, f6, f7, f8, f9, f10, dict, a0, a1, a2, a3, a5, _, kin _ _ found, Nn, PySem.W.ns_none_of kin Nn y6, PySem.W.tail_of_in kin y4⟩
def Raises (X : Cx) (E : XK) : Prop := ∀ (pins : List (Addr × Obj)) (σ : St) (H1 : Hp) (s1 : Shared) (h' : Heap) (e : Addr) (cls : Value) (vs : List Value), Inv X pins σ H1 s1 → Heap.MadeExcOf s1.heap h' e cls vs → E cls none H1 → X.xe (.ref e) { s1 with heap := h' }
theorem raises_cx {P : Program} {w : World} {K : PySem.W.Frag} {mg : Str → Option Value} {base : Heap} {N : List Str} {qual : Str} {scope : Scope} {f : Addr} {cd : Value} {A : Around} {outer : List Env} {s : Shared} {H : Hp} {E : XK} :
    Raises (cxOf (CXe P w) P w K mg base N qual scope f cd A outer s H E) E := fun _ _ _ _ _ _ _ _ I hx q => xe_raise I hx q
def vmro : List Value := [.type "ValueError", .type "Exception", .type "BaseException", .type "object"]
def ExcC (K : PySem.W.Frag) (C : Addr) : Prop := PySem.W.excIn K C vmro "ValueError.__new__" = true
def tRaise (C : Addr) (E : XK) (t : TA) : TS := fun _ σ H => t σ H fun vs H1 => vs.length ≤ sizeLine ∧ E (.ref C) none H1
theorem ps_raise {X : Cx} {E : XK} {x : Str} {C : Addr} {e : Expr} {es : List Expr} {t : TA} {np cpos pos : Pos} (hr : Raises X E) (hc : X.calm = true) (hg : Gl X x) (hm : X.mg x = some (.ref C)) (hC : ExcC X.K C) (ha : PA X (e :: es) t)
    (hdb : (x == ("__debug__" : Str)) = false := by decide) (he : starEach (e :: es) X.env = (false, eval e X.env) :: starEach es X.env := by rfl) (hpl : (backTo cpos (starEach es X.env)).any (·.1) = false := by rfl) :
    PS X (.Raise (some (.Call (.Name x np) (e :: es) [] cpos)) none pos) (tRaise C E t) := by
  intro pins s σ H D I h
  obtain ⟨bm, N, nm, q, bs, hdct, sn, sub, ab, col, dd, k0, k1, k2, k3, k5, mN, gC, gN, gi, gT⟩ := exc_obj I.mod.kin hC
  refine wpAny_Raise_call_subU (C := C) (nm := nm) (q := q) (N := N) (bs := bs) (bm := bm) (hdct := hdct) (sn := sn) (sub := sub) (ab := ab) (col := col) (dd := dd) (k0 := k0) (k1 := k1) (k2 := k2) (k3 := k3) (k5 := k5)
    PySem.F.excBase_ValueError (by decide +kernel) PySem.F.excBase_ValueError (mN := mN) (gT.hasType PySem.F.excBase_ValueError.hasBase) (I.ok.hd hc)
    (by rw [he]; show (false || (backTo cpos (starEach es X.env)).any (·.1)) = false; rw [hpl]; rfl) gi (ld_glob I hg hm ⟨rfl, ?_⟩ hdb)
  have hq := ha cpos pins s σ H _ I h
  rw [he] at hq ⊢
  refine Calls.evalArgs_plain (thn hq fun us s1 ⟨vs, H1, I1, r, z, y⟩ => ⟨rfl, by rw [← r.length]; exact z, I1.bk _ _ gC, gN.keeps I1.bk, gT.keeps I1.bk, fun h' e' hx => ?_⟩)
  exact hr pins σ H1 s1 h' e' _ us I1 hx y
def tCallS (sp : Sp) (dvs : List V) (E : St → XK) (t : TA) : TE := fun σ H Q => t σ H fun vs H1 => sp (vs ++ dvs) H1 Q (E σ)
section
variable {X : Cx} {CX : CXT} {k : Nat} {f : Addr} {fd : FuncData} {ps : List Str} {sp : Sp} {dvs : List V} {ds : List Value} {E : St → XK} {x : Str} {p pos : Pos} {e : Expr} {es : List Expr} {t : TA}
end
abbrev Cx.tr (X : Cx) (pins : List (Addr × Obj)) (xe : Value → Shared → Prop) : Cx := { X with pn := X.pn ++ pins, xe := xe }
abbrev Cx.su (X : Cx) (e : Addr) : Cx := { X with A := X.A.mark (some (.ref e)), calm := false, xe := fun _ _ => False }
section
variable {X : Cx} {pins pins' : List (Addr × Obj)} {σ : St} {H : Hp} {s : Shared} {xe : Value → Shared → Prop} {e : Addr}
theorem Cx.Ok.tr (ok : X.Ok) : (X.tr pins xe).Ok :=
  ⟨ok.mod, ok.kind, ok.glob, ok.blt, ok.above, ok.inj, ok.has, ok.cab, ok.hd, ok.frames, ok.stk, ok.exf, ok.bs, ok.bsz, ok.noex, ok.exfs, ok.funs, ok.frf⟩
theorem Inv.tr (I : Inv X pins σ H s) : Inv (X.tr pins xe) [] σ H s := ⟨I.ok.tr, I.os, I.bare, I.base, I.loc, I.cell, I.free, I.freeC, fun p hp => I.pin p (by
    have z : p ∈ (X.pn ++ pins) ++ [] := hp
    rw [List.append_nil] at z
    exact z), I.hok, I.len⟩
theorem Cx.Ok.su (ok : X.Ok) : (X.su e).Ok :=
  ⟨ok.mod, ok.kind, ok.glob, ok.blt, ok.above, ok.inj, ok.has, ok.cab, fun z => absurd z Bool.false_ne_true, ok.frames, ok.stk, ok.exf, ok.bs, ok.bsz, ok.noex, ok.exfs, ok.funs, ok.frf⟩
theorem Inv.su (I : Inv X pins σ H s) : Inv (X.su e) pins σ H s := ⟨I.ok.su, I.os, I.bare, I.base, I.loc, I.cell, I.free, I.freeC, I.pin, I.hok, I.len⟩
end
abbrev TH := Value → Option Addr → Ends → St → Hp → Prop
def Ends.gone (D : Ends) (i : Nat) : Ends := ⟨fun σ H => D.nx (σ.set i none) H, D.rt, fun σ H => D.bk (σ.set i none) H, fun σ H => D.ct (σ.set i none) H⟩
def tH (K : PySem.W.Frag) (c : Value) (i : Nat) (ts : TS) (th : TH) : TH := fun cls dv D σ H =>
  (PySem.W.exmOne K cls c = some true ∧ ∀ e, H e = none → ts (D.gone i) (σ.set i (some (.ref e))) (upd H e (excD e cls dv))) ∨ (PySem.W.exmOne K cls c = some false ∧ th cls dv D σ H)
def tHno : TH := fun _ _ _ _ _ => False
def tTry (tb : (St → XK) → TS) (th : TH) : TS := fun D σ H => tb (fun σ' cls dv H' => th cls dv D σ' H') D σ H
end L2
namespace L2
open PySem PySem.Spec PyProof.Rows PySem.Builtin PySem.Builtin.ObjectAttr PySem.Builtin.Getset_descriptor PySem.W
structure XCls (K : Frag) (C : Addr) : Prop where
  ga : findIn K (.ref C) "__getattribute__" = some (some (.builtin "BaseException.__getattribute__"))
  gt : findIn K (.ref C) "__getattr__" = some none
  be : mroIn K C (.type "BaseException") = some true
  ob : mroIn K C (.type "object") = some true
  cl : findIn K (.ref C) "__class__" = some (some (.builtin "object.__class__"))
  gs : specialIn K (.builtin "object.__class__") "__get__" = some (some (.builtin "getset_descriptor.__get__"))
  tk : takesIn K (.builtin "object.__class__") = some true
  is : (clsIn K C).isSome = true
section
variable {prog : Program} {w : World} {A : Around} {E : Value → Shared → Prop} {s : Shared} {K : Frag} {x C : Addr} {ox : Obj} {od : Option Obj} {name : Str}
theorem exc_check {nameV : Value} {Q : Unit → Shared → Prop} (kin : K.In s.heap) (L : ∀ M : Model, Looks M s.heap (typeOf (.ref x)) (.ref C)) (c : XCls K C) (h : Q () s) : wpAny (model prog w) A (checkBuiltinCall "BaseException.__getattribute__" ⟨[.ref x, nameV], []⟩) Q E s := by
  obtain ⟨hh, g, d, t, os⟩ := s
  have hk : builtinKind "BaseException.__getattribute__" = some .slot := by decide +kernel
  have hsplit : splitId "BaseException.__getattribute__" = some ("BaseException", "__getattribute__") := by decide +kernel
  have ha := F.args_bexc_ga (.ref x) nameV
  have L0 := L (model prog w)
  have L1 : Looks (model prog w) hh (isInstance (.ref x) (.type "BaseException")) true := L0.andThen (looks_mroIn kin c.be)
  simp only [checkBuiltinCall, hk, hsplit]
  refine wpAny_bind (L1.at ?_)
  rw [if_neg (by decide)]
  exact wpAny_of_eq ha h
theorem exc_by {tk : Tok} {fill expr : Bool} {Q : Value → Shared → Prop} (kin : K.In s.heap) (L : ∀ M : Model, Looks M s.heap (typeOf (.ref x)) (.ref C)) (c : XCls K C)
    (h : wpAny (model prog w) A.in1 (Builtin.«object.__getattribute__» ⟨[.ref x, .str name tk], []⟩) (fun fin s' => match fin with | .done (.ret v) => handedIn v = true ∧ Q v s' | _ => False) (fun _ _ => False) s) :
    wpAny (model prog w) A (getAttrBy (.ref x) (.str name tk) fill expr) Q E s := by
  obtain ⟨hh, g, d, t, os⟩ := s
  have L0 := L (model prog w)
  have L1 := looks_findIn (M := model prog w) kin c.ga
  have L2 := looks_findIn (M := model prog w) kin c.gt
  unfold getAttrBy
  refine wpAny_holding (wpAny_bind (L0.at (wpAny_bind (L1.at ?_))))
  show wpAny _ _ (getAttrByItsOwn _ _ _ _ _ _) _ _ _
  unfold getAttrByItsOwn
  refine wpAny_bind ?_
  show wpAny _ _ (typeLookup (.ref C) "__getattr__") _ _ _
  refine L2.at ?_
  refine wpAny_bind (wpAny_attempt (wpAny_holding ?_))
  have e1 : callGetattribute (.ref x) (.str name tk) (.builtin "BaseException.__getattribute__") expr = boundAndCalled (.builtin "BaseException.__getattribute__") (.ref x) (.str name tk) := by
    unfold callGetattribute
    cases expr <;> rfl
  rw [e1]
  unfold boundAndCalled
  refine wpAny_bind (wpAny_of_eq (PySem.F.attr_ValueError.ga.bind _) ?_)
  refine wpAny_call (codeAny_call_builtin PySem.F.attr_ValueError.ga.plain F.entry_bexc_ga (exc_check (nameV := .str name tk) kin L c ?_))
  refine wpAny_mono h (fun fin s' z => ?_) fun _ _ z => False.elim z
  rcases fin with (_ | _ | _ | _) | _ <;> first | exact z.elim | skip
  exact handed_on z.1 z.2
theorem exc_find_cls {M : Model} {h : Heap} (kin : K.In h) (c : XCls K C) : Looks M h (find (.ref x) (.ref C) "__class__") (.bind (.builtin "getset_descriptor.__get__") (.builtin "object.__class__")) :=
  (looks_findIn kin c.cl).andThen ((show Looks M h (getOf (some (.builtin "object.__class__"))) (some (.builtin "getset_descriptor.__get__")) from looks_specialIn kin c.gs).andThen
    ((show Looks M h (dataDescriptor? (some (.builtin "object.__class__")) (some (.builtin "getset_descriptor.__get__"))) (some (_, _)) from (looks_takesIn kin c.tk).andThen .now).andThen (Looks.tag .now)))
theorem exc_cls_get {tp : Value} {R : Result → Shared → Prop} (kin : K.In s.heap) (L : ∀ M : Model, Looks M s.heap (typeOf (.ref x)) (.ref C)) (c : XCls K C) (q : R (.ok (.ret (.ref C))) s) :
    codeAny (model prog w) A (.call (.builtin "getset_descriptor.__get__") ⟨[.builtin "object.__class__", .ref x, tp], []⟩) R s := by
  obtain ⟨hh, g, dr, t, os⟩ := s
  have T0 := L (model prog w)
  have T1 := looks_mroIn (M := model prog w) kin c.ob
  refine codeAny_call_builtin KF.slot_gs.plain KF.entry_gs (KF.slot_gs.check _ _ _ _ _ _ _ _ KF.type_class (KF.args_gs _ _ _) ?_)
  unfold Builtin.«getset_descriptor.__get__» descrGet
  rw [dga_obj]
  refine wpAny_bind (wpAny_pure ?_)
  unfold descrGetter
  unfold descrCheckInstance descrNameAndClass isInstance
  simp only [KF.owner_class]
  repeat lk
  refine And.intro (Code.quiet_builtin _ (by decide +kernel)) (codeAny_builtin KF.entry_class ?_)
  unfold Builtin.«object.__class__»
  unfold shownTypeOf
  repeat lk
  exact q
theorem exc_ca {Q : Option Value → Shared → Prop} (kin : K.In s.heap) (L : ∀ M : Model, Looks M s.heap (typeOf (.ref x)) (.ref C)) (c : XCls K C) (q : Q (some (.ref C)) { s with toks := s.toks + 1 }) :
    wpAny (model prog w) A (getAttr? (.ref x) "__class__") Q E s := by
  unfold getAttr? getAttrBy?
  refine wpAny_bind (wpAny_mkText (wpAny_bind (wpAny_attempt ?_)))
  refine exc_by (s := { s with toks := s.toks + 1 }) kin L c ?_
  obtain ⟨hh, g, dr, t, os⟩ := s
  have T0 := L (model prog w)
  have T1 := exc_find_cls (x := x) (M := model prog w) kin c
  unfold Builtin.«object.__getattribute__»
  refine wpAny_bind (wpAny_pure (wpAny_bind (wpAny_pure (wpAny_bind (T0.at (wpAny_bind (T1.at ?_)))))))
  show wpAny _ _ (bindTo _ _ _ _) _ _ _
  unfold bindTo
  dsimp only
  refine wpAny_bind (wpAny_holding (wpAny_call (exc_cls_get (s := ⟨hh, g, dr, t + 1, os⟩) kin L c ?_)))
  exact wpAny_pure ⟨rfl, wpAny_pure q⟩
end
def excIs (e : Addr) (cls : Value) (h : Heap) : Prop := ∃ oe ws, h.get? e = some oe ∧ oe.cls = cls ∧ oe.data = .fields ws
theorem excIs.ty {M : Model} {e : Addr} {cls : Value} {h : Heap} (p : excIs e cls h) : Looks M h (typeOf (.ref e)) cls := by
  obtain ⟨oe, ws, q, hc, _⟩ := p
  subst hc
  exact (Looks.ld q).andThen .now
theorem kitx_exc {K : Frag} {e C : Addr} (c : XCls K C) : KitX K (.ref e) (.ref C) (excIs e (.ref C)) where
  ty := fun _ _ _ p => p.ty
  it := fun _ _ kin _ => by
    have z := c.is
    unfold clsIn at z
    split at z
    · rename_i ho
      intro A' Q' E' s' k q
      unfold isType loadHead
      exact wpAny_bind (wpAny_loadPart (k _ _ (kin _ _ ho)) (wpAny_pure q))
    · cases z
  ne := fun h tp dd its n sl kin htp => by
    refine Bool.eq_false_iff.mpr fun q => ?_
    have z := c.is
    cases Value.ref.inj (beq_iff_eq.mp q)
    unfold clsIn at z
    split at z
    · rename_i ho
      cases (kin _ _ ho).symm.trans htp
    · cases z
  ca := fun kin p k => exc_ca kin (fun M => p.ty) c k
inductive TyX (K : Frag) (H : Hp) : V → Value → Prop where
  | of {x : V} {t : Value} (h : TyOf K H x t) : TyX K H x t
  | exc {a C : Addr} {dv : Option Addr} (e : H a = some (excD a (.ref C) dv)) (c : XCls K C) : TyX K H (.ref a) (.ref C)
def clsV : V → Option Value
  | .ref C => some (.ref C)
  | .ty n => some (.type n)
  | _ => none
def rIsi (K : Frag) : List V → Hp → VK → Prop := fun xs H Q => ∃ x c cv t b, xs = [x, c] ∧ clsV c = some cv ∧ TyX K H x t ∧ kitOne K t cv = some b ∧ Q (.bl b) H
theorem call_isi {X : Cx} : CallR X (.builtin "isinstance") (rIsi X.K) := by
  intro pins s σ H xs us Q I r h
  obtain ⟨x, c, cv, t, b, rfl, hc, ty, hk, q⟩ := h
  obtain ⟨u, u', rfl, r1, r2⟩ := vals2 r
  have e2 : u' = cv := by
    cases c with
    | ref C => cases hc; exact r2
    | ty n => cases hc; exact r2
    | _ => cases hc
  subst e2
  have fin : ∀ tk, EP X pins σ Q (.bool b) { s with toks := tk } := fun tk => ⟨.bl b, H, I.tok tk, rfl, q⟩
  cases ty with
  | of z => exact isinst_ok I r1 z hk fin
  | @exc a C dv ea c =>
    cases (show u = Value.ref a from r1)
    obtain ⟨⟨oe, ws, p1, p2, p3, _⟩, _, _⟩ := (show ObjOk X.prog X.w H s.heap a (excD a (.ref C) dv) from I.hok a _ ea)
    exact kia_one (kitx_exc c) I.kIn ⟨oe, ws, p1, p2, p3⟩ hk (fun z => nomatch z) fin
end L2
namespace L2
open PySem PySem.Spec PyProof.Rows
structure RoomU (k : Nat) (A : Around) : Prop where
  dp : A.depth + 3 * k + 5 < recursionLimit
  un : A.units + 16 * k + 200 < cLine
theorem RoomU.mono {j k : Nat} {A : Around} (r : RoomU k A) (h : j ≤ k) : RoomU j A := ⟨by have := r.dp; omega, by have := r.un; omega⟩
theorem RoomU.deeper {k : Nat} {A : Around} (r : RoomU (k + 1) A) (env : Env) : RoomU k (A.deeper env) :=
  ⟨by have := r.dp; show A.depth + 1 + 3 * k + 5 < _; omega, by have := r.un; show A.units + 3 + 16 * k + 200 < _; omega⟩
theorem RoomU.depth {k : Nat} {A : Around} (r : RoomU k A) : A.depth < recursionLimit := by have := r.dp; omega
theorem Room.su {k : Nat} {X : Cx} {e : Addr} (r : Room k X.A) : RoomU k (X.su e).A := ⟨r.dp, r.un⟩
def cxU (CX : CXT) (P : Program) (w : World) (K : PySem.W.Frag) (mg : Str → Option Value) (base : Heap) (N : List Str) (qual : Str) (scope : Scope) (f : Addr) (cd : Value) (A : Around) (outer : List Env) (s : Shared) (H : Hp) (E : XK) : Cx :=
  { cxOf CX P w K mg base N qual scope f cd A outer s H E with calm := false }
section
variable {X : Cx} {CX : CXT} {k : Nat} {f : Addr} {fd : FuncData} {ps : List Str} {sp : Sp} {dvs : List V} {ds : List Value} {E : XK} {x : Str} {p pos : Pos} {e : Expr} {es : List Expr} {t : TA}
end
section
variable {P : Program} {w : World} {K : PySem.W.Frag} {mg : Str → Option Value} {base : Heap} {x qual : Str} {st : Stmt} {f : Addr} {fd : FuncData} {N ps : List Str} {k : Nat} {sp : Sp}
theorem Fun.okE (F : Fun K x qual st f fd) (S : FnScope N ps (defScope st)) (len : ∀ vs H Q E, sp vs H Q E → vs.length = ps.length)
    (hbody : ∀ (cdv : Value) (A : Around) (outer : List Env) (s : Shared) (H : Hp) (vs : List V) (Q : VK) (E : XK), Room k (A.deeper (envOfC qual (defScope st) s.heap.objs.size f cdv)) → sp vs H Q E →
      ∃ t, PSs (cxOf (CXe P w) P w K mg base N qual (defScope st) f cdv A outer s H E).nox (defBody st) t ∧ t { nx := fun _ H' => Q .non H', rt := Q } (start N vs) H) : FnOk P w K mg base (CXe P w) (k + 1) f fd ps sp := by
  obtain ⟨oc, od, kV, doc, pm, an, cdv, ct, osl, rfl, lk, hcd⟩ := F.ex
  refine fn_of lk hcd S len fun A outer s H vs Q E hr hsp => ?_
  obtain ⟨t, h, q⟩ := hbody cdv A outer s H vs Q E hr hsp
  exact ⟨t, h.nox, q⟩
theorem Fun.okX (F : Fun K x qual st f fd) (S : FnScope N ps (defScope st)) (len : ∀ vs H Q E, sp vs H Q E → vs.length = ps.length)
    (hbody : ∀ (cdv : Value) (A : Around) (outer : List Env) (s : Shared) (H : Hp) (vs : List V) (Q : VK) (E : XK), Room k (A.deeper (envOfC qual (defScope st) s.heap.objs.size f cdv)) → sp vs H Q E →
      ∃ t, PSs (cxOf (CXe P w) P w K mg base N qual (defScope st) f cdv A outer s H E) (defBody st) t ∧ t { nx := fun _ H' => Q .non H', rt := Q } (start N vs) H) : FnOk P w K mg base (CXe P w) (k + 1) f fd ps sp := by
  obtain ⟨oc, od, kV, doc, pm, an, cdv, ct, osl, rfl, lk, hcd⟩ := F.ex
  exact fn_of lk hcd S len fun A outer s H vs Q E hr hsp => hbody cdv A outer s H vs Q E hr hsp
end
def Bd (n : Nat) (i : Int) : Prop := i.natAbs < 2 ^ n
theorem Bd.mono {m n : Nat} {i : Int} (h : Bd m i) (l : m ≤ n) : Bd n i := Nat.lt_of_lt_of_le h (Nat.pow_le_pow_right (by decide) l)
theorem Bd.mul {m n : Nat} {i j : Int} (h : Bd m i) (k : Bd n j) : Bd (m + n) (i * j) := by
  unfold Bd at *
  rw [Int.natAbs_mul, Nat.pow_add]
  exact Nat.mul_lt_mul'' h k
theorem Bd.add {n : Nat} {i j : Int} (h : Bd n i) (k : Bd n j) : Bd (n + 1) (i + j) := by
  unfold Bd at *
  have := Int.natAbs_add_le i j
  rw [Nat.pow_succ]
  omega
theorem Bd.neg {n : Nat} {i : Int} (h : Bd n i) : Bd n (-i) := by unfold Bd at *; rw [Int.natAbs_neg]; exact h
theorem Bd.sub {n : Nat} {i j : Int} (h : Bd n i) (k : Bd n j) : Bd (n + 1) (i - j) := by rw [Int.sub_eq_add_neg]; exact h.add k.neg
theorem Bd.le {n : Nat} {i j : Int} (h : Bd n i) (k : j.natAbs ≤ i.natAbs) : Bd n j := Nat.lt_of_le_of_lt k h
theorem Bd.log {n : Nat} {i : Int} (h : Bd n i) (z : i ≠ 0) : i.natAbs.log2 < n := (Nat.log2_lt (by omega)).mpr h
theorem Bd.bits {n : Nat} {i : Int} (h : Bd n i) : Builtin.Int.intBits i ≤ n := PySem.intBits_le_iff.mpr h
def CDivB (_ j : Int) : Prop := j ≠ 0 ∧ Bd 9000 j
def CMulB (i j : Int) : Prop := Bd 100000 i ∧ Bd 100000 j
theorem op_fdivB {X : Cx} : OpR X (binaryOp .FloorDiv) (rI CDivB fun i j => .int (i.fdiv j)) := opI fun _ _ _ _ _ _ _ hc q => floordiv_int hc.1 q (.inl (PyProof.noPylong_of_log2 (hc.2.log hc.1)))
theorem op_mulB {X : Cx} : OpR X (binaryOp .Mult) (rI CMulB fun i j => .int (i * j)) := opI fun _ _ _ _ _ _ _ hc q =>
  mul_int q (IntMulOk.of_bits (Nat.le_trans hc.1.bits (by decide)) (Nat.le_trans hc.2.bits (by decide)))
end L2
namespace L2
open PySem PySem.Spec PyProof.Rows
section
variable {prog : Program} {w : World} {A : Around} {R : Result → Shared → Prop} {s : Shared}
theorem comp_loop {elt target iter : Expr} {scope : Scope} {pos : Pos} {it acc : Value} {env : Env} (J : Nat → Shared → Prop)
    (turn : ∀ n s, J n s → wpAny (model prog w) A (pyNext it) (fun r s1 => match r with
      | none => R (.ok .next) s1
      | some v => wpAny (model prog w) A (letOwnedTupleGo target it v) (fun _ s2 => wpAny (model prog w) A (assign target env v) (fun _ s3 => wpAny (model prog w) A (eval elt env) (fun x s4 =>
          wpAny (model prog w) A (call (.builtin "list.append") [acc, x]) (fun _ s5 => ∃ m, m < n ∧ J m s5) (fun _ _ => False) s4) (fun _ _ => False) s3) (fun _ _ => False) s2) (fun _ _ => False) s1) (fun _ _ => False) s)
    (n : Nat) (h : J n s) : codeAny (model prog w) A (.compLoop (.ListComp elt [⟨target, iter, [], 0⟩] scope pos) 0 it acc env) R s := by
  refine codeAny_loop rfl J (fun n s hJ => ?_) n h
  show wpAny _ A ((compTurn (.ListComp elt [⟨target, iter, [], 0⟩] scope pos) 0 it acc env).onRaise (fun x => do noteFrame x env; theTreesLotGoes x)) _ _ s
  refine wpAny_noted ?_
  rw [compTurn_list1]
  have no : ∀ {P : Value → Shared → Prop} (a : Value) (b : Shared), (fun _ _ => False : Value → Shared → Prop) a b → P a b := fun _ _ z => False.elim z
  refine wpAny_bind (wpAny_standAt (wpAny_bind (wpAny_mono (turn n s hJ) (fun r s1 h1 => ?_) no)))
  cases r with
  | none => exact wpAny_pure h1
  | some v =>
    refine wpAny_bind (wpAny_mono h1 (fun _ s2 h2 => wpAny_bind (wpAny_mono h2 (fun _ s3 h3 => ?_) no)) no)
    exact wpAny_bind (wpAny_bind (wpAny_mono h3 (fun x s4 h4 => wpAny_bind (wpAny_mono h4 (fun _ s5 h5 => wpAny_pure (wpAny_pure ⟨rfl, h5⟩)) no)) no))
end
abbrev Cx.cp (X : Cx) (Nc : List Str) (scope : Scope) (cl : List (Str × Addr)) (C : Addr) (s₀ : Shared) (H₀ : Hp) (ex : List Addr) (pn : List (Addr × Obj)) : Cx :=
  { X with N := Nc, s₀ := s₀, H₀ := H₀, env := compEnvC scope cl C X.env, outer := X.stack, ex := ex, fn := fun _ => false, pn := pn, xe := fun _ _ => False }
def cσ (js : List (Option Nat)) (σ : St) : St := js.map fun o => o.bind fun j => (σ[j]?).join
def tComp (js : List (Option Nat)) (wi : TI) (g : TG) (te : TE) : TE := fun σ H Q => wi σ H fun J H1 => ∀ D, H1 D = none → ∃ W : Nat → Nat → List V → St → Hp → Prop, (∃ m, W 0 m [] (cσ js σ) (upd H1 D (.lst []))) ∧
  ∀ i m ys σc H, W i m ys σc H → (H D = some (.lst ys) ∧ J.stop i H ∧ Q (.ref D) H) ∨ (J.go i H ∧ ∀ x H', J.yld i H x H' → g x σc H' fun σ2 H2 => te σ2 H2 fun y H3 => H3 D = some (.lst ys) ∧ ys.length < sizeLine ∧ ∃ m', m' < m ∧ W (i + 1) m' (ys ++ [y]) σ2 (upd H3 D (.lst (ys ++ [y]))))
def PCo (X : Cx) (e : Expr) (scope : Scope) (iter : Expr) (t : TE) : Prop :=
  ∀ (pos : Pos) (use : Option (Value → Sem Unit)) (QQ : Value → Shared → Prop) (pins : List (Addr × Obj)) (s : Shared) (σ : St) (H : Hp) (Q : VK), Inv X pins σ H s → t σ H Q →
    (∀ (D C : Addr) (H5 : Hp) (s6 : Shared) (mC : Str → Option Value), Inv X pins σ H5 s6 → s6.heap.Ns C mC → FpOk X pins H5 C → Q (.ref D) H5 → compPost (model X.prog X.w) X.A X.xe use QQ (.ref D) C (.ok .next) s6) →
    wpAny (model X.prog X.w) X.A (comprehension e scope X.env pos (newList []) false (eval iter X.env) use) QQ X.xe s
theorem PCo.of {X : Cx} {e : Expr} {scope : Scope} {iter : Expr} {t t' : TE} (h : PCo X e scope iter t') (k : ∀ σ H Q, t σ H Q → t' σ H Q) : PCo X e scope iter t := fun pos use QQ pins s σ H Q I q fin => h pos use QQ pins s σ H Q I (k σ H Q q) fin
theorem PCo.pe {X : Cx} {elt iter tg : Expr} {scope : Scope} {pos : Pos} {t : TE} (h : PCo X (.ListComp elt [⟨tg, iter, [], 0⟩] scope pos) scope iter t) : PE X (.ListComp elt [⟨tg, iter, [], 0⟩] scope pos) t := by
  intro pins s σ H Q I q
  rw [eval_ListComp]
  exact h _ none (EP X pins σ Q) pins s σ H Q I q fun D C H5 s6 mC I7 hn fp qn => ⟨mC, hn, fun h8 sb => ⟨.ref D, H5, I7.turned (t' := s6.toks) (fun b o hb z => (sb.2 b hb).trans z) fp.1 fp.2.1 fp.2.2.2.1 fp.2.2.2.2.1 fp.2.2.2.2.2, rfl, qn⟩⟩
theorem PCo.ps {X : Cx} {elt iter tg : Expr} {scope : Scope} {cpos pos pos' : Pos} {t : TE} {i : Nat} {x : Str} (h : PCo X (.ListComp elt [⟨tg, iter, [], 0⟩] scope cpos) scope iter t) (hN : X.N.Nodup) (hi : X.N[i]? = some x) (hx : Loc X.env.scope x)
    (hsw : swapsWith (.ListComp elt [⟨tg, iter, [], 0⟩] scope cpos) (some (.Name x pos')) pos.line X.env = pure true := by rfl)
    (hf : X.fn x = true ∨ X.env.scope.names.lookup x = some .local := by first | exact .inl rfl | exact .inr rfl | assumption) : PS X (.Assign [.Name x pos'] (.ListComp elt [⟨tg, iter, [], 0⟩] scope cpos) pos) (tAsg t (gName i)) := by
  intro pins s σ H D0 I q
  rw [exec_Assign_Name_used _ _ _ _ hsw]
  refine wpAny_bind (wpAny_standAt (wpAny_bind ?_))
  show wpAny _ X.A (do let _ ← comprehension (.ListComp elt [⟨tg, iter, [], 0⟩] scope cpos) scope X.env _ (newList []) false (eval iter X.env) (some (assign (.Name x pos') X.env))) _ _ s
  refine wpAny_bind (wpAny_mono (h _ (some (assign (.Name x pos') X.env)) (fun _ s' => SP X pins D0 .next s') pins s σ H _ I q ?_) (fun _ s' hq => wpAny_pure (wpAny_pure hq)) fun _ _ e => e)
  intro D C H5 s6 mC I7 hn fp qn
  refine wpAny_assign_Name (store_ok2 (v := .ref D) I7 hN hi hx rfl (fun s8 I8 sb8 => ?_) hf)
  obtain ⟨a, sb, ha⟩ := sb8
  have hne : C ≠ a := by
    rcases ha with rfl | ha
    · exact fp.2.1
    · exact fun z => fp.2.2.2.2.1 _ _ ha z.symm
  refine ⟨mC, hn.sameBut sb hne, fun h9 sb9 => ⟨_, H5, ?_, qn⟩⟩
  exact I8.turned (t' := s8.toks) (fun b o hb z => (sb9.2 b hb).trans z) fp.1 fp.2.1 fp.2.2.2.1 fp.2.2.2.2.1 fp.2.2.2.2.2
theorem pe_comp {X : Cx} {elt iter tg : Expr} {scope : Scope} {cl : List (Str × Addr)} {Nc : List Str} {js : List (Option Nat)} {wi : TI} {g : TG} {te : TE} {pos : Pos} (hc : X.calm = true) (hi : PI X tg iter wi)
    (hg : ∀ C s₀ H₀ ex pn, PG (X.cp Nc scope cl C s₀ H₀ ex pn) tg g) (he : ∀ C s₀ H₀ ex pn, PE (X.cp Nc scope cl C s₀ H₀ ex pn) elt te)
    (hlen : js.length = Nc.length) (hcl1 : ∀ y c, cl.lookup y = some c → X.env.cells.lookup y = some c) (hcl2 : ∀ y, ((relabel scope X.env).names.lookup y = some .cell ∨ (relabel scope X.env).names.lookup y = some .free) → ∃ c, cl.lookup y = some c)
    (hjs : ∀ (i : Nat) (y : Str) (j : Nat), Nc[i]? = some y → js[i]? = some (some j) → X.N[j]? = some y ∧ Vis X.env.scope y ∧ X.env.kindOf y ≠ some .local ∧ ((relabel scope X.env).names.lookup y = some .cell ∨ (relabel scope X.env).names.lookup y = some .free) ∧ ∀ c, X.env.cells.lookup y = some c → cl.lookup y = some c)
    (hclos : closureFor scope X.env = pure cl) (hcell : ∀ y ∈ scope.names, y.2 ≠ .cell) (hkind : scope.kind = .function) (hnames : ∀ y ∈ scope.names, y.2 = .local → scope.names.lookup y.1 = some .local)
    (hs : ∀ x, foldedSetIterable iter X.env x = pure x := by intro _; rfl) : PCo X (.ListComp elt [⟨tg, iter, [], 0⟩] scope pos) scope iter (tComp js wi g te) := by
  intro pos0 use QQ pins s σ H Q I h fin
  refine wpAny_comprehension_free (use := use) rfl hs hclos hkind hnames (thn (hi pins s σ H _ I h) fun v s1 h1 => thn h1 fun itv s2 h2 => ?_)
  obtain ⟨it, fp, tn, J, H2, rfl, I2, T, st2, f2, R⟩ := h2
  refine wpAny_newObj_type (wpAny_newFunctionEnv hcell (by intro y hy; simp at hy) (fun h1 hns hsb => ?_) hkind)
  dsimp only at hns hsb ⊢
  have hf : H2 s2.heap.objs.size = none := I2.hok.fresh (Nat.le_refl _)
  obtain ⟨W, ⟨m0, w0⟩, turn⟩ := R s2.heap.objs.size hf
  -- D: the list; C: the block's names
  generalize eD : s2.heap.objs.size = D at *
  have I3 : Inv X pins σ (upd H2 D (.lst [])) { s2 with heap := s2.heap.push { cls := .type "list", dict := none, data := .seq ([] : List Value).toArray } } :=
    I2.laid (t' := s2.toks) (fun b u e => Heap.get?_push_of_some _ e) (by rw [eD]; exact Nat.le_refl _) ⟨Nat.zero_le _, [], 0, .nil, by rw [← eD]; exact Heap.get?_push_size _ rfl⟩
  generalize e3 : ({ s2 with heap := s2.heap.push { cls := .type "list", dict := none, data := .seq ([] : List Value).toArray } } : Shared) = s3 at I3
  have hp3 : s2.heap.push { cls := .type "list", dict := none, data := .seq ([] : List Value).toArray } = s3.heap := by rw [← e3]
  rw [hp3] at hns hsb ⊢
  generalize eC : s3.heap.objs.size = C at *
  have old : ∀ b o, s3.heap.get? b = some o → h1.get? b = some o := fun b o z => hsb.extBut b o (by rw [← eC]; exact Nat.ne_of_lt (Heap.lt_size z)) (Heap.get?_push_of_some _ z)
  have fpo : ∀ b ∈ fp, b < D := fun b hb => by
    obtain ⟨o, z, _⟩ := T.obj _ _ st2 b hb
    rw [← eD]; exact Heap.lt_size z
  have eCD : C = D + 1 := by rw [← eC, ← hp3, Heap.size_push, eD]
  have f3 : ∀ b ∈ fp, FpOk X pins (upd H2 D (.lst [])) b := fun b hb => ⟨by rw [upd_ne (Nat.ne_of_lt (fpo b hb))]; exact (f2 b hb).1, (f2 b hb).2⟩
  have okC : (X.cp Nc scope cl C s3 (upd H2 D (.lst [])) fp (X.pn ++ pins)).Ok := by
    have ok := I3.ok
    refine ⟨ok.mod, hkind, ok.glob, ok.blt, by rw [eC]; exact Nat.le_refl _, fun x y c a b => ok.inj x y c (hcl1 x c a) (hcl1 y c b), fun x hx => hcl2 x hx, fun x c z => absurd z Bool.false_ne_true, ok.hd, ok.frames, .inl rfl, fun b hb => ?_, fun b o z => I3.bs b o z, Nat.le_trans ok.bsz I3.sz, fun b o z hb => ?_, fun b hb hm => ?_, I3.stack, I3.stkFree⟩
    · exact ⟨by rw [eCD]; exact Nat.ne_of_lt (Nat.lt_succ_of_lt (fpo b hb)), fun x c z => (f3 b hb).2.2.2.2.1 x c (hcl1 x c z)⟩
    · rcases (f3 b hb).2.2.2.1 with y | y
      · exact ok.noex b o z y
      · exact absurd (Nat.lt_of_lt_of_le (Heap.lt_size z) (Nat.le_trans ok.bsz y)) (Nat.lt_irrefl _)
    · rcases List.mem_cons.mp (I3.stkSub b hm) with y | y
      · exact (f3 b hb).2.1 y
      · exact (f3 b hb).2.2.1 y
  have I4 : Inv (X.cp Nc scope cl C s3 (upd H2 D (.lst [])) fp (X.pn ++ pins)) [] (cσ js σ) (upd H2 D (.lst [])) { s2 with heap := h1, toks := s2.toks + ([] : List (Str × Value)).length } := by
    have os3 : s2.os = s3.os := by rw [← e3]
    have fC : upd H2 D (.lst []) C = none := I3.hok.fresh (by rw [eC]; exact Nat.le_refl _)
    refine ⟨okC, os3, I2.bare, Un.kept old, ⟨_, hns, fun i y v e1 e2 e3' => ?_⟩, fun y c z => ?_, fC, fun y c z => I3.freeC y c (hcl1 y c z), fun p hp => ?_, I3.hok.kept old, by rw [cσ, List.length_map]; exact hlen⟩
    · unfold cσ at e2
      rw [List.getElem?_map] at e2
      cases ej : js[i]? with
      | none => rw [ej] at e2; cases e2
      | some oj =>
        rw [ej] at e2
        cases oj with
        | none => cases e2
        | some j =>
          obtain ⟨a1, a2, a3, a4, a5⟩ := hjs i y j e1 ej
          have e2' : (σ[j]?).join = some v := Option.some.inj e2
          have e4 : σ[j]? = some (some v) := by
            cases q : σ[j]? with
            | none => rw [q] at e2'; cases e2'
            | some o => rw [q] at e2'; exact congrArg some e2'
          obtain ⟨m, hn, hl⟩ := I3.loc
          obtain ⟨u, r, l⟩ := hl j y v a1 e4 a2
          refine ⟨u, r, .inr ⟨a4, ?_⟩⟩
          rcases l with ⟨k, _⟩ | ⟨k, c, z, ⟨o, ho, hd⟩⟩
          · exact absurd k a3
          · exact ⟨c, a5 c z, o, old _ _ ho, hd⟩
    · obtain ⟨w', o, ho, hd⟩ := I3.cell y c (hcl1 y c z)
      exact ⟨w', o, old _ _ ho, hd⟩
    · have hp' : p ∈ X.pn ++ pins := by
        have z : p ∈ (X.pn ++ pins) ++ [] := hp
        rw [List.append_nil] at z; exact z
      obtain ⟨z, n, ne, nf, d⟩ := I3.pin p hp'
      refine ⟨old _ _ z, n, by rw [← eC]; exact Nat.ne_of_lt (Heap.lt_size z), fun hm => ?_, d⟩
      rcases List.mem_cons.mp (I3.stkSub p.1 hm) with y | y
      · exact ne y
      · exact nf y
  have st4 : tn 0 h1 := T.keep _ _ _ st2 fun b hb o z => old b o (by rw [← hp3]; exact Heap.get?_push_of_some _ z)
  have stat : ∀ {H' : Hp}, (∀ b ∈ fp, H' b = none) → ∀ b ∈ fp, FpOk (X.cp Nc scope cl C s3 (upd H2 D (.lst [])) fp (X.pn ++ pins)) [] H' b := fun hn b hb =>
    ⟨hn b hb, (okC.exf b hb).1, okC.exfs b hb, .inl hb, (okC.exf b hb).2 |> fun q x c z => q x c z, fun p hp => (f3 b hb).2.2.2.2.2 p (by
      have z : p ∈ (X.pn ++ pins) ++ [] := hp
      rw [List.append_nil] at z; exact z)⟩
  have loop : codeAny (model X.prog X.w) X.A (.compLoop (.ListComp elt [⟨tg, iter, [], 0⟩] scope pos) 0 (.ref it) (.ref D) (compEnvC scope cl C X.env)) (compPost (model X.prog X.w) X.A X.xe use QQ (.ref D) C) { s2 with heap := h1, toks := s2.toks + ([] : List (Str × Value)).length } := by
    refine comp_loop (fun n s' => ∃ i ys σc H', Inv (X.cp Nc scope cl C s3 (upd H2 D (.lst [])) fp (X.pn ++ pins)) [] σc H' s' ∧ tn i s'.heap ∧ (∀ b ∈ fp, H' b = none) ∧ W i n ys σc H') ?_ m0 ⟨0, [], _, _, I4, st4, fun b hb => (f3 b hb).1, w0⟩
    rintro n s5 ⟨i, ys, σ5, H5, I5, st5, fr5, w5⟩
    rcases turn i n ys σ5 H5 w5 with ⟨hD, stop, qn⟩ | ⟨go, step⟩
    · refine thn (T.done (X.cp Nc scope cl C s3 (upd H2 D (.lst [])) fp (X.pn ++ pins)) rfl rfl rfl hc i [] s5 σ5 H5 _ I5 (stat fr5) st5 stop) fun r s6 ⟨hr, I6⟩ => ?_
      subst hr
      obtain ⟨mC, hnC, _⟩ := id I6.loc
      have I7 : Inv X pins σ H5 s6 := I3.call' (ch := fp) I6.os I6.base I6.hok I6.bare fun b hb => ⟨(f3 b hb).2.2.2.1, (f3 b hb).2.1, (f3 b hb).2.2.2.2.1, (f3 b hb).2.2.2.2.2⟩
      have nC : s3.heap.objs.size ≤ C := by rw [eC]; exact Nat.le_refl _
      exact fin D C H5 s6 mC I7 hnC (I3.fpOk nC I6.free) qn
    · refine thn (T.item (X.cp Nc scope cl C s3 (upd H2 D (.lst [])) fp (X.pn ++ pins)) rfl rfl rfl hc i [] s5 σ5 H5 _ I5 (stat fr5) st5 go) fun r s6 ⟨u, hr, h6⟩ => ?_
      subst hr
      refine thn h6 fun _ s7 ⟨x, H7, I7, r7, y7, st7, fr7⟩ => ?_
      have I7' := I7.pinned (stat fr7) (T.obj _ _ st7)
      refine thn (hg C s3 _ fp _ _ s7 σ5 H7 x u _ I7' r7 (step x H7 y7)) fun _ s8 ⟨σ8, H8, I8, q8⟩ => ?_
      refine thn (he C s3 _ fp _ _ s8 σ8 H8 _ I8 q8) fun v9 s9 ⟨y9, H9, I9, r9, hD9, hz9, m9, lt9, w9⟩ => ?_
      refine thn (mt_append (X := X.cp Nc scope cl C s3 (upd H2 D (.lst [])) fp (X.pn ++ pins)) _ s9 σ8 H9 (.ref D) [y9] (.ref D) [v9] (fun _ H10 => H10 = upd H9 D (.lst (ys ++ [y9]))) I9 rfl (.cons r9 .nil) ⟨D, ys, y9, rfl, rfl, hD9, hz9, rfl⟩) fun v10 s10 ⟨_, H10, I10, _, e10⟩ => ?_
      subst e10
      refine ⟨m9, lt9, i + 1, ys ++ [y9], σ8, _, I10.unpinned, T.keep _ _ _ st7 fun b hb o z => (I10.pin (b, o) (List.mem_append_right _ (List.mem_append_right _ (mem_pinsAt hb z)))).1, fun b hb => ?_, w9⟩
      obtain ⟨o, z, d⟩ := T.obj _ _ st7 b hb
      exact (I10.pin (b, o) (List.mem_append_right _ (List.mem_append_right _ (mem_pinsAt hb z)))).2.1
  exact codeAny_compStart_list loop (T.self X.A 0 _ _ _ st4 loop)
end L2
namespace L2
open PySem PySem.Spec PyProof.Rows
inductive Dt where
  | non | bl (b : Bool) | int (i : Int) | str (x : Str) | tup (l : List Dt) | lst (l : List Dt)
mutual
def Rep (K : PySem.W.Frag) (H : Hp) : Dt → V → Prop
  | .non, v => v = .non
  | .bl b, v => v = .bl b
  | .int i, v => v = .int i
  | .str x, v => v = .str x
  | .tup l, v => ∃ a xs, v = .ref a ∧ SqT K H a xs ∧ Reps K H l xs
  | .lst l, v => ∃ a xs, v = .ref a ∧ SqL K H a xs ∧ Reps K H l xs
def Reps (K : PySem.W.Frag) (H : Hp) : List Dt → List V → Prop
  | [], xs => xs = []
  | d :: l, xs => ∃ x r, xs = x :: r ∧ Rep K H d x ∧ Reps K H l r
end
mutual
def Dt.sim : Dt → Dt → Bool
  | .non, .non => true
  | .bl _, .bl _ => true
  | .int _, .int _ => true
  | .str _, .str _ => true
  | .tup l, .tup m => Dt.sims l m
  | .lst l, .lst m => Dt.sims l m
  | _, _ => false
def Dt.sims : List Dt → List Dt → Bool
  | d :: l, e :: m => Dt.sim d e && Dt.sims l m
  | _, _ => true
end
mutual
def Dt.eqb : Dt → Dt → Bool
  | .non, .non => true
  | .bl a, .bl b => a == b
  | .int a, .int b => a == b
  | .str a, .str b => a == b
  | .tup l, .tup m => Dt.eqbs l m
  | .lst l, .lst m => Dt.eqbs l m
  | _, _ => false
def Dt.eqbs : List Dt → List Dt → Bool
  | [], [] => true
  | d :: l, e :: m => Dt.eqb d e && Dt.eqbs l m
  | _, _ => false
end
mutual
def Dt.dep : Dt → Nat
  | .tup l => Dt.deps l + 1
  | .lst l => Dt.deps l + 1
  | _ => 0
def Dt.deps : List Dt → Nat
  | [] => 0
  | d :: l => max (Dt.dep d) (Dt.deps l)
end
mutual
theorem Dt.eqb_refl : ∀ d : Dt, Dt.eqb d d = true
  | .non => rfl
  | .bl b => by simp [Dt.eqb]
  | .int i => by simp [Dt.eqb]
  | .str x => by simp [Dt.eqb]
  | .tup l => by rw [Dt.eqb]; exact Dt.eqbs_refl l
  | .lst l => by rw [Dt.eqb]; exact Dt.eqbs_refl l
theorem Dt.eqbs_refl : ∀ l : List Dt, Dt.eqbs l l = true
  | [] => rfl
  | d :: l => by rw [Dt.eqbs, Dt.eqb_refl d, Dt.eqbs_refl l]; rfl
end
mutual
theorem Dt.sim_refl : ∀ d : Dt, Dt.sim d d = true
  | .non => rfl
  | .bl b => rfl
  | .int i => rfl
  | .str x => rfl
  | .tup l => by rw [Dt.sim]; exact Dt.sims_refl l
  | .lst l => by rw [Dt.sim]; exact Dt.sims_refl l
theorem Dt.sims_refl : ∀ l : List Dt, Dt.sims l l = true
  | [] => rfl
  | d :: l => by rw [Dt.sims, Dt.sim_refl d, Dt.sims_refl l]; rfl
end
section
variable {X : Cx} {pins : List (Addr × Obj)} {σ : St} {H : Hp} {s : Shared}
theorem Inv.lt_inj (I : Inv X pins σ H s) {a : Addr} {xs ys : List V} (h : SqL X.K H a xs) (h' : SqT X.K H a ys) : False := by
  obtain ⟨its, _, ⟨ob, n, p, c', _⟩, _⟩ := I.list h
  obtain ⟨its', _, ⟨o, q, c, _⟩, _⟩ := I.tuple h'
  rw [p] at q
  cases q
  rw [c'] at c
  exact absurd c (by decide)
mutual
theorem Rep.inj (I : Inv X pins σ H s) : ∀ (d e : Dt) (v : V), Rep X.K H d v → Rep X.K H e v → d = e := by
  intro d e v h k
  match d, e with
  | .non, .non => rfl
  | .bl a, .bl b => simp only [Rep] at h k; subst h; cases k; rfl
  | .int a, .int b => simp only [Rep] at h k; subst h; cases k; rfl
  | .str a, .str b => simp only [Rep] at h k; subst h; cases k; rfl
  | .tup l, .tup m =>
    simp only [Rep] at h k
    obtain ⟨a, xs, rfl, s1, r1⟩ := h
    obtain ⟨b, ys, e, s2, r2⟩ := k
    cases e
    rw [I.tuple_inj s2 s1] at r2
    rw [Reps.inj I l m xs r1 r2]
  | .lst l, .lst m =>
    simp only [Rep] at h k
    obtain ⟨a, xs, rfl, s1, r1⟩ := h
    obtain ⟨b, ys, e, s2, r2⟩ := k
    cases e
    rw [I.list_inj s2 s1] at r2
    rw [Reps.inj I l m xs r1 r2]
  | .tup l, .lst m =>
    simp only [Rep] at h k
    obtain ⟨a, xs, rfl, s1, r1⟩ := h
    obtain ⟨b, ys, e, s2, r2⟩ := k
    cases e
    exact (I.lt_inj s2 s1).elim
  | .lst l, .tup m =>
    simp only [Rep] at h k
    obtain ⟨a, xs, rfl, s1, r1⟩ := h
    obtain ⟨b, ys, e, s2, r2⟩ := k
    cases e
    exact (I.lt_inj s1 s2).elim
  | .non, .bl _ | .non, .int _ | .non, .str _ | .bl _, .non | .bl _, .int _ | .bl _, .str _ | .int _, .non | .int _, .bl _ | .int _, .str _ | .str _, .non | .str _, .bl _ | .str _, .int _ => simp only [Rep] at h k; subst h; cases k
  | .non, .tup _ | .bl _, .tup _ | .int _, .tup _ | .str _, .tup _ | .non, .lst _ | .bl _, .lst _ | .int _, .lst _ | .str _, .lst _ => simp only [Rep] at h k; subst h; obtain ⟨b, ys, e, _⟩ := k; cases e
  | .tup _, .non | .tup _, .bl _ | .tup _, .int _ | .tup _, .str _ | .lst _, .non | .lst _, .bl _ | .lst _, .int _ | .lst _, .str _ => simp only [Rep] at h k; subst k; obtain ⟨b, ys, e, _⟩ := h; cases e
theorem Reps.inj (I : Inv X pins σ H s) : ∀ (l m : List Dt) (xs : List V), Reps X.K H l xs → Reps X.K H m xs → l = m := by
  intro l m xs h k
  match l, m with
  | [], [] => rfl
  | [], e :: m => simp only [Reps] at h k; subst h; obtain ⟨x, r, z, _⟩ := k; cases z
  | d :: l, [] => simp only [Reps] at h k; subst k; obtain ⟨x, r, z, _⟩ := h; cases z
  | d :: l, e :: m =>
    simp only [Reps] at h k
    obtain ⟨x, r, rfl, h1, h2⟩ := h
    obtain ⟨y, q, z, k1, k2⟩ := k
    cases z
    rw [Rep.inj I d e x h1 k1, Reps.inj I l m r h2 k2]
end
theorem Reps.len {K : PySem.W.Frag} {H : Hp} : ∀ {l : List Dt} {xs : List V}, Reps K H l xs → l.length = xs.length
  | [], xs, h => by simp only [Reps] at h; rw [h]; rfl
  | d :: l, xs, h => by
    simp only [Reps] at h
    obtain ⟨x, r, rfl, _, h2⟩ := h
    simp [Reps.len h2]
theorem Reps.at {K : PySem.W.Frag} {H : Hp} : ∀ {l : List Dt} {xs : List V} {j : Nat} {d : Dt}, Reps K H l xs → l[j]? = some d → ∃ x, xs[j]? = some x ∧ Rep K H d x
  | [], _, _, _, _, e => by simp at e
  | d0 :: l, xs, 0, d, h, e => by
    simp only [Reps] at h
    obtain ⟨x, r, rfl, h1, _⟩ := h
    simp at e; subst e
    exact ⟨x, rfl, h1⟩
  | d0 :: l, xs, j + 1, d, h, e => by
    simp only [Reps] at h
    obtain ⟨x, r, rfl, _, h2⟩ := h
    obtain ⟨y, e1, e2⟩ := Reps.at (j := j) h2 (by simpa using e)
    exact ⟨y, by simpa using e1, e2⟩
theorem Dt.deps_at : ∀ {l : List Dt} {j : Nat} {d : Dt}, l[j]? = some d → d.dep ≤ Dt.deps l
  | [], _, _, e => by simp at e
  | d0 :: l, 0, d, e => by simp at e; subst e; rw [Dt.deps]; exact Nat.le_max_left _ _
  | d0 :: l, j + 1, d, e => by rw [Dt.deps]; exact Nat.le_trans (Dt.deps_at (j := j) (by simpa using e)) (Nat.le_max_right _ _)
theorem Dt.sims_at : ∀ {l m : List Dt} {j : Nat} {d e : Dt}, Dt.sims l m = true → l[j]? = some d → m[j]? = some e → d.sim e = true
  | [], _, _, _, _, _, z, _ => by simp at z
  | _ :: _, [], _, _, _, _, _, z => by simp at z
  | d0 :: l, e0 :: m, 0, d, e, h, z1, z2 => by
    rw [Dt.sims] at h
    simp at z1 z2; subst z1 z2
    exact (Bool.and_eq_true_iff.mp h).1
  | d0 :: l, e0 :: m, j + 1, d, e, h, z1, z2 => by
    rw [Dt.sims] at h
    exact Dt.sims_at (j := j) (Bool.and_eq_true_iff.mp h).2 (by simpa using z1) (by simpa using z2)
theorem Dt.eqbs_all : ∀ {l m : List Dt}, l.length = m.length → Dt.eqbs l m = (List.range l.length).all fun j => match l[j]?, m[j]? with | some d, some e => d.eqb e | _, _ => true
  | [], [], _ => rfl
  | d :: l, e :: m, h => by
    have h' : l.length = m.length := by simpa using h
    rw [Dt.eqbs, Dt.eqbs_all h', List.length_cons, List.range_succ_eq_map, List.all_cons, List.all_map]
    rfl
theorem Dt.eqbs_len : ∀ {l m : List Dt}, l.length ≠ m.length → Dt.eqbs l m = false
  | [], [], h => absurd rfl h
  | [], _ :: _, _ => rfl
  | _ :: _, [], _ => rfl
  | d :: l, e :: m, h => by rw [Dt.eqbs, Dt.eqbs_len (by simpa using h), Bool.and_false]
def pairE (l m : List Dt) (j : Nat) : Bool := match l[j]?, m[j]? with | some d, some e => d.eqb e | _, _ => true
theorem items_at (I : Inv X pins σ H s) {k : Nat} {A : Around} {l m : List Dt} {xs ys : List V} {us vs : List Value}
    (ih : ∀ (A : Around) (d e : Dt) (x y : V) (u v : Value), d.dep ≤ k → A.units + k < cLine → d.sim e = true → Rep X.K H d x → Rep X.K H e y → RelV x u → RelV y v → SeqAt.EqAt A s u v (d.eqb e))
    (hd : Dt.deps l ≤ k) (hu : A.units + (k + 1) < cLine) (hs : Dt.sims l m = true) (r1 : Reps X.K H l xs) (r2 : Reps X.K H m ys) (v1 : Vals xs us) (v2 : Vals ys vs) :
    ∀ j (h1 : j < us.toArray.size) (h2 : j < vs.toArray.size), SeqAt.EqAt A.in1 s us.toArray[j] vs.toArray[j] (pairE l m j) := by
  intro j h1 h2
  have l1 : j < us.length := by simpa using h1
  have l2 : j < vs.length := by simpa using h2
  have n1 : l.length = us.length := r1.len.trans v1.length
  have n2 : m.length = vs.length := r2.len.trans v2.length
  obtain ⟨d, ed⟩ : ∃ d, l[j]? = some d := ⟨l[j], List.getElem?_eq_getElem (by omega)⟩
  obtain ⟨e, ee⟩ : ∃ e, m[j]? = some e := ⟨m[j], List.getElem?_eq_getElem (by omega)⟩
  obtain ⟨x, ex, rx⟩ := r1.at ed
  obtain ⟨y, ey, ry⟩ := r2.at ee
  obtain ⟨u, eu, ru⟩ := v1.get ex
  obtain ⟨v, ev, rv⟩ := v2.get ey
  have e1 : us.toArray[j] = u := by
    have := List.getElem?_eq_getElem l1
    rw [eu] at this
    simpa using (Option.some.inj this).symm
  have e2 : vs.toArray[j] = v := by
    have := List.getElem?_eq_getElem l2
    rw [ev] at this
    simpa using (Option.some.inj this).symm
  have ep : pairE l m j = d.eqb e := by unfold pairE; rw [ed, ee]
  rw [e1, e2, ep]
  exact ih A.in1 d e x y u v (Nat.le_trans (Dt.deps_at ed) hd) (by show A.units + 1 + k < cLine; omega) (Dt.sims_at hs ed ee) rx ry ru rv
theorem tup_b {l m : List Dt} {us vs : List Value} (n1 : l.length = us.length) (n2 : m.length = vs.length) : ((List.range (min us.toArray.size vs.toArray.size)).all (pairE l m) && us.toArray.size == vs.toArray.size) = Dt.eqbs l m := by
  have a1 : us.toArray.size = l.length := by simp [n1]
  have a2 : vs.toArray.size = m.length := by simp [n2]
  rw [a1, a2]
  by_cases h : l.length = m.length
  · rw [Dt.eqbs_all h, h, Nat.min_self]
    simp [pairE]
    rfl
  · rw [Dt.eqbs_len h, (beq_eq_false_iff_ne).mpr h, Bool.and_false]
theorem lst_b {l m : List Dt} {us vs : List Value} (n1 : l.length = us.length) (n2 : m.length = vs.length) (h : us.toArray.size = vs.toArray.size) : (List.range us.toArray.size).all (pairE l m) = Dt.eqbs l m := by
  have a1 : us.toArray.size = l.length := by simp [n1]
  have a2 : vs.toArray.size = m.length := by simp [n2]
  rw [Dt.eqbs_all (by omega), a1]
  rfl
theorem rc_tup (I : Inv X pins σ H s) {k : Nat} {A : Around} {l m : List Dt} {a b : Addr} {xs ys : List V}
    (ih : ∀ (A : Around) (d e : Dt) (x y : V) (u v : Value), d.dep ≤ k → A.units + k < cLine → d.sim e = true → Rep X.K H d x → Rep X.K H e y → RelV x u → RelV y v → SeqAt.EqAt A s u v (d.eqb e))
    (hd : Dt.deps l ≤ k) (hu : A.units + (k + 1) < cLine) (hs : Dt.sims l m = true) (q1 : SqT X.K H a xs) (q2 : SqT X.K H b ys) (r1 : Reps X.K H l xs) (r2 : Reps X.K H m ys) :
    SeqAt.RcAt A s (.ref a) (.ref b) (Dt.eqbs l m) ∧ SeqAt.RcNeAt A s (.ref a) (.ref b) (!Dt.eqbs l m) := by
  obtain ⟨us, v1, p1, _⟩ := I.tuple q1
  obtain ⟨vs, v2, p2, _⟩ := I.tuple q2
  have he := items_at I ih hd hu hs r1 r2 v1 v2
  rw [← tup_b (l := l) (m := m) (us := us) (vs := vs) (r1.len.trans v1.length) (r2.len.trans v2.length)]
  exact ⟨SeqAt.RcAt.tuples (show s.heap.IsTuple a us.toArray from p1) (show s.heap.IsTuple b vs.toArray from p2) (by omega) he, SeqAt.RcNeAt.tuples (show s.heap.IsTuple a us.toArray from p1) (show s.heap.IsTuple b vs.toArray from p2) (by omega) he⟩
theorem rc_lst (I : Inv X pins σ H s) {k : Nat} {A : Around} {l m : List Dt} {a b : Addr} {xs ys : List V}
    (ih : ∀ (A : Around) (d e : Dt) (x y : V) (u v : Value), d.dep ≤ k → A.units + k < cLine → d.sim e = true → Rep X.K H d x → Rep X.K H e y → RelV x u → RelV y v → SeqAt.EqAt A s u v (d.eqb e))
    (hd : Dt.deps l ≤ k) (hu : A.units + (k + 1) < cLine) (hs : Dt.sims l m = true) (q1 : SqL X.K H a xs) (q2 : SqL X.K H b ys) (r1 : Reps X.K H l xs) (r2 : Reps X.K H m ys) :
    SeqAt.RcAt A s (.ref a) (.ref b) (Dt.eqbs l m) ∧ SeqAt.RcNeAt A s (.ref a) (.ref b) (!Dt.eqbs l m) := by
  obtain ⟨us, v1, p1, _⟩ := I.list q1
  obtain ⟨vs, v2, p2, _⟩ := I.list q2
  have he := items_at I ih hd hu hs r1 r2 v1 v2
  by_cases hsz : us.toArray.size = vs.toArray.size
  · rw [← lst_b (l := l) (m := m) (us := us) (vs := vs) (r1.len.trans v1.length) (r2.len.trans v2.length) hsz]
    exact ⟨SeqAt.RcAt.lists p1.isList p2.isList hsz (by omega) he, SeqAt.RcNeAt.lists p1.isList p2.isList hsz (by omega) he⟩
  · have hl : l.length ≠ m.length := fun z => hsz (by
      have a1 := r1.len.trans v1.length
      have a2 := r2.len.trans v2.length
      simp; omega)
    rw [Dt.eqbs_len hl]
    exact ⟨SeqAt.RcAt.lists_lengths p1.isList p2.isList (by simpa using hsz) (by omega), SeqAt.RcNeAt.lists_lengths p1.isList p2.isList (by simpa using hsz) (by omega)⟩
theorem eq_at (I : Inv X pins σ H s) : ∀ (k : Nat) (A : Around) (d e : Dt) (x y : V) (u v : Value), d.dep ≤ k → A.units + k < cLine → d.sim e = true → Rep X.K H d x → Rep X.K H e y → RelV x u → RelV y v → SeqAt.EqAt A s u v (d.eqb e) := by
  intro k
  induction k with
  | zero =>
    intro A d e x y u v hd hu hs h1 h2 r1 r2
    match d, e with
    | .non, .non => simp only [Rep] at h1 h2; subst h1 h2; cases r1; cases r2; exact SeqAt.EqAt.same _
    | .bl a, .bl b => simp only [Rep] at h1 h2; subst h1 h2; cases r1; cases r2; exact SeqAt.EqAt.bool_bool a b
    | .int a, .int b => simp only [Rep] at h1 h2; subst h1 h2; obtain ⟨t, rfl⟩ := r1; obtain ⟨t', rfl⟩ := r2; exact SeqAt.EqAt.int_int a t b t'
    | .str a, .str b => simp only [Rep] at h1 h2; subst h1 h2; obtain ⟨t, rfl⟩ := r1; obtain ⟨t', rfl⟩ := r2; exact SeqAt.EqAt.str_str a t b t'
    | .tup l, _ => rw [Dt.dep] at hd; omega
    | .lst l, _ => rw [Dt.dep] at hd; omega
  | succ k ih =>
    intro A d e x y u v hd hu hs h1 h2 r1 r2
    match d, e with
    | .non, .non => simp only [Rep] at h1 h2; subst h1 h2; cases r1; cases r2; exact SeqAt.EqAt.same _
    | .bl a, .bl b => simp only [Rep] at h1 h2; subst h1 h2; cases r1; cases r2; exact SeqAt.EqAt.bool_bool a b
    | .int a, .int b => simp only [Rep] at h1 h2; subst h1 h2; obtain ⟨t, rfl⟩ := r1; obtain ⟨t', rfl⟩ := r2; exact SeqAt.EqAt.int_int a t b t'
    | .str a, .str b => simp only [Rep] at h1 h2; subst h1 h2; obtain ⟨t, rfl⟩ := r1; obtain ⟨t', rfl⟩ := r2; exact SeqAt.EqAt.str_str a t b t'
    | .tup l, .tup m =>
      have g1 := h1
      have g2 := h2
      simp only [Rep] at h1 h2
      obtain ⟨a, xs, rfl, q1, p1⟩ := h1
      obtain ⟨b, ys, rfl, q2, p2⟩ := h2
      cases r1; cases r2
      by_cases hab : a = b
      · subst hab
        rw [← Rep.inj I _ _ _ g1 g2, Dt.eqb_refl]
        exact SeqAt.EqAt.same _
      · rw [Dt.eqb]
        exact SeqAt.EqAt.of_refs hab (rc_tup I ih (by rw [Dt.dep] at hd; omega) hu (by rw [Dt.sim] at hs; exact hs) q1 q2 p1 p2).1
    | .lst l, .lst m =>
      have g1 := h1
      have g2 := h2
      simp only [Rep] at h1 h2
      obtain ⟨a, xs, rfl, q1, p1⟩ := h1
      obtain ⟨b, ys, rfl, q2, p2⟩ := h2
      cases r1; cases r2
      by_cases hab : a = b
      · subst hab
        rw [← Rep.inj I _ _ _ g1 g2, Dt.eqb_refl]
        exact SeqAt.EqAt.same _
      · rw [Dt.eqb]
        exact SeqAt.EqAt.of_refs hab (rc_lst I ih (by rw [Dt.dep] at hd; omega) hu (by rw [Dt.sim] at hs; exact hs) q1 q2 p1 p2).1
end
def rEqD (K : PySem.W.Frag) (ne : Bool) : R2 := fun x y H Q => ∃ d e, Rep K H d x ∧ Rep K H e y ∧ d.sim e = true ∧ 1 ≤ d.dep ∧ d.dep ≤ 60 ∧ Q (.bl (if ne then !d.eqb e else d.eqb e)) H
theorem eqD_at {X : Cx} {pins : List (Addr × Obj)} {σ : St} {H : Hp} {s : Shared} (I : Inv X pins σ H s) (hu : X.A.units + 64 < cLine) {d e : Dt} {x y : V} {u v : Value} (h1 : Rep X.K H d x) (h2 : Rep X.K H e y) (hs : d.sim e = true) (hd : 1 ≤ d.dep) (hd2 : d.dep ≤ 60) (r1 : RelV x u) (r2 : RelV y v) :
    SeqAt.RcAt X.A s u v (d.eqb e) ∧ SeqAt.RcNeAt X.A s u v (!d.eqb e) := by
  cases d with
  | tup l =>
    cases e with
    | tup m =>
      simp only [Rep] at h1 h2
      obtain ⟨a, xs, rfl, q1, p1⟩ := h1
      obtain ⟨b, ys, rfl, q2, p2⟩ := h2
      cases r1; cases r2
      rw [show Dt.eqb (.tup l) (.tup m) = Dt.eqbs l m from by rw [Dt.eqb]]
      have hd3 : Dt.deps l + 1 ≤ 60 := by rw [Dt.dep] at hd2; exact hd2
      exact rc_tup I (eq_at I (Dt.deps l)) (Nat.le_refl _) (by omega) (by rw [Dt.sim] at hs; exact hs) q1 q2 p1 p2
    | _ => exact absurd hs (by rw [Dt.sim] <;> simp)
  | lst l =>
    cases e with
    | lst m =>
      simp only [Rep] at h1 h2
      obtain ⟨a, xs, rfl, q1, p1⟩ := h1
      obtain ⟨b, ys, rfl, q2, p2⟩ := h2
      cases r1; cases r2
      rw [show Dt.eqb (.lst l) (.lst m) = Dt.eqbs l m from by rw [Dt.eqb]]
      have hd3 : Dt.deps l + 1 ≤ 60 := by rw [Dt.dep] at hd2; exact hd2
      exact rc_lst I (eq_at I (Dt.deps l)) (Nat.le_refl _) (by omega) (by rw [Dt.sim] at hs; exact hs) q1 q2 p1 p2
    | _ => exact absurd hs (by rw [Dt.sim] <;> simp)
  | non => exact absurd (show 1 ≤ 0 from hd) (by decide)
  | bl b => exact absurd (show 1 ≤ 0 from hd) (by decide)
  | int b => exact absurd (show 1 ≤ 0 from hd) (by decide)
  | str b => exact absurd (show 1 ≤ 0 from hd) (by decide)
theorem op_eqD {X : Cx} (hu : X.A.units + 64 < cLine) : OpR X (compareOp .Eq) (rEqD X.K false) := by
  intro pins s σ H x y v u Q I rx ry h
  obtain ⟨d, e, h1, h2, hs, hd, hd2, q⟩ := h
  exact (eqD_at I hu h1 h2 hs hd hd2 rx ry).1 _ _ _ _ ⟨.bl (d.eqb e), H, I, rfl, q⟩
theorem op_neD {X : Cx} (hu : X.A.units + 64 < cLine) : OpR X (compareOp .NotEq) (rEqD X.K true) := by
  intro pins s σ H x y v u Q I rx ry h
  obtain ⟨d, e, h1, h2, hs, hd, hd2, q⟩ := h
  exact (eqD_at I hu h1 h2 hs hd hd2 rx ry).2 _ _ _ _ ⟨.bl (!d.eqb e), H, I, rfl, q⟩
end L2
namespace L2
open PySem PySem.Spec PyProof.Rows
theorem rel_mem {scope : Scope} {env : Env} {y : Str} {k : NameKind} (h : (relabel scope env).names.lookup y = some k) (hk : k = .cell ∨ k = .free) (hc : ∀ p ∈ scope.names, p.2 ≠ .cell) : (y, NameKind.free) ∈ scope.names := by
  have m := PySem.mem_of_lookup h
  obtain ⟨⟨n, k'⟩, hm, e⟩ := List.mem_map.mp (show (y, k) ∈ scope.names.map _ from m)
  dsimp only at e
  split at e
  · rename_i q
    cases e
    have z : (k' == NameKind.free) = true := (Bool.and_eq_true_iff.mp (Bool.and_eq_true_iff.mp q).1).1
    rw [beq_iff_eq.mp z] at hm
    exact hm
  · cases e
    rcases hk with rfl | rfl
    · exact absurd rfl (hc _ hm)
    · exact hm
theorem pe_comp0 {X : Cx} {elt iter tg : Expr} {scope : Scope} (Nc : List Str) {wi : TI} {g : TG} {te : TE} {pos : Pos} (hc : X.calm = true) (hi : PI X tg iter wi)
    (hg : ∀ C s₀ H₀ ex pn, PG (X.cp Nc scope [] C s₀ H₀ ex pn) tg g) (he : ∀ C s₀ H₀ ex pn, PE (X.cp Nc scope [] C s₀ H₀ ex pn) elt te)
    (hnf : ∀ p ∈ scope.names, p.2 ≠ .free := by decide +kernel) (hcell : ∀ y ∈ scope.names, y.2 ≠ .cell := by decide +kernel) (hkind : scope.kind = .function := by rfl) (hnames : ∀ y ∈ scope.names, y.2 = .local → scope.names.lookup y.1 = some .local := by decide +kernel)
    (hs : ∀ x, foldedSetIterable iter X.env x = pure x := by intro _; rfl) : PCo X (.ListComp elt [⟨tg, iter, [], 0⟩] scope pos) scope iter (tComp (Nc.map fun _ => none) wi g te) :=
  pe_comp (cl := []) (Nc := Nc) hc hi hg he (by simp) (fun _ _ h => nomatch h) (fun y h => absurd rfl (hnf _ (h.elim (fun z => rel_mem z (.inl rfl) hcell) fun z => rel_mem z (.inr rfl) hcell)))
    (fun i y j _ h => by
      rw [List.getElem?_map] at h
      cases q : Nc[i]? with
      | none => rw [q] at h; cases h
      | some z => rw [q] at h; cases h) (closureFor_none hnf) hcell hkind hnames hs
theorem pe_comp1 {X : Cx} {elt iter tg : Expr} {scope : Scope} (Nl : List Str) (y : Str) (j : Nat) {c : Addr} {wi : TI} {g : TG} {te : TE} {pos : Pos} (hc : X.calm = true) (hi : PI X tg iter wi)
    (hg : ∀ C s₀ H₀ ex pn, PG (X.cp (Nl ++ [y]) scope [(y, c)] C s₀ H₀ ex pn) tg g) (he : ∀ C s₀ H₀ ex pn, PE (X.cp (Nl ++ [y]) scope [(y, c)] C s₀ H₀ ex pn) elt te)
    (hclos : closureFor scope X.env = pure [(y, c)]) (hy : X.env.cells.lookup y = some c) (hN : X.N[j]? = some y) (hk : X.env.kindOf y = some .cell) (hb : (relabel scope X.env).names.lookup y = some .cell)
    (h1 : ∀ p ∈ scope.names, p.2 = .free → p.1 = y := by decide +kernel) (hcell : ∀ y ∈ scope.names, y.2 ≠ .cell := by decide +kernel) (hkind : scope.kind = .function := by rfl) (hnames : ∀ y ∈ scope.names, y.2 = .local → scope.names.lookup y.1 = some .local := by decide +kernel)
    (hs : ∀ x, foldedSetIterable iter X.env x = pure x := by intro _; rfl) : PCo X (.ListComp elt [⟨tg, iter, [], 0⟩] scope pos) scope iter (tComp ((Nl.map fun _ => none) ++ [some j]) wi g te) := by
  have look : ∀ z d, List.lookup z [(y, c)] = some d → z = y ∧ d = c := fun z d h => by
    have m := PySem.mem_of_lookup h
    cases List.mem_singleton.mp m
    exact ⟨rfl, rfl⟩
  have self : List.lookup y [(y, c)] = some c := by simp
  refine pe_comp (cl := [(y, c)]) (Nc := Nl ++ [y]) hc hi hg he (by simp) (fun z d h => ?_) (fun z h => ?_) (fun i z j' e1 e2 => ?_) hclos hcell hkind hnames hs
  · obtain ⟨rfl, rfl⟩ := look z d h
    exact hy
  · have m := h.elim (fun q => rel_mem q (.inl rfl) hcell) fun q => rel_mem q (.inr rfl) hcell
    have e : z = y := h1 _ m rfl
    subst e
    exact ⟨c, self⟩
  · have hi : i = Nl.length := by
      by_cases hlt : i < Nl.length
      · rw [List.getElem?_append_left (by simpa using hlt), List.getElem?_map] at e2
        cases q : Nl[i]? with
        | none => rw [q] at e2; cases e2
        | some z => rw [q] at e2; cases e2
      · have := (List.getElem?_eq_some_iff.mp e1).1
        simp at this
        omega
    subst hi
    have a1 : (Nl ++ [y])[Nl.length]? = some y := by simp
    have a2 : ((Nl.map fun _ => (none : Option Nat)) ++ [some j])[Nl.length]? = some (some j) := by
      rw [List.getElem?_append_right (by simp)]
      simp
    rw [a1] at e1; cases e1
    rw [a2] at e2; cases e2
    exact ⟨hN, .inr (.inl hk), by rw [hk]; exact (fun q => nomatch q), .inl hb, fun d h => by rw [hy] at h; cases h; exact self⟩
structure Callee (P : Program) (w : World) (K : PySem.W.Frag) (mg : Str → Option Value) (base : Heap) (k : Nat) (x : Str) (ps : List Str) (sp : Sp) : Prop where
  ex : ∃ f fd, FnOk P w K mg base (CXe P w) k f fd ps sp ∧ mg x = some (.ref f) ∧ PySem.W.keepIn K (.ref f) = true ∧ Binds K fd ps []
section
variable {X : Cx} {k : Nat} {sp : Sp} {ps : List Str} {x : Str} {p pos : Pos} {e : Expr} {es : List Expr} {t : TA}
theorem pe_c {E : XK} (G : Callee X.prog X.w X.K X.mg X.base k x ps sp) (hr : Room k X.A) (hx : Passes (CXe X.prog X.w) X E) (ha : PA X (e :: es) t) (hg : Gl X x := by rfl)
    (hdb : (x == ("__debug__" : Str)) = false := by decide) (he : starEach (e :: es) X.env = (false, eval e X.env) :: starEach es X.env := by rfl) (hpl : (backTo pos (starEach es X.env)).any (·.1) = false := by rfl) :
    PE X (.Call (.Name x p) (e :: es) [] pos) (tCall sp [] E t) := by
  obtain ⟨f, fd, F, m, kp, b⟩ := G.ex
  exact pe_call F hr hg m kp b .nil hx ha hdb he hpl
end
theorem np {P : Program} {w : World} {X : Cx} : Passes (CXe P w) X E0 := passE0
end L2
namespace L2
open PySem PySem.Spec PyProof.Rows
def tMo (t : TE) : TE := fun σ H Q => ∃ Q0 : VK, t σ H Q0 ∧ ∀ v H', Q0 v H' → Q v H'
theorem PE.mo {X : Cx} {e : Expr} {t : TE} (h : PE X e t) : PE X e (tMo t) := fun pins s σ H Q I ⟨Q0, h0, k⟩ =>
  thn (h pins s σ H Q0 I h0) fun u s1 ⟨v, H1, I1, r, q⟩ => ⟨v, H1, I1, r, k v H1 q⟩
def FR (n : Nat) (g : TG) (tb : TS) (D : Ends) (σ : St) (H : Hp) : Prop := ∃ Pv : Nat → St → Hp → Prop, Pv 0 σ H ∧ (∀ i σ H, i < n → Pv i σ H → g (.int i) σ H fun σ2 H2 => tb { D with nx := Pv (i + 1), ct := Pv (i + 1), bk := D.nx } σ2 H2) ∧ ∀ σ H, Pv n σ H → D.nx σ H
def tForR (te : TE) (g : TG) (tb : TS) : TS := fun D σ H => te σ H fun v H1 => ∃ j : Int, v = .int j ∧ -(2 ^ 62) ≤ j ∧ j < 2 ^ 62 ∧ FR j.toNat g tb D σ H1
section
variable {X : Cx} {tg a : Expr} {body : List Stmt} {te : TE} {g : TG} {tb : TS} {p pos pos' : Pos}
theorem pi_rangeM (hg : Gl X "range") (hm : X.mg "range" = none) (ha : PE X a te) (hs : starEach [a] X.env = [(false, eval a X.env)]) : PI X tg (.Call (.Name "range" p) [a] [] pos) (iRng1 (tCons (tMo te) tNil)) := pi_range1 hg hm (pa_cons ha.mo pa_nil (by rw [hs]; rfl)) hs
theorem ps_forR (hc : X.calm = true) (hp : PassesOwn (model X.prog X.w) X.A X.env X.xe) (hm : X.mg "range" = none) (ha : PE X a te) (hgt : PG X tg g) (hb : PSs X body tb) (hg : Gl X "range" := by rfl) (hs : starEach [a] X.env = [(false, eval a X.env)] := by rfl) :
    PS X (.For tg (.Call (.Name "range" p) [a] [] pos') body [] pos) (tForR te g tb) := by
  intro pins s σ H D I h
  refine ps_for hp hc (pi_rangeM hg hm ha hs) hgt hb (by intro _; rfl) pins s σ H D I ?_
  refine ⟨_, h, fun v H1 ⟨j, e, b1, b2, Pv, p0, pt, pd⟩ => ⟨j, by rw [e], b1, b2, ?_⟩⟩
  exact for_range (lo := 0) (n := j.toNat) Pv p0 (fun i σ' H' hi q => by rw [show (0 : Int) + (i : Int) = (i : Int) from Int.zero_add _]; exact pt i σ' H' hi q) pd
end
def FL (xs : List V) (at_ : Hp → Prop) (g : TG) (tb : TS) (D : Ends) (σ : St) (H : Hp) : Prop := ∃ Pv : Nat → St → Hp → Prop, Pv 0 σ H ∧ (∀ i σ H, i ≤ xs.length → Pv i σ H → at_ H) ∧ (∀ i x σ H, xs[i]? = some x → Pv i σ H → g x σ H fun σ2 H2 => tb { D with nx := Pv (i + 1), ct := Pv (i + 1), bk := D.nx } σ2 H2) ∧ ∀ σ H, Pv xs.length σ H → D.nx σ H
def tForL (K : PySem.W.Frag) (te : TE) (g : TG) (tb : TS) : TS := fun D σ H => te σ H fun v H1 => ∃ a xs, v = .ref a ∧ SqL K H1 a xs ∧ FL xs (fun H => SqL K H a xs) g tb D σ H1
def tForT (K : PySem.W.Frag) (te : TE) (g : TG) (tb : TS) : TS := fun D σ H => te σ H fun v H1 => ∃ a xs, v = .ref a ∧ SqT K H1 a xs ∧ FL xs (fun H => SqT K H a xs) g tb D σ H1
section
variable {X : Cx} {tg l : Expr} {body : List Stmt} {te : TE} {g : TG} {tb : TS} {p pos pos' : Pos}
theorem ps_forL (hc : X.calm = true) (hp : PassesOwn (model X.prog X.w) X.A X.env X.xe) (hl : PE X l te) (hgt : PG X tg g) (hb : PSs X body tb) (hs : ∀ x, foldedSetIterable l X.env x = pure x := by intro _; rfl) :
    PS X (.For tg l body [] pos) (tForL X.K te g tb) := by
  intro pins s σ H D I h
  refine ps_for hp hc (pi_list hl.mo) hgt hb hs pins s σ H D I ?_
  refine ⟨_, h, fun v H1 ⟨a, xs, e, q, Pv, p0, pl, pt, pd⟩ => ⟨a, e, ⟨xs, q⟩, ?_⟩⟩
  exact for_list (xs := xs) Pv p0 pl pt pd
end
def CO (n : Nat) (src : Nat → Hp → V → Prop) (st : Hp → Prop) (js : List (Option Nat)) (g : TG) (tl : TE) (σ : St) (H1 : Hp) (Q : VK) : Prop := ∀ D, H1 D = none → ∃ Pv : Nat → List V → St → Hp → Prop, Pv 0 [] (cσ js σ) (upd H1 D (.lst [])) ∧ (∀ i ys σc H, i ≤ n → Pv i ys σc H → st H) ∧
  (∀ i ys σc H x, i < n → Pv i ys σc H → src i H x → g x σc H fun σ2 H2 => tl σ2 H2 fun y H3 => H3 D = some (.lst ys) ∧ ys.length < sizeLine ∧ Pv (i + 1) (ys ++ [y]) σ2 (upd H3 D (.lst (ys ++ [y])))) ∧ ∀ ys σc H, Pv n ys σc H → H D = some (.lst ys) ∧ Q (.ref D) H
def tMoG (g : TG) : TG := fun v σ H Q => ∃ Q0 : St → Hp → Prop, g v σ H Q0 ∧ ∀ σ' H', Q0 σ' H' → Q σ' H'
theorem CO.run {n : Nat} {src : Nat → Hp → V → Prop} {st : Hp → Prop} {js : List (Option Nat)} {g : TG} {tl : TE} {σ : St} {H1 : Hp} {Q : VK} {J : It} (h : CO n src st js g tl σ H1 Q) (hgo : ∀ i H, i < n → st H → J.go i H) (hst : ∀ H, st H → J.stop n H) (hy : ∀ i H x H', i < n → st H → J.yld i H x H' → H' = H ∧ src i H x) :
    ∀ D, H1 D = none → ∃ W : Nat → Nat → List V → St → Hp → Prop, (∃ m, W 0 m [] (cσ js σ) (upd H1 D (.lst []))) ∧
    ∀ i m ys σc H, W i m ys σc H → (H D = some (.lst ys) ∧ J.stop i H ∧ Q (.ref D) H) ∨ (J.go i H ∧ ∀ x H', J.yld i H x H' → tMoG g x σc H' fun σ2 H2 => tMo tl σ2 H2 fun y H3 => H3 D = some (.lst ys) ∧ ys.length < sizeLine ∧ ∃ m', m' < m ∧ W (i + 1) m' (ys ++ [y]) σ2 (upd H3 D (.lst (ys ++ [y])))) := by
  intro D hD
  obtain ⟨Pv, p0, ps, pt, pd⟩ := h D hD
  refine ⟨fun i m ys σc H => m = n - i ∧ i ≤ n ∧ Pv i ys σc H, ⟨n, by simp, Nat.zero_le _, p0⟩, ?_⟩
  rintro i m ys σc H ⟨rfl, hi, p⟩
  have s0 := ps i ys σc H hi p
  by_cases hlt : i < n
  · refine .inr ⟨hgo i H hlt s0, fun x H' y => ?_⟩
    obtain ⟨rfl, hx⟩ := hy i H x H' hlt s0 y
    have z := pt i ys σc H' x hlt p hx
    exact ⟨_, z, fun σ2 H2 z2 => ⟨_, z2, fun y3 H3 ⟨a1, a2, a3⟩ => ⟨a1, a2, n - (i + 1), by omega, rfl, hlt, a3⟩⟩⟩
  · have e : i = n := by omega
    subst e
    obtain ⟨a1, a2⟩ := pd ys σc H p
    exact .inl ⟨a1, hst H s0, a2⟩
def tCoR (js : List (Option Nat)) (te : TE) (g : TG) (tl : TE) : TE := fun σ H Q => te σ H fun v H1 => ∃ j : Int, v = .int j ∧ -(2 ^ 62) ≤ j ∧ j < 2 ^ 62 ∧ CO j.toNat (fun i _ x => x = .int i) (fun _ => True) js g tl σ H1 Q
def tCoL (K : PySem.W.Frag) (js : List (Option Nat)) (te : TE) (g : TG) (tl : TE) : TE := fun σ H Q => te σ H fun v H1 => ∃ a xs, v = .ref a ∧ SqL K H1 a xs ∧ CO xs.length (fun i _ x => xs[i]? = some x) (fun H => SqL K H a xs) js g tl σ H1 Q
def tCoT (K : PySem.W.Frag) (js : List (Option Nat)) (te : TE) (g : TG) (tl : TE) : TE := fun σ H Q => te σ H fun v H1 => ∃ a xs, v = .ref a ∧ SqT K H1 a xs ∧ CO xs.length (fun i _ x => xs[i]? = some x) (fun H => SqT K H a xs) js g tl σ H1 Q
theorem PG.mo {X : Cx} {tg : Expr} {g : TG} (h : PG X tg g) : PG X tg (tMoG g) := fun pins s σ H v u Q I r ⟨Q0, h0, k⟩ =>
  thn (h pins s σ H v u Q0 I r h0) fun _ s1 ⟨σ1, H1, I1, q⟩ => ⟨σ1, H1, I1, k σ1 H1 q⟩
theorem PE.of {X : Cx} {e : Expr} {t t' : TE} (h : PE X e t') (k : ∀ σ H Q, t σ H Q → t' σ H Q) : PE X e t := fun pins s σ H Q I q => h pins s σ H Q I (k σ H Q q)
section
variable {X : Cx} {tg a elt : Expr} {te tl : TE} {g : TG} {p pos pos' : Pos} {scope : Scope} {cl : List (Str × Addr)} {Nc : List Str} {js : List (Option Nat)}
theorem coR (hm : X.mg "range" = none) (ha : PE X a te) (hp : ∀ (wi : TI), PI X tg (.Call (.Name "range" p) [a] [] pos') wi → PCo X (.ListComp elt [⟨tg, .Call (.Name "range" p) [a] [] pos', [], 0⟩] scope pos) scope (.Call (.Name "range" p) [a] [] pos') (tComp js wi (tMoG g) (tMo tl)))
    (hg : Gl X "range" := by rfl) (hs : starEach [a] X.env = [(false, eval a X.env)] := by rfl) : PCo X (.ListComp elt [⟨tg, .Call (.Name "range" p) [a] [] pos', [], 0⟩] scope pos) scope (.Call (.Name "range" p) [a] [] pos') (tCoR js te g tl) := by
  refine (hp _ (pi_rangeM hg hm ha hs)).of fun σ H Q h => ?_
  refine ⟨_, h, fun v H1 ⟨j, e, b1, b2, c⟩ => ⟨j, by rw [e], b1, b2, ?_⟩⟩
  refine CO.run (J := Itr 0 j.toNat) c (fun _ _ h _ => h) (fun _ _ => Nat.le_refl _) fun i H x H' _ _ y => ⟨y.1, ?_⟩
  rw [y.2, Int.zero_add]
theorem coL (ha : PE X a te) (hp : ∀ (wi : TI), PI X tg a wi → PCo X (.ListComp elt [⟨tg, a, [], 0⟩] scope pos) scope a (tComp js wi (tMoG g) (tMo tl))) : PCo X (.ListComp elt [⟨tg, a, [], 0⟩] scope pos) scope a (tCoL X.K js te g tl) := by
  refine (hp _ (pi_list ha.mo)).of fun σ H Q h => ?_
  refine ⟨_, h, fun v H1 ⟨b, xs, e, q, c⟩ => ⟨b, e, ⟨xs, q⟩, ?_⟩⟩
  refine CO.run (J := Itl X.K b) c (fun i H hi z => ⟨xs, xs[i], z, by simp [hi]⟩) (fun H z => ⟨xs, z, Nat.le_refl _⟩) fun i H x H' _ z y => ⟨y.1, y.2 xs z⟩
theorem coT (ha : PE X a te) (hp : ∀ (wi : TI), PI X tg a wi → PCo X (.ListComp elt [⟨tg, a, [], 0⟩] scope pos) scope a (tComp js wi (tMoG g) (tMo tl))) : PCo X (.ListComp elt [⟨tg, a, [], 0⟩] scope pos) scope a (tCoT X.K js te g tl) := by
  refine (hp _ (pi_tup ha.mo)).of fun σ H Q h => ?_
  refine ⟨_, h, fun v H1 ⟨b, xs, e, q, c⟩ => ⟨b, e, ⟨xs, q⟩, ?_⟩⟩
  refine CO.run (J := Itt X.K b) c (fun i H hi z => ⟨xs, xs[i], z, by simp [hi]⟩) (fun H z => ⟨xs, z, Nat.le_refl _⟩) fun i H x H' _ z y => ⟨y.1, y.2 xs z⟩
end
def WH (c : TT) (tb : TS) (D : Ends) (σ : St) (H : Hp) : Prop := ∃ (Pv : St → Hp → Prop) (μ : St → Hp → Nat), Pv σ H ∧ ∀ σ H, Pv σ H → c σ H fun b H1 => if b = true then tb { D with nx := fun σ' H' => Pv σ' H' ∧ μ σ' H' < μ σ H, ct := fun σ' H' => Pv σ' H' ∧ μ σ' H' < μ σ H, bk := D.nx } σ H1 else D.nx σ H1
def tMoT (t : TT) : TT := fun σ H Q => ∃ Q0 : Bool → Hp → Prop, t σ H Q0 ∧ ∀ v H', Q0 v H' → Q v H'
theorem PT.mo {X : Cx} {e : Expr} {t : TT} (h : PT X e t) : PT X e (tMoT t) := fun pins s σ H Q I ⟨Q0, h0, k⟩ => thn (h pins s σ H Q0 I h0) fun u s1 ⟨H1, I1, q⟩ => ⟨H1, I1, k u H1 q⟩
theorem ps_wh {X : Cx} {c : Expr} {body : List Stmt} {tc : TT} {tb : TS} {pos : Pos} (hp : PassesOwn (model X.prog X.w) X.A X.env X.xe) (hc : PT X c tc) (hb : PSs X body tb) : PS X (.While c body [] pos) (WH tc tb) := by
  intro pins s σ H D I ⟨Pv, μ, h0, hs⟩
  refine ps_while hp hc.mo hb pins s σ H D I (while_by Pv μ h0 (fun σ H q => ⟨_, hs σ H q, fun _ _ z => z⟩) fun σ H Q Q' k ⟨Q0, h0, k0⟩ => ⟨Q0, h0, fun b H1 z => k b H1 (k0 b H1 z)⟩)
end L2
namespace L2
open PySem PySem.Spec PyProof.Rows
theorem kit_int_int (K : PySem.W.Frag) : PySem.W.kitOne K (.type "int") (.type "int") = some true := by
  unfold PySem.W.kitOne
  rw [if_pos (by decide)]
theorem kit_tup_tup (K : PySem.W.Frag) : PySem.W.kitOne K (.type "tuple") (.type "tuple") = some true := by
  unfold PySem.W.kitOne
  rw [if_pos (by decide)]
theorem kit_int_bool (K : PySem.W.Frag) : PySem.W.kitOne K (.type "int") (.type "bool") = some false := by
  unfold PySem.W.kitOne
  rw [if_neg (by decide)]
  show (if PySem.W.kitMeta "bool" = true then (fastBuiltinMro "int").map (·.contains (.type "bool")) else none) = some false
  decide +kernel
section
variable {K : PySem.W.Frag} {H : Hp} {Q : VK}
theorem isi_ii {a : Int} (q : Q (.bl true) H) : rIsi K [.int a, .ty "int"] H Q := ⟨_, _, _, _, _, rfl, rfl, .of (.int a), kit_int_int K, q⟩
theorem isi_ib {a : Int} (q : Q (.bl false) H) : rIsi K [.int a, .ty "bool"] H Q := ⟨_, _, _, _, _, rfl, rfl, .of (.int a), kit_int_bool K, q⟩
end
theorem gcd_step {x y : Int} (hx : 0 ≤ x) (hy : 0 < y) : Int.gcd y (x % y) = Int.gcd x y := by
  obtain ⟨m, rfl⟩ := Int.eq_ofNat_of_zero_le hx
  obtain ⟨n, rfl⟩ := Int.eq_ofNat_of_zero_le (Int.le_of_lt hy)
  rw [← Int.natCast_emod]
  show Nat.gcd n (m % n) = Nat.gcd m n
  rw [Nat.gcd_comm n, ← Nat.gcd_rec, Nat.gcd_comm]
theorem gcd_end {x : Int} (hx : 0 ≤ x) : ((Int.gcd x 0 : Nat) : Int) = x := by
  rw [Int.gcd_zero_right]
  omega
theorem sz_le (n : Nat) (h : n ≤ 1000) : n ≤ sizeLine := Nat.le_of_lt (small1000 h)
theorem same_upd {H : Hp} {p : Addr} {o : HO} (h : H p = none) : Same H (upd H p o) := fun b u e => by rw [upd_ne (ne_of_none e h)]; exact e
theorem CO.pure1 {n : Nat} {src : Nat → Hp → V → Prop} {st : Hp → Prop} {js : List (Option Nat)} {tl : TE} {σ : St} {H1 : Hp} {Q : VK} (f : Nat → V) (hn : n ≤ 1000) (hst : ∀ H, Same H1 H → st H)
    (hel : ∀ i H x (R : VK), i < n → Same H1 H → src i H x → (∀ y H3, y = f i → Same H H3 → R y H3) → tl (some x :: cσ js σ) H R)
    (hq : ∀ D H, Same H1 H → H1 D = none → H D = some (.lst ((List.range n).map f)) → Q (.ref D) H) : CO n src st (none :: js) (gName 0) tl σ H1 Q := by
  intro D hD
  refine ⟨fun i ys σc H => (∃ r, σc = r :: cσ js σ) ∧ Same H1 H ∧ H D = some (.lst ys) ∧ ys = (List.range i).map f, ⟨⟨none, rfl⟩, same_upd hD, upd_same, rfl⟩, fun i ys σc H _ h => hst H h.2.1, ?_, ?_⟩
  · rintro i ys σc H x hi ⟨⟨r, rfl⟩, sm, hd, rfl⟩ hx
    refine hel i H x _ hi sm hx fun y H3 hy s3 => ?_
    refine ⟨s3 _ _ hd, small1000 (by simp; omega), ⟨_, rfl⟩, ?_, upd_same, ?_⟩
    · intro b o z
      rw [upd_ne (ne_of_none z hD)]
      exact s3 _ _ (sm _ _ z)
    · rw [hy, List.range_succ, List.map_append]
      rfl
  · rintro ys σc H ⟨_, sm, hd, rfl⟩
    exact ⟨hd, hq D H sm hD hd⟩
theorem neD_same {K : PySem.W.Frag} {H : Hp} {x y : V} {Q : VK} (d : Dt) (h1 : Rep K H d x) (h2 : Rep K H d y) (a : 1 ≤ d.dep) (b : d.dep ≤ 60) (q : Q (.bl false) H) : rEqD K true x y H Q := ⟨d, d, h1, h2, d.sim_refl, a, b, by rw [d.eqb_refl]; exact q⟩
theorem gcd_abs (a b : Int) : Int.gcd (if a < 0 then -a else a) (if b < 0 then -b else b) = Int.gcd a b := by
  split <;> split <;> simp
end L2
namespace Mt
structure Red (t b u v : Int) : Prop where
  pos : 1 ≤ v
  low : Int.gcd u v = 1
  eq : u * b = t * v
  ut : u.natAbs ≤ t.natAbs
  vb : v.natAbs ≤ b.natAbs
theorem red_mk {t b g u v : Int} (hg : g ≠ 0) (ht : t = g * u) (hb : b = g * v) (hv : 0 < v) (hc : Int.gcd u v = 1) : Red t b u v := by
  have h1 : 1 ≤ g.natAbs := by omega
  refine ⟨hv, hc, ?_, ?_, ?_⟩
  · rw [hb, ht, ← Int.mul_assoc, Int.mul_comm u g]
  · rw [ht, Int.natAbs_mul]
    exact Nat.le_mul_of_pos_left _ h1
  · rw [hb, Int.natAbs_mul]
    exact Nat.le_mul_of_pos_left _ h1
theorem gcd_parts {t b : Int} (hb : b ≠ 0) : ∃ u v : Int, t = (Int.gcd t b : Nat) * u ∧ b = (Int.gcd t b : Nat) * v ∧ Int.gcd u v = 1 ∧ 0 < Int.gcd t b := by
  have hp : 0 < Int.gcd t b := Int.gcd_pos_of_ne_zero_right t hb
  refine ⟨t / (Int.gcd t b : Nat), b / (Int.gcd t b : Nat), ?_, ?_, Int.gcd_ediv_gcd_ediv_gcd hp, hp⟩
  · exact (Int.mul_ediv_cancel' (Int.gcd_dvd_left t b)).symm
  · exact (Int.mul_ediv_cancel' (Int.gcd_dvd_right t b)).symm
theorem fdiv_part {x g u : Int} (hg : g ≠ 0) (h : x = g * u) : x.fdiv g = u := by rw [h, Int.mul_fdiv_cancel_left _ hg]
theorem red_pos {t b : Int} (hb : 0 < b) : Red t b (t.fdiv (Int.gcd t b : Nat)) (b.fdiv (Int.gcd t b : Nat)) := by
  obtain ⟨u, v, h1, h2, hc, hp⟩ := gcd_parts (t := t) (show b ≠ 0 by omega)
  have hg : ((Int.gcd t b : Nat) : Int) ≠ 0 := by omega
  rw [fdiv_part hg h1, fdiv_part hg h2]
  refine red_mk hg h1 h2 ?_ hc
  have hn : (0 : Int) < (Int.gcd t b : Nat) := by omega
  rcases Int.lt_trichotomy v 0 with z | z | z
  · have := Int.mul_neg_of_pos_of_neg hn z
    omega
  · rw [z, Int.mul_zero] at h2; omega
  · exact z
theorem gcd_le {t b : Int} (hb : b ≠ 0) : (Int.gcd t b) ≤ b.natAbs := by
  have h : (Int.gcd t b) ∣ b.natAbs := Nat.gcd_dvd_right _ _
  exact Nat.le_of_dvd (by omega) h
end Mt
namespace Mt
structure Fr (t b : Int) : Prop where
  pos : 1 ≤ b
  low : Int.gcd t b = 1
structure Is (t b u v : Int) : Prop where
  fr : Fr u v
  eq : u * b = t * v
theorem cop {a b : Int} : Int.gcd a b = 1 ↔ Nat.Coprime a.natAbs b.natAbs := Iff.rfl
theorem cop_mul_right {k a b : Int} (h1 : Int.gcd k a = 1) (h2 : Int.gcd k b = 1) : Int.gcd k (a * b) = 1 := by
  rw [cop, Int.natAbs_mul]
  exact Nat.Coprime.mul_right h1 h2
theorem cop_dvd_left {k l a : Int} (h : Int.gcd k a = 1) (d : l ∣ k) : Int.gcd l a = 1 := by
  rw [cop] at *
  exact Nat.Coprime.coprime_dvd_left (Int.natAbs_dvd_natAbs.mpr d) h
theorem cop_dvd_right {k l a : Int} (h : Int.gcd a k = 1) (d : l ∣ k) : Int.gcd a l = 1 := by
  rw [Int.gcd_comm] at *
  exact cop_dvd_left h d
theorem cop_add_mul {a b c : Int} (h : Int.gcd a c = 1) : Int.gcd (a + b * c) c = 1 := by
  rw [Int.gcd_eq_one_iff] at *
  intro k h1 h2
  refine h k ?_ h2
  have h3 : k ∣ b * c := Int.dvd_trans h2 ⟨b, Int.mul_comm b c⟩
  have := Int.dvd_sub h1 h3
  rw [Int.add_sub_cancel] at this
  exact this
theorem cop_mul_left {k a b : Int} (h1 : Int.gcd a k = 1) (h2 : Int.gcd b k = 1) : Int.gcd (a * b) k = 1 := by
  rw [Int.gcd_comm] at *
  exact cop_mul_right h1 h2
theorem parts {t b : Int} (hb : b ≠ 0) : ∃ u v g : Int, g = (Int.gcd t b : Nat) ∧ 0 < g ∧ t = g * u ∧ b = g * v ∧ Int.gcd u v = 1 ∧ t.fdiv g = u ∧ b.fdiv g = v := by
  obtain ⟨u, v, h1, h2, hc, hp⟩ := gcd_parts (t := t) hb
  have hg : ((Int.gcd t b : Nat) : Int) ≠ 0 := by omega
  exact ⟨u, v, _, rfl, by omega, h1, h2, hc, fdiv_part hg h1, fdiv_part hg h2⟩
theorem pos_of_mul {g v b : Int} (hg : 0 < g) (h : b = g * v) (hb : 0 < b) : 0 < v := by
  rcases Int.lt_trichotomy v 0 with z | z | z
  · have := Int.mul_neg_of_pos_of_neg hg z; omega
  · rw [z, Int.mul_zero] at h; omega
  · exact z
theorem le_mul1 {g v : Int} (hg : 0 < g) (hv : 0 < v) : g ≤ g * v := by
  have h : g * 1 ≤ g * v := Int.mul_le_mul_of_nonneg_left (by omega) (by omega)
  rw [Int.mul_one] at h
  exact h
theorem plus_ok {a0 a1 b0 b1 : Int} (ha : Fr a0 a1) (hb : Fr b0 b1) :
    let p : Int := (Int.gcd a1 b1 : Nat)
    let t := a0 * b1.fdiv p + b0 * a1.fdiv p
    let r : Int := (Int.gcd t p : Nat)
    Is (a0 * b1 + b0 * a1) (a1 * b1) (t.fdiv r) (a1.fdiv p * b1.fdiv r) ∧ 0 < p ∧ 0 < r ∧ p ≤ a1 ∧ p ≤ b1 ∧ r ≤ p ∧ (b1.fdiv p).natAbs ≤ b1.natAbs ∧ (a1.fdiv p).natAbs ≤ a1.natAbs ∧ (b1.fdiv r).natAbs ≤ b1.natAbs := by
  intro p t r
  have hb1 : b1 ≠ 0 := by have := hb.pos; omega
  obtain ⟨A, B, g, eg, hg, e1, e2, cAB, f1, f2⟩ := parts (t := a1) hb1
  have ep : p = g := eg.symm
  have et : t = a0 * B + b0 * A := by show a0 * b1.fdiv p + b0 * a1.fdiv p = _; rw [ep, f1, f2]
  have hp0 : p ≠ 0 := by omega
  obtain ⟨T, D, e, ee, he, g1, g2, cTD, k1, k2⟩ := parts (t := t) hp0
  have er : r = e := ee.symm
  have hA : 0 < A := pos_of_mul hg e1 (by have := ha.pos; omega)
  have hB : 0 < B := pos_of_mul hg e2 (by have := hb.pos; omega)
  have hD : 0 < D := pos_of_mul he g2 (by omega)
  -- b1 = e * (D * B)
  have e3 : b1 = e * (D * B) := by rw [e2, ← ep, g2, Int.mul_assoc]
  have f3 : b1.fdiv r = D * B := by rw [er]; exact fdiv_part (by omega) e3
  have f4 : a1.fdiv p = A := by rw [ep]; exact f1
  have f5 : t.fdiv r = T := by rw [er]; exact k1
  -- T is prime to A, B, D
  have cA : Int.gcd t A = 1 := by
    rw [et]
    refine cop_add_mul (cop_mul_left (cop_dvd_right ha.low ⟨g, by rw [Int.mul_comm]; exact e1⟩) ?_)
    rw [Int.gcd_comm]; exact cAB
  have cB : Int.gcd t B = 1 := by
    rw [et, Int.add_comm]
    exact cop_add_mul (cop_mul_left (cop_dvd_right hb.low ⟨g, by rw [Int.mul_comm]; exact e2⟩) cAB)
  have dT : T ∣ t := ⟨e, by rw [Int.mul_comm]; exact g1⟩
  refine ⟨⟨⟨?_, ?_⟩, ?_⟩, by omega, by omega, ?_, ?_, ?_, ?_, ?_, ?_⟩
  · rw [f3, f4]
    have := Int.mul_pos hA (Int.mul_pos hD hB)
    omega
  · rw [f3, f4, f5]
    exact cop_mul_right (cop_dvd_left cA dT) (cop_mul_right cTD (cop_dvd_left cB dT))
  · rw [f3, f4, f5]
    -- T * (a1 * b1) = (a0 * b1 + b0 * a1) * (A * (D * B))
    have q1 : a0 * b1 + b0 * a1 = g * (e * T) := by
      rw [← g1, et, e1, e2, Int.mul_add]
      congr 1
      · rw [← Int.mul_assoc, Int.mul_comm a0 g, Int.mul_assoc]
      · rw [← Int.mul_assoc, Int.mul_comm b0 g, Int.mul_assoc]
    rw [q1, e3, e1]
    simp only [Int.mul_assoc, Int.mul_comm, Int.mul_left_comm]
  · rw [ep, e1]
    exact le_mul1 (by omega) (by omega)
  · rw [ep, e2]
    exact le_mul1 (by omega) (by omega)
  · rw [er, g2]
    exact le_mul1 (by omega) (by omega)
  · rw [ep, f2, e2, Int.natAbs_mul]
    exact Nat.le_mul_of_pos_left _ (by omega)
  · rw [f4, e1, Int.natAbs_mul]
    exact Nat.le_mul_of_pos_left _ (by omega)
  · rw [f3, e3, Int.natAbs_mul e]
    exact Nat.le_mul_of_pos_left _ (by omega)
theorem times_ok {a0 a1 b0 b1 : Int} (ha : Fr a0 a1) (hb : Fr b0 b1) :
    let f : Int := (Int.gcd a0 b1 : Nat)
    let s : Int := (Int.gcd b0 a1 : Nat)
    Is (a0 * b0) (a1 * b1) (a0.fdiv f * b0.fdiv s) (a1.fdiv s * b1.fdiv f) ∧ 0 < f ∧ 0 < s ∧ f ≤ b1 ∧ s ≤ a1 ∧ (a0.fdiv f).natAbs ≤ a0.natAbs ∧ (b0.fdiv s).natAbs ≤ b0.natAbs ∧ (a1.fdiv s).natAbs ≤ a1.natAbs ∧ (b1.fdiv f).natAbs ≤ b1.natAbs := by
  intro f s
  obtain ⟨A, B, g, eg, hg, e1, e2, cAB, f1, f2⟩ := parts (t := a0) (b := b1) (by have := hb.pos; omega)
  obtain ⟨C, D, k, ek, hk, e3, e4, cCD, f3, f4⟩ := parts (t := b0) (b := a1) (by have := ha.pos; omega)
  have ef : f = g := eg.symm
  have es : s = k := ek.symm
  rw [ef, es, f1, f2, f3, f4]
  have hB : 0 < B := pos_of_mul hg e2 (by have := hb.pos; omega)
  have hD : 0 < D := pos_of_mul hk e4 (by have := ha.pos; omega)
  have dA : A ∣ a0 := ⟨g, by rw [Int.mul_comm]; exact e1⟩
  have dB : B ∣ b1 := ⟨g, by rw [Int.mul_comm]; exact e2⟩
  have dC : C ∣ b0 := ⟨k, by rw [Int.mul_comm]; exact e3⟩
  have dD : D ∣ a1 := ⟨k, by rw [Int.mul_comm]; exact e4⟩
  refine ⟨⟨⟨?_, ?_⟩, ?_⟩, hg, hk, ?_, ?_, ?_, ?_, ?_, ?_⟩
  · have := Int.mul_pos hD hB; omega
  · exact cop_mul_right (cop_mul_left (cop_dvd_left (cop_dvd_right ha.low dD) dA) cCD) (cop_mul_left cAB (cop_dvd_left (cop_dvd_right hb.low dB) dC))
  · rw [e1, e2, e3, e4]
    simp only [Int.mul_assoc, Int.mul_comm, Int.mul_left_comm]
  · rw [e2]; exact le_mul1 (by omega) (by omega)
  · rw [e4]; exact le_mul1 (by omega) (by omega)
  · rw [e1, Int.natAbs_mul]; exact Nat.le_mul_of_pos_left _ (by omega)
  · rw [e3, Int.natAbs_mul]; exact Nat.le_mul_of_pos_left _ (by omega)
  · rw [e4, Int.natAbs_mul]; exact Nat.le_mul_of_pos_left _ (by omega)
  · rw [e2, Int.natAbs_mul]; exact Nat.le_mul_of_pos_left _ (by omega)
theorem Red.is {t b u v : Int} (h : Red t b u v) : Is t b u v := ⟨⟨h.pos, h.low⟩, h.eq⟩
end Mt
namespace Mt
theorem Is.rat {t b u v : Int} (h : Is t b u v) (hb : b ≠ 0) : u = (Rat.divInt t b).num ∧ v = ((Rat.divInt t b).den : Int) := by
  have hv := h.fr.pos
  have hn : v.toNat ≠ 0 := by omega
  have hc : (v.toNat : Int) = v := Int.toNat_of_nonneg (by omega)
  have hco : u.natAbs.Coprime v.toNat := by
    have := h.fr.low
    have e : v.natAbs = v.toNat := by omega
    rw [cop, e] at this
    exact this
  have e1 := Rat.num_divInt_den ⟨u, v.toNat, hn, hco⟩
  dsimp only at e1
  rw [hc] at e1
  have e2 : Rat.divInt t b = Rat.divInt u v := (Rat.divInt_eq_divInt_iff hb (by omega)).mpr (by rw [h.eq])
  rw [e2, e1]
  exact ⟨rfl, hc.symm⟩
theorem Is.dvd {t b u v : Int} (h : Is t b u v) : v ∣ b ∧ u ∣ t := by
  have e := h.eq
  have c : Nat.Coprime u.natAbs v.natAbs := h.fr.low
  constructor
  · have d : v.natAbs ∣ u.natAbs * b.natAbs := by
      rw [← Int.natAbs_mul, e, Int.natAbs_mul]
      exact Nat.dvd_mul_left _ _
    exact Int.natAbs_dvd_natAbs.mp (c.symm.dvd_of_dvd_mul_left d)
  · have d : u.natAbs ∣ v.natAbs * t.natAbs := by
      rw [← Int.natAbs_mul, Int.mul_comm, ← e, Int.natAbs_mul]
      exact Nat.dvd_mul_right _ _
    exact Int.natAbs_dvd_natAbs.mp (c.dvd_of_dvd_mul_left d)
theorem fr_rat (a : Rat) : Fr a.num a.den := ⟨by have := a.den_nz; omega, by rw [cop]; exact a.reduced⟩
theorem den_pos (a : Rat) : (0 : Int) < a.den := by have := a.den_nz; omega
theorem den_ne (a : Rat) : (a.den : Int) ≠ 0 := by have := a.den_nz; omega
theorem rat_add (a b : Rat) : Rat.divInt (a.num * b.den + b.num * a.den) (a.den * b.den) = a + b := by
  rw [← Rat.divInt_add_divInt _ _ (den_ne a) (den_ne b), Rat.num_divInt_den, Rat.num_divInt_den]
theorem rat_mul (a b : Rat) : Rat.divInt (a.num * b.num) (a.den * b.den) = a * b := by
  rw [← Rat.divInt_mul_divInt, Rat.num_divInt_den, Rat.num_divInt_den]
theorem rat_sub (a b : Rat) : Rat.divInt (a.num * b.den - b.num * a.den) (a.den * b.den) = a - b := by
  have := rat_add a (-b)
  rw [Rat.neg_num, Rat.neg_den, Int.neg_mul, ← Int.sub_eq_add_neg] at this
  rw [this, Rat.sub_eq_add_neg]
theorem rat_is (t : Int) {b : Int} (hb : b ≠ 0) : (Rat.divInt t b).num * b = t * (Rat.divInt t b).den := by
  have h := Rat.num_divInt_den (Rat.divInt t b)
  exact ((Rat.divInt_eq_divInt_iff (den_ne _) hb).mp h)
theorem rat_isI (t : Int) {b : Int} (hb : b ≠ 0) : Is t b (Rat.divInt t b).num (Rat.divInt t b).den := ⟨fr_rat _, rat_is t hb⟩
theorem rat_le (t : Int) {b : Int} (hb : b ≠ 0) : (Rat.divInt t b).num.natAbs ≤ t.natAbs ∧ ((Rat.divInt t b).den : Int).natAbs ≤ b.natAbs := by
  obtain ⟨d1, d2⟩ := (rat_isI t hb).dvd
  refine ⟨?_, Nat.le_of_dvd (by omega) (Int.natAbs_dvd_natAbs.mpr d1)⟩
  by_cases ht : t = 0
  · have e := rat_is t hb
    rw [ht, Int.zero_mul] at e
    rcases Int.mul_eq_zero.mp e with z | z
    · rw [ht, z]; exact Nat.le_refl _
    · exact absurd z hb
  · exact Nat.le_of_dvd (by omega) (Int.natAbs_dvd_natAbs.mpr d2)
def Lat (D N : Nat) (q : Rat) : Prop := ∃ m : Int, q * ((D : Int) : Rat) = m ∧ m.natAbs ≤ N
theorem Lat.dvd {D N : Nat} {q : Rat} (h : Lat D N q) (hD : D ≠ 0) : q.den ∣ D ∧ q.num.natAbs ≤ N := by
  obtain ⟨m, e, hm⟩ := h
  have e2 : q = Rat.divInt m D := by
    rw [Rat.divInt_eq_div, ← e]
    have : ((D : Int) : Rat) ≠ 0 := by
      have : (D : Int) ≠ 0 := by omega
      exact fun z => this (Rat.intCast_inj.mp z)
    grind
  have hd : (D : Int) ≠ 0 := by omega
  have l := rat_le m hd
  have d := (rat_isI m hd).dvd.1
  rw [← e2] at l d
  exact ⟨Int.natCast_dvd_natCast.mp d, Nat.le_trans l.1 hm⟩
theorem Lat.le {D N : Nat} {q : Rat} (h : Lat D N q) (hD : D ≠ 0) : q.den ≤ D := Nat.le_of_dvd (by omega) (h.dvd hD).1
theorem Lat.add {D M N : Nat} {a b : Rat} (h : Lat D M a) (k : Lat D N b) : Lat D (M + N) (a + b) := by
  obtain ⟨m, e, hm⟩ := h
  obtain ⟨n, f, hn⟩ := k
  exact ⟨m + n, by rw [Rat.add_mul, e, f, Rat.intCast_add], by omega⟩
theorem Lat.neg {D M : Nat} {a : Rat} (h : Lat D M a) : Lat D M (-a) := by
  obtain ⟨m, e, hm⟩ := h
  exact ⟨-m, by rw [Rat.neg_mul, e, Rat.intCast_neg], by omega⟩
theorem Lat.mul {D E M N : Nat} {a b : Rat} (h : Lat D M a) (k : Lat E N b) : Lat (D * E) (M * N) (a * b) := by
  obtain ⟨m, e, hm⟩ := h
  obtain ⟨n, f, hn⟩ := k
  refine ⟨m * n, ?_, by rw [Int.natAbs_mul]; exact Nat.mul_le_mul hm hn⟩
  rw [Rat.intCast_mul, ← e, ← f, Int.natCast_mul, Rat.intCast_mul]
  grind
theorem Lat.mono {D M N : Nat} {a : Rat} (h : Lat D M a) (k : M ≤ N) : Lat D N a := by
  obtain ⟨m, e, hm⟩ := h
  exact ⟨m, e, Nat.le_trans hm k⟩
theorem Lat.zero {D N : Nat} : Lat D N 0 := ⟨0, by rw [Rat.zero_mul]; rfl, Nat.zero_le _⟩
theorem Lat.of (q : Rat) : Lat q.den q.num.natAbs q := ⟨q.num, by
  have e := Rat.num_divInt_den q
  rw [Rat.divInt_eq_div] at e
  have : ((q.den : Int) : Rat) ≠ 0 := fun z => den_ne q (Rat.intCast_inj.mp z)
  generalize ((q.den : Int) : Rat) = d at *
  generalize (q.num : Rat) = n at *
  grind, Nat.le_refl _⟩
theorem Lat.up {D E M : Nat} {a : Rat} (h : Lat D M a) : Lat (D * E) (M * E) a := by
  obtain ⟨m, e, hm⟩ := h
  refine ⟨m * E, ?_, by rw [Int.natAbs_mul]; exact Nat.mul_le_mul hm (Nat.le_refl _)⟩
  rw [Rat.intCast_mul, ← e, Int.natCast_mul, Rat.intCast_mul, Rat.mul_assoc]
theorem plus_rat (a b : Rat) :
    let p : Int := (Int.gcd a.den b.den : Nat)
    let t := a.num * (b.den : Int).fdiv p + b.num * (a.den : Int).fdiv p
    let r : Int := (Int.gcd t p : Nat)
    (t.fdiv r = (a + b).num ∧ (a.den : Int).fdiv p * (b.den : Int).fdiv r = ((a + b).den : Int)) ∧ 0 < p ∧ 0 < r ∧ p ≤ a.den ∧ p ≤ b.den ∧ r ≤ p ∧ ((b.den : Int).fdiv p).natAbs ≤ (b.den : Int).natAbs ∧ ((a.den : Int).fdiv p).natAbs ≤ (a.den : Int).natAbs ∧ ((b.den : Int).fdiv r).natAbs ≤ (b.den : Int).natAbs := by
  intro p t r
  have h := plus_ok (fr_rat a) (fr_rat b)
  refine ⟨?_, h.2⟩
  have z := h.1.rat (Int.mul_ne_zero (den_ne a) (den_ne b))
  rw [rat_add] at z
  exact z
theorem times_rat (a b : Rat) :
    let f : Int := (Int.gcd a.num b.den : Nat)
    let s : Int := (Int.gcd b.num a.den : Nat)
    (a.num.fdiv f * b.num.fdiv s = (a * b).num ∧ (a.den : Int).fdiv s * (b.den : Int).fdiv f = ((a * b).den : Int)) ∧ 0 < f ∧ 0 < s ∧ f ≤ b.den ∧ s ≤ a.den ∧ (a.num.fdiv f).natAbs ≤ a.num.natAbs ∧ (b.num.fdiv s).natAbs ≤ b.num.natAbs ∧ ((a.den : Int).fdiv s).natAbs ≤ (a.den : Int).natAbs ∧ ((b.den : Int).fdiv f).natAbs ≤ (b.den : Int).natAbs := by
  intro f s
  have h := times_ok (fr_rat a) (fr_rat b)
  refine ⟨?_, h.2⟩
  have z := h.1.rat (Int.mul_ne_zero (den_ne a) (den_ne b))
  rw [rat_mul] at z
  exact z
theorem inv_neg {b : Rat} (h : b.num < 0) : -(b.den : Int) = (b⁻¹).num ∧ -b.num = ((b⁻¹).den : Int) := by
  rw [Rat.inv_def]
  refine Is.rat ⟨⟨by omega, ?_⟩, by rw [Int.neg_mul, Int.mul_neg]⟩ (by omega)
  rw [Int.gcd_neg, Int.neg_gcd, Int.gcd_comm]
  exact (fr_rat b).low
theorem inv_pos {b : Rat} (h : 0 < b.num) : (b.den : Int) = (b⁻¹).num ∧ b.num = ((b⁻¹).den : Int) := by
  rw [Rat.inv_def]
  refine Is.rat ⟨⟨by omega, ?_⟩, rfl⟩ (by omega)
  rw [Int.gcd_comm]
  exact (fr_rat b).low
theorem low_pos {t b : Int} (h : 0 < b) : t.fdiv (Int.gcd t b : Nat) = (Rat.divInt t b).num ∧ b.fdiv (Int.gcd t b : Nat) = ((Rat.divInt t b).den : Int) := (red_pos h).is.rat (by omega)
theorem num_ne {b : Rat} (h : b ≠ 0) : b.num ≠ 0 := fun z => h (Rat.num_eq_zero.mp z)
theorem add_le (a b : Rat) : (a + b).num.natAbs ≤ (a.num * b.den + b.num * a.den).natAbs ∧ ((a + b).den : Int).natAbs ≤ ((a.den : Int) * b.den).natAbs := by
  rw [← rat_add]; exact rat_le _ (Int.mul_ne_zero (den_ne a) (den_ne b))
theorem mul_le (a b : Rat) : (a * b).num.natAbs ≤ (a.num * b.num).natAbs ∧ ((a * b).den : Int).natAbs ≤ ((a.den : Int) * b.den).natAbs := by
  rw [← rat_mul]; exact rat_le _ (Int.mul_ne_zero (den_ne a) (den_ne b))
end Mt
namespace L2
open PySem PySem.Spec PyProof.Rows
theorem Same.seqT {K : PySem.W.Frag} {H H' : Hp} {a : Addr} {xs : List V} (e : Same H H') (h : SqT K H a xs) : SqT K H' a xs := by
  rcases h with (h | ⟨o, h⟩) | h
  · exact .inl (.inl (e _ _ h))
  · exact .inl (.inr ⟨o, e _ _ h⟩)
  · exact .inr h
def frO (q : Rat) : HO := .tup [.int q.num, .int (q.den : Int)]
def Fq (K : PySem.W.Frag) (H : Hp) (p : Addr) (q : Rat) : Prop := SqT K H p [.int q.num, .int (q.den : Int)]
theorem Fq.of {K : PySem.W.Frag} {H : Hp} {p : Addr} {q : Rat} (h : H p = some (frO q)) : Fq K H p q := SqT.of h
theorem Fq.same {K : PySem.W.Frag} {H H' : Hp} {p : Addr} {q : Rat} (h : Fq K H p q) (e : Same H H') : Fq K H' p q := e.seqT h
def rFqI (K : PySem.W.Frag) : R2 := fun x y H Q => ∃ p a, x = .ref p ∧ Fq K H p a ∧ ((y = .int 0 ∧ Q (.int a.num) H) ∨ (y = .int 1 ∧ Q (.int (a.den : Int)) H))
theorem ix_fq {X : Cx} : IxR X (rFqI X.K) := by
  intro value slice pins s σ H x y v u Q I rx ry h hs
  obtain ⟨p, a, rfl, hq, ⟨rfl, q⟩ | ⟨rfl, q⟩⟩ := h
  · exact ix_tup value slice pins s σ H _ _ v u Q I rx ry ⟨p, _, 0, _, rfl, rfl, hq, rfl, q⟩ hs
  · exact ix_tup value slice pins s σ H _ _ v u Q I rx ry ⟨p, _, 1, _, rfl, rfl, hq, rfl, q⟩ hs
structure Sz (n : Nat) (q : Rat) : Prop where
  t : Bd n q.num
  b : Bd n (q.den : Int)
theorem Sz.mono {m n : Nat} {q : Rat} (h : Sz m q) (l : m ≤ n) : Sz n q := ⟨h.t.mono l, h.b.mono l⟩
theorem Sz.low {n : Nat} {t b : Int} (hb : b ≠ 0) (h1 : Bd n t) (h2 : Bd n b) : Sz n (Rat.divInt t b) := ⟨h1.le (Mt.rat_le t hb).1, h2.le (Mt.rat_le t hb).2⟩
theorem Sz.int {n : Nat} {t : Int} (h : Bd n t) (h1 : 1 ≤ n) : Sz n (t : Rat) := ⟨by simpa using h, by simp; exact Bd.mono (m := 1) (by show (_ : Nat) < _; decide) h1⟩
theorem Sz.add {m n : Nat} {a b : Rat} (ha : Sz m a) (hb : Sz n b) : Sz (m + n + 1) (a + b) := by
  refine ⟨?_, ?_⟩
  · refine Bd.le ?_ (Mt.add_le a b).1
    have h1 := ha.t.mul hb.b
    have h2 := hb.t.mul ha.b
    rw [Nat.add_comm n m] at h2
    exact h1.add h2
  · refine Bd.le ?_ (Mt.add_le a b).2
    exact (ha.b.mul hb.b).mono (by omega)
theorem Sz.mul {m n : Nat} {a b : Rat} (ha : Sz m a) (hb : Sz n b) : Sz (m + n) (a * b) :=
  ⟨Bd.le (ha.t.mul hb.t) (Mt.mul_le a b).1, Bd.le (ha.b.mul hb.b) (Mt.mul_le a b).2⟩
theorem Sz.neg {n : Nat} {a : Rat} (h : Sz n a) : Sz n (-a) := ⟨by rw [Rat.neg_num]; exact h.t.neg, by rw [Rat.neg_den]; exact h.b⟩
theorem Sz.sub {m n : Nat} {a b : Rat} (ha : Sz m a) (hb : Sz n b) : Sz (m + n + 1) (a - b) := by rw [Rat.sub_eq_add_neg]; exact ha.add hb.neg
theorem Bd.dv {i j : Int} {n : Nat} (h : Bd n j) (z : j ≠ 0) (l : n ≤ 9000 := by decide) : CDivB i j := ⟨z, h.mono l⟩
theorem Bd.mu {i j : Int} {m n : Nat} (h : Bd m i) (k : Bd n j) (l : m ≤ 100000 := by decide) (l' : n ≤ 100000 := by decide) : CMulB i j := ⟨h.mono l, k.mono l'⟩
theorem tSeq_step {t u : TS} {D : Ends} {σ : St} {H : Hp} (h : ∀ N : St → Hp → Prop, (∀ σ H, u D σ H → N σ H) → t { D with nx := N } σ H) : tSeq t u D σ H := h (u D) fun _ _ z => z
end L2
namespace Mt
def cf (l : List Rat) (n : Nat) : Rat := l.getD n 0
def trim : List Rat → List Rat
  | [] => []
  | a :: l => if trim l = [] ∧ a = 0 then [] else a :: trim l
def NZ (l : List Rat) : Prop := l = [] ∨ cf l (l.length - 1) ≠ 0
theorem cf_nil (n : Nat) : cf [] n = 0 := by simp [cf]
theorem cf_zero (a : Rat) (l : List Rat) : cf (a :: l) 0 = a := by simp [cf]
theorem cf_succ (a : Rat) (l : List Rat) (n : Nat) : cf (a :: l) (n + 1) = cf l n := by simp [cf]
theorem cf_ge {l : List Rat} {n : Nat} (h : l.length ≤ n) : cf l n = 0 := by simp [cf, List.getD, List.getElem?_eq_none h]
theorem cf_at {l : List Rat} {n : Nat} {x : Rat} (h : l[n]? = some x) : cf l n = x := by simp [cf, List.getD, h]
theorem cf_lt {l : List Rat} {n : Nat} (h : n < l.length) : l[n]? = some (cf l n) := by simp [cf, List.getD, h]
theorem cf_trim : ∀ (l : List Rat) (n : Nat), cf (trim l) n = cf l n
  | [], n => rfl
  | a :: l, n => by
    rw [trim]
    split
    · rename_i h
      cases n with
      | zero => rw [cf_zero, cf_nil, h.2]
      | succ n => rw [cf_succ, cf_nil, ← cf_trim l n, h.1, cf_nil]
    · cases n with
      | zero => rw [cf_zero, cf_zero]
      | succ n => rw [cf_succ, cf_succ, cf_trim l n]
theorem NZ.cons {a : Rat} {l : List Rat} (h : NZ l) (k : ¬ (l = [] ∧ a = 0)) : NZ (a :: l) := by
  right
  rcases h with h | h
  · subst h
    simp only [List.length_cons, List.length_nil, Nat.zero_add, Nat.sub_self, cf_zero]
    intro z; exact k ⟨rfl, z⟩
  · cases l with
    | nil => exact absurd (cf_nil _) h
    | cons b r =>
      simp only [List.length_cons, Nat.add_sub_cancel] at *
      rw [cf_succ]; exact h
theorem NZ_trim : ∀ l : List Rat, NZ (trim l)
  | [] => .inl rfl
  | a :: l => by
    rw [trim]
    split
    · exact .inl rfl
    · rename_i h; exact (NZ_trim l).cons h
theorem NZ.len {l m : List Rat} (hl : NZ l) (h : ∀ n, cf l n = cf m n) : l.length ≤ m.length := by
  rcases hl with rfl | hl
  · exact Nat.zero_le _
  · rcases Nat.lt_or_ge m.length l.length with z | z
    · rw [h, cf_ge (by omega)] at hl
      exact absurd rfl hl
    · exact z
theorem NZ.ext {l m : List Rat} (hl : NZ l) (hm : NZ m) (h : ∀ n, cf l n = cf m n) : l = m := by
  have e : l.length = m.length := Nat.le_antisymm (hl.len h) (hm.len fun n => (h n).symm)
  refine List.ext_getElem? fun i => ?_
  rcases Nat.lt_or_ge i l.length with z | z
  · rw [cf_lt z, cf_lt (l := m) (by omega), h]
  · rw [List.getElem?_eq_none z, List.getElem?_eq_none (by omega)]
theorem trim_NZ {l : List Rat} (h : NZ l) : trim l = l := (NZ_trim l).ext h fun n => cf_trim l n
theorem trim_len (l : List Rat) : (trim l).length ≤ l.length := (NZ_trim l).len fun n => cf_trim l n
theorem cf_take {l : List Rat} {k n : Nat} : cf (l.take k) n = if n < k then cf l n else 0 := by
  split
  · rename_i h; simp [cf, List.getD, List.getElem?_take, h]
  · rename_i h; simp [cf, List.getD, List.getElem?_take, h]
theorem take_trim {l : List Rat} {k : Nat} (hk : k ≤ l.length) (h0 : ∀ i, k ≤ i → cf l i = 0) (h1 : k = 0 ∨ cf l (k - 1) ≠ 0) : l.take k = trim l := by
  refine NZ.ext ?_ (NZ_trim l) fun n => ?_
  · rcases h1 with rfl | h1
    · exact .inl rfl
    · rcases Nat.eq_zero_or_pos k with rfl | hp
      · exact .inl rfl
      · right
        rw [List.length_take, Nat.min_eq_left hk, cf_take, if_pos (by omega)]
        exact h1
  · rw [cf_take, cf_trim]
    split
    · rfl
    · rename_i h; rw [h0 n (by omega)]
def addL (f g : List Rat) : List Rat := (List.range (max f.length g.length)).map fun n => cf f n + cf g n
theorem cf_map_range (m : Nat) (F : Nat → Rat) (n : Nat) : cf ((List.range m).map F) n = if n < m then F n else 0 := by
  split
  · rename_i h; simp [cf, List.getD, h]
  · rename_i h; exact cf_ge (by simp; omega)
theorem cf_addL (f g : List Rat) (n : Nat) : cf (addL f g) n = cf f n + cf g n := by
  rw [addL, cf_map_range]
  split
  · rfl
  · rename_i h; rw [cf_ge (l := f) (by omega), cf_ge (l := g) (by omega)]; grind
theorem cf_map (F : Rat → Rat) (h0 : F 0 = 0) (f : List Rat) (n : Nat) : cf (f.map F) n = F (cf f n) := by
  rcases Nat.lt_or_ge n f.length with z | z
  · exact cf_at (by rw [List.getElem?_map, cf_lt z]; rfl)
  · rw [cf_ge (by simpa using z), cf_ge z, h0]
theorem map_cf (F : Rat → Rat) (f : List Rat) : (List.range f.length).map (fun i => F (cf f i)) = f.map F := by
  refine List.ext_getElem? fun i => ?_
  rw [List.getElem?_map, List.getElem?_map]
  rcases Nat.lt_or_ge i f.length with z | z
  · rw [List.getElem?_range z, cf_lt z]; rfl
  · rw [List.getElem?_eq_none z, List.getElem?_eq_none (by simpa using z)]; rfl
def padd (f g : List Rat) : List Rat := trim (addL f g)
def pscale (f : List Rat) (a : Rat) : List Rat := trim (f.map (· * a))
def psub (f g : List Rat) : List Rat := padd f (pscale g (-1))
theorem cf_padd (f g : List Rat) (n : Nat) : cf (padd f g) n = cf f n + cf g n := by rw [padd, cf_trim, cf_addL]
theorem cf_pscale (f : List Rat) (a : Rat) (n : Nat) : cf (pscale f a) n = cf f n * a := by rw [pscale, cf_trim, cf_map _ (Rat.zero_mul a)]
theorem cf_psub (f g : List Rat) (n : Nat) : cf (psub f g) n = cf f n - cf g n := by
  rw [psub, cf_padd, cf_pscale]; grind
theorem NZ_psub (f g : List Rat) : NZ (psub f g) := NZ_trim _
end Mt
namespace Mt
def mc : List Rat → List Rat → Nat → Rat
  | [], _, _ => 0
  | a :: _, g, 0 => a * cf g 0
  | a :: f, g, n + 1 => a * cf g (n + 1) + mc f g n
theorem mc_nil_left (g : List Rat) (n : Nat) : mc [] g n = 0 := by cases n <;> rfl
theorem mc_ext : ∀ (f : List Rat) {g h : List Rat} (_ : ∀ n, cf g n = cf h n) (n : Nat), mc f g n = mc f h n
  | [], _, _, _, n => by rw [mc_nil_left, mc_nil_left]
  | a :: f, g, h, e, 0 => by rw [mc, mc, e]
  | a :: f, g, h, e, n + 1 => by rw [mc, mc, e, mc_ext f e n]
theorem mc_nil_right : ∀ (f : List Rat) (n : Nat), mc f [] n = 0
  | [], n => mc_nil_left _ n
  | a :: f, 0 => by rw [mc, cf_nil]; grind
  | a :: f, n + 1 => by rw [mc, cf_nil, mc_nil_right f n]; grind
theorem mc_cons_right : ∀ (f : List Rat) (b : Rat) (g : List Rat) (n : Nat), mc f (b :: g) n = cf f n * b + (match n with | 0 => 0 | n + 1 => mc f g n)
  | [], b, g, 0 => by rw [mc_nil_left, cf_nil]; grind
  | [], b, g, n + 1 => by rw [mc_nil_left, cf_nil]; simp only [mc_nil_left]; grind
  | a :: f, b, g, 0 => by rw [mc, cf_zero, cf_zero]; grind
  | a :: f, b, g, n + 1 => by
    rw [mc, cf_succ, mc_cons_right f b g n, cf_succ]
    cases n with
    | zero => simp only [mc]; grind
    | succ n => simp only [mc]; grind
theorem mc_comm : ∀ (f g : List Rat) (n : Nat), mc f g n = mc g f n
  | [], g, n => by rw [mc_nil_left, mc_nil_right]
  | a :: f, g, 0 => by rw [mc, mc_cons_right]; grind
  | a :: f, g, n + 1 => by rw [mc, mc_cons_right, mc_comm f g n]; grind
def addAt (l : List Rat) (k : Nat) (x : Rat) : List Rat := l.set k (cf l k + x)
def rowIn (l : List Rat) (i : Nat) (a : Rat) (g : List Rat) (j : Nat) : List Rat := (List.range j).foldl (fun l j => addAt l (i + j) (a * cf g j)) l
def prodIn (f g : List Rat) (i : Nat) : List Rat := (List.range i).foldl (fun l i => rowIn l i (cf f i) g g.length) (List.replicate (f.length + g.length) 0)
theorem rowIn_zero (l : List Rat) (i : Nat) (a : Rat) (g : List Rat) : rowIn l i a g 0 = l := rfl
theorem rowIn_succ (l : List Rat) (i : Nat) (a : Rat) (g : List Rat) (j : Nat) : rowIn l i a g (j + 1) = addAt (rowIn l i a g j) (i + j) (a * cf g j) := by simp [rowIn, List.range_succ]
theorem prodIn_zero (f g : List Rat) : prodIn f g 0 = List.replicate (f.length + g.length) 0 := rfl
theorem prodIn_succ (f g : List Rat) (i : Nat) : prodIn f g (i + 1) = rowIn (prodIn f g i) i (cf f i) g g.length := by simp [prodIn, List.range_succ]
theorem addAt_len (l : List Rat) (k : Nat) (x : Rat) : (addAt l k x).length = l.length := by simp [addAt]
theorem rowIn_len (l : List Rat) (i : Nat) (a : Rat) (g : List Rat) : ∀ j, (rowIn l i a g j).length = l.length
  | 0 => rfl
  | j + 1 => by rw [rowIn_succ, addAt_len, rowIn_len l i a g j]
theorem prodIn_len (f g : List Rat) : ∀ i, (prodIn f g i).length = f.length + g.length
  | 0 => by simp [prodIn_zero]
  | i + 1 => by rw [prodIn_succ, rowIn_len, prodIn_len f g i]
theorem cf_addAt {l : List Rat} {k : Nat} (h : k < l.length) (x : Rat) (n : Nat) : cf (addAt l k x) n = if n = k then cf l n + x else cf l n := by
  split
  · rename_i e; subst e
    exact cf_at (by simp [addAt, h])
  · rename_i e
    simp only [cf, addAt, List.getD]
    rw [List.getElem?_set_ne (by omega)]
theorem cf_rowIn {l : List Rat} {i : Nat} (a : Rat) (g : List Rat) (n : Nat) : ∀ j, i + j ≤ l.length → cf (rowIn l i a g j) n = cf l n + (if i ≤ n ∧ n < i + j then a * cf g (n - i) else 0)
  | 0, _ => by rw [rowIn_zero, if_neg (by omega)]; grind
  | j + 1, h => by
    rw [rowIn_succ, cf_addAt (by rw [rowIn_len]; omega), cf_rowIn a g n j (by omega)]
    by_cases e : n = i + j
    · rw [if_pos e, if_neg (by omega), if_pos (by omega), show n - i = j by omega]; grind
    · rw [if_neg e]
      by_cases e2 : i ≤ n ∧ n < i + j
      · rw [if_pos e2, if_pos (by omega)]
      · rw [if_neg e2, if_neg (by omega)]
theorem cf_replicate (m n : Nat) : cf (List.replicate m 0) n = 0 := by
  rcases Nat.lt_or_ge n m with z | z
  · exact cf_at (by simp [z])
  · exact cf_ge (by simpa using z)
theorem mc_take_succ : ∀ (f g : List Rat) (i n : Nat), i < f.length → mc (f.take (i + 1)) g n = mc (f.take i) g n + (if i ≤ n then cf f i * cf g (n - i) else 0)
  | [], g, i, n, h => by simp at h
  | a :: f, g, 0, n, h => by
    rw [List.take_succ_cons, List.take_zero, List.take_zero, mc_nil_left, if_pos (by omega), cf_zero]
    cases n with
    | zero => simp only [mc, Nat.sub_self]; grind
    | succ n => simp only [mc, mc_nil_left, Nat.sub_zero]; grind
  | a :: f, g, i + 1, 0, h => by
    rw [List.take_succ_cons, List.take_succ_cons, mc, mc, if_neg (by omega)]; grind
  | a :: f, g, i + 1, n + 1, h => by
    simp only [List.length_cons] at h
    rw [List.take_succ_cons, List.take_succ_cons, mc, mc, mc_take_succ f g i n (by omega), cf_succ]
    by_cases e : i ≤ n
    · rw [if_pos e, if_pos (by omega), show n + 1 - (i + 1) = n - i by omega]; grind
    · rw [if_neg e, if_neg (by omega)]; grind
theorem cf_prodIn (f g : List Rat) (n : Nat) : ∀ i, i ≤ f.length → cf (prodIn f g i) n = mc (f.take i) g n
  | 0, _ => by rw [prodIn_zero, cf_replicate, List.take_zero, mc_nil_left]
  | i + 1, h => by
    rw [prodIn_succ, cf_rowIn _ _ _ _ (by rw [prodIn_len]; omega), cf_prodIn f g n i (by omega), mc_take_succ f g i n (by omega)]
    congr 1
    by_cases e : i ≤ n ∧ n < i + g.length
    · rw [if_pos e, if_pos e.1]
    · rw [if_neg e]
      split
      · rw [cf_ge (l := g) (by omega)]; grind
      · rfl
def pmul (f g : List Rat) : List Rat := trim (prodIn f g f.length)
theorem cf_pmul (f g : List Rat) (n : Nat) : cf (pmul f g) n = mc f g n := by rw [pmul, cf_trim, cf_prodIn f g n _ (Nat.le_refl _), List.take_length]
end Mt
namespace HT
open PySem PyProof.Rows
section
variable {prog : Program} {w : World} {A : Around} {E : Value → Shared → Prop} {s : Shared}
theorem getItem_tuple_all {t sl : Addr} {items : Array Value} {vl vu : Value} {lo hi : Option Int} {Q : Value → Shared → Prop} (ht : IsTup s.heap t items) (hs : s.heap.IsSliceOf sl vl vu .none) (pl : IsPart vl lo) (pu : IsPart vu hi)
    (hw : sIx items.size 0 lo = 0 ∧ sIx items.size items.size hi = items.size) (h : Q (.ref t) s) : wpAny (model prog w) A (getItem (.ref t) (.ref sl)) Q E s := by
  obtain ⟨os, hos, hcs, hds⟩ := id hs
  have hTs : s.TypeIs (.ref sl) "slice" := ⟨os, hos, hcs⟩
  unfold getItem
  try with_reducible refine wpAny_holding ?_
  first | refine wpAny_bind (wpAny_pure ?_) | skip
  refine wpAny_bind (wpAny_sequenceKey ht.typeIs (by decide) ?_)
  refine wpAny_bind (wpAny_callSpecial?_slot (name := Str.ofString "__getitem__") ht.typeIs PyProof.Rows.slot_tuple_getitem
    (wpAny_call_entry PyProof.Rows.slot_tuple_getitem ht.typeIs entry_tuple_getitem ?_ (args_tuple_getitem _ _)))
  show wpAny _ _ (Builtin.Tuple.tupleItemsOf (.ref t) >>= _) _ _ s
  refine wpAny_bind (tupleItemsOf_ ht ?_)
  refine wpAny_bind (wpAny_typeOf hTs ?_)
  rw [if_pos (by decide)]
  refine wpAny_bind (sliceApplied_gen hs pl pu ?_)
  have hyes : (((sIx items.size 0 lo : Nat) : Int) == 0 && (1 : Int) == 1 && (sIx items.size items.size hi - sIx items.size 0 lo) == items.size) = true := by
    rw [hw.1, hw.2]; simp
  show wpAny _ _ (if (((sIx items.size 0 lo : Nat) : Int) == 0 && (1 : Int) == 1 && (sIx items.size items.size hi - sIx items.size 0 lo) == items.size) = true then _ else _) _ _ s
  rw [if_pos hyes]
  refine wpAny_bind ?_
  unfold Builtin.Tuple.tupleIsExact
  refine wpAny_bind (wpAny_typeOf ht.typeIs (wpAny_pure ?_))
  rw [if_pos (by decide)]
  refine wpAny_bind (wpAny_rule ?_)
  exact wpAny_pure ⟨_, rfl, wpAny_pure h⟩
end
end HT
namespace L2
open PySem PySem.Spec PyProof.Rows
def rSlTA (K : PySem.W.Frag) : V → Option Int → Option Int → Hp → VK → Prop := fun x lo hi H Q => ∃ a xs, x = .ref a ∧ SqT K H a xs ∧ ∀ p H', Same H H' → SqT K H' p (cutV xs lo hi) → Q (.ref p) H'
theorem sl_tupA {X : Cx} : SlR X (rSlTA X.K) := by
  intro pins s σ H x v vl vu lo hi sl Q I rx hs pl pu h
  obtain ⟨a, xs, e, hx, q⟩ := h
  subst e
  by_cases hw : HT.sIx xs.length 0 lo = 0 ∧ HT.sIx xs.length xs.length hi = xs.length
  · cases rx
    obtain ⟨its, r, ht, hz⟩ := I.tuple hx
    have hlen : its.toArray.size = xs.length := by rw [List.size_toArray]; exact r.length.symm
    refine ⟨"tuple", _, PyProof.Rows.slot_tuple_getitem.lookup, ht.typeIs, ?_⟩
    refine HT.getItem_tuple_all ht hs pl pu (by rw [hlen]; exact hw) ⟨.ref a, H, I, rfl, q a H (Same.refl H) ?_⟩
    have e : cutV xs lo hi = xs := by unfold cutV; rw [hw.1, hw.2]; simp
    rw [e]; exact hx
  · exact sl_tup pins s σ H (.ref a) v vl vu lo hi sl Q I rx hs pl pu ⟨a, xs, rfl, hx, hw, fun p hp => q p _ (same_upd hp) (SqT.of upd_same)⟩
theorem cutV_to (xs : List V) (k : Nat) (h : k ≤ xs.length) : cutV xs none (some (k : Int)) = xs.take k := by
  unfold cutV
  rw [HT.sIx_none, HT.sIx_nat, Nat.min_eq_left h]
  simp
theorem cutV_from (xs : List V) (k : Nat) (h : k ≤ xs.length) : cutV xs (some (k : Int)) none = xs.drop k := by
  unfold cutV
  rw [HT.sIx_none, HT.sIx_nat, Nat.min_eq_left h, List.take_of_length_le (by simp)]
theorem atI_end {α : Type} {xs : List α} {v : α} (h : xs[xs.length - 1]? = some v) : atI xs (-1) = some v := by
  have hne : xs ≠ [] := by rintro rfl; simp at h
  have e := List.dropLast_concat_getLast hne
  rw [← e, atI_last]
  rw [List.getLast_eq_getElem hne]
  obtain ⟨h1, h2⟩ := List.getElem?_eq_some_iff.mp h
  exact congrArg some h2
theorem pe_comp2 {X : Cx} {elt iter tg : Expr} {scope : Scope} (Nl : List Str) (y1 : Str) (j1 : Nat) (y2 : Str) (j2 : Nat) {c1 c2 : Addr} {wi : TI} {g : TG} {te : TE} {pos : Pos} (hc : X.calm = true) (hi : PI X tg iter wi)
    (hg : ∀ C s₀ H₀ ex pn, PG (X.cp (Nl ++ [y1, y2]) scope [(y1, c1), (y2, c2)] C s₀ H₀ ex pn) tg g) (he : ∀ C s₀ H₀ ex pn, PE (X.cp (Nl ++ [y1, y2]) scope [(y1, c1), (y2, c2)] C s₀ H₀ ex pn) elt te)
    (hclos : closureFor scope X.env = pure [(y1, c1), (y2, c2)]) (hy1 : X.env.cells.lookup y1 = some c1) (hy2 : X.env.cells.lookup y2 = some c2) (hN1 : X.N[j1]? = some y1) (hN2 : X.N[j2]? = some y2)
    (hk1 : X.env.kindOf y1 = some .cell) (hk2 : X.env.kindOf y2 = some .cell) (hb1 : (relabel scope X.env).names.lookup y1 = some .cell) (hb2 : (relabel scope X.env).names.lookup y2 = some .cell)
    (hne : y2 ≠ y1 := by decide) (h1 : ∀ p ∈ scope.names, p.2 = .free → p.1 = y1 ∨ p.1 = y2 := by decide +kernel) (hcell : ∀ y ∈ scope.names, y.2 ≠ .cell := by decide +kernel) (hkind : scope.kind = .function := by rfl)
    (hnames : ∀ y ∈ scope.names, y.2 = .local → scope.names.lookup y.1 = some .local := by decide +kernel)
    (hs : ∀ x, foldedSetIterable iter X.env x = pure x := by intro _; rfl) : PCo X (.ListComp elt [⟨tg, iter, [], 0⟩] scope pos) scope iter (tComp ((Nl.map fun _ => none) ++ [some j1, some j2]) wi g te) := by
  have self1 : List.lookup y1 [(y1, c1), (y2, c2)] = some c1 := by simp
  have self2 : List.lookup y2 [(y1, c1), (y2, c2)] = some c2 := by
    rw [List.lookup_cons, show (y2 == y1) = false from beq_eq_false_iff_ne.mpr hne]; simp
  have look : ∀ z d, List.lookup z [(y1, c1), (y2, c2)] = some d → (z = y1 ∧ d = c1) ∨ (z = y2 ∧ d = c2) := fun z d h => by
    have m := PySem.mem_of_lookup h
    rcases List.mem_cons.mp m with q | q
    · cases q; exact .inl ⟨rfl, rfl⟩
    · cases List.mem_singleton.mp q; exact .inr ⟨rfl, rfl⟩
  refine pe_comp (cl := [(y1, c1), (y2, c2)]) (Nc := Nl ++ [y1, y2]) hc hi hg he (by simp) (fun z d h => ?_) (fun z h => ?_) (fun i z j' e1 e2 => ?_) hclos hcell hkind hnames hs
  · rcases look z d h with ⟨rfl, rfl⟩ | ⟨rfl, rfl⟩
    · exact hy1
    · exact hy2
  · have m := h.elim (fun q => rel_mem q (.inl rfl) hcell) fun q => rel_mem q (.inr rfl) hcell
    rcases h1 _ m rfl with e | e
    · have e : z = y1 := e
      subst e; exact ⟨c1, self1⟩
    · have e : z = y2 := e
      subst e; exact ⟨c2, self2⟩
  · have hi : i = Nl.length ∨ i = Nl.length + 1 := by
      by_cases hlt : i < Nl.length
      · rw [List.getElem?_append_left (by simpa using hlt), List.getElem?_map] at e2
        cases q : Nl[i]? with
        | none => rw [q] at e2; cases e2
        | some z => rw [q] at e2; cases e2
      · have := (List.getElem?_eq_some_iff.mp e1).1
        simp at this
        omega
    rcases hi with rfl | rfl
    · have a1 : (Nl ++ [y1, y2])[Nl.length]? = some y1 := by simp
      have a2 : ((Nl.map fun _ => (none : Option Nat)) ++ [some j1, some j2])[Nl.length]? = some (some j1) := by
        rw [List.getElem?_append_right (by simp)]; simp
      rw [a1] at e1; cases e1
      rw [a2] at e2; cases e2
      exact ⟨hN1, .inr (.inl hk1), by rw [hk1]; exact (fun q => nomatch q), .inl hb1, fun d h => by rw [hy1] at h; cases h; exact self1⟩
    · have a1 : (Nl ++ [y1, y2])[Nl.length + 1]? = some y2 := by
        rw [List.getElem?_append_right (by omega)]; simp
      have a2 : ((Nl.map fun _ => (none : Option Nat)) ++ [some j1, some j2])[Nl.length + 1]? = some (some j2) := by
        rw [List.getElem?_append_right (by simp)]; simp
      rw [a1] at e1; cases e1
      rw [a2] at e2; cases e2
      exact ⟨hN2, .inr (.inl hk2), by rw [hk2]; exact (fun q => nomatch q), .inl hb2, fun d h => by rw [hy2] at h; cases h; exact self2⟩
mutual
theorem Rep.same {K : PySem.W.Frag} {H H' : Hp} (e : Same H H') : ∀ (d : Dt) (v : V), Rep K H d v → Rep K H' d v := by
  intro d v h
  match d with
  | .non => simp only [Rep] at *; exact h
  | .bl _ => simp only [Rep] at *; exact h
  | .int _ => simp only [Rep] at *; exact h
  | .str _ => simp only [Rep] at *; exact h
  | .tup l => simp only [Rep] at *; obtain ⟨a, xs, rfl, s, r⟩ := h; exact ⟨a, xs, rfl, e.seqT s, Reps.same e l xs r⟩
  | .lst l => simp only [Rep] at *; obtain ⟨a, xs, rfl, s, r⟩ := h; exact ⟨a, xs, rfl, e.seq s, Reps.same e l xs r⟩
theorem Reps.same {K : PySem.W.Frag} {H H' : Hp} (e : Same H H') : ∀ (l : List Dt) (xs : List V), Reps K H l xs → Reps K H' l xs := by
  intro l xs h
  match l with
  | [] => simp only [Reps] at *; exact h
  | d :: l => simp only [Reps] at *; obtain ⟨x, r, rfl, h1, h2⟩ := h; exact ⟨x, r, rfl, Rep.same e d x h1, Reps.same e l r h2⟩
end
def frD (q : Rat) : Dt := .tup [.int q.num, .int (q.den : Int)]
def polyD (f : List Rat) : Dt := .tup (f.map frD)
def lstD (f : List Rat) : Dt := .lst (f.map frD)
theorem rep_fr {K : PySem.W.Frag} {H : Hp} {p : Addr} {q : Rat} (h : Fq K H p q) : Rep K H (frD q) (.ref p) := by
  simp only [frD, Rep, Reps]
  exact ⟨p, _, rfl, h, _, _, rfl, rfl, _, _, rfl, rfl, rfl⟩
theorem rep_fr' {K : PySem.W.Frag} {H : Hp} {v : V} {q : Rat} (h : Rep K H (frD q) v) : ∃ p, v = .ref p ∧ Fq K H p q := by
  simp only [frD, Rep, Reps] at h
  obtain ⟨p, xs, rfl, s, x, r, rfl, rfl, y, r2, rfl, rfl, rfl⟩ := h
  exact ⟨p, rfl, s⟩
theorem frD_eqb (a b : Rat) : (frD a).eqb (frD b) = decide (a = b) := by
  simp only [frD, Dt.eqb, Dt.eqbs, Bool.and_true]
  rw [Bool.eq_iff_iff]
  simp only [Bool.and_eq_true, beq_iff_eq, decide_eq_true_eq]
  constructor
  · rintro ⟨h1, h2⟩
    exact Rat.ext h1 (by omega)
  · rintro rfl; exact ⟨rfl, rfl⟩
theorem frDs_eqb : ∀ f g : List Rat, Dt.eqbs (f.map frD) (g.map frD) = decide (f = g)
  | [], [] => by simp [Dt.eqbs]
  | [], b :: g => by simp [Dt.eqbs]
  | a :: f, [] => by simp [Dt.eqbs]
  | a :: f, b :: g => by
    rw [List.map_cons, List.map_cons, Dt.eqbs, frD_eqb, frDs_eqb f g]
    by_cases h1 : a = b <;> by_cases h2 : f = g <;> simp [h1, h2]
theorem frD_sim (a b : Rat) : (frD a).sim (frD b) = true := by simp [frD, Dt.sim, Dt.sims]
theorem frDs_sim : ∀ f g : List Rat, Dt.sims (f.map frD) (g.map frD) = true
  | [], [] => by simp [Dt.sims]
  | [], b :: g => by simp [Dt.sims]
  | a :: f, [] => by simp [Dt.sims]
  | a :: f, b :: g => by rw [List.map_cons, List.map_cons, Dt.sims, frD_sim, frDs_sim f g]; rfl
theorem frD_dep (a : Rat) : (frD a).dep = 1 := by simp [frD, Dt.dep, Dt.deps]
theorem frDs_dep : ∀ f : List Rat, Dt.deps (f.map frD) ≤ 1
  | [] => by simp [Dt.deps]
  | a :: f => by rw [List.map_cons, Dt.deps, frD_dep]; exact Nat.max_le.mpr ⟨Nat.le_refl _, frDs_dep f⟩
section
variable {K : PySem.W.Frag} {H : Hp} {x y : V} {Q : VK}
theorem fr_cmp {ne : Bool} {a b : Rat} (h1 : Rep K H (frD a) x) (h2 : Rep K H (frD b) y) (q : Q (.bl (if ne then !decide (a = b) else decide (a = b))) H) : rEqD K ne x y H Q :=
  ⟨_, _, h1, h2, frD_sim a b, by rw [frD_dep]; decide, by rw [frD_dep]; decide, by rw [frD_eqb]; exact q⟩
theorem poly_cmp {ne : Bool} {f g : List Rat} (h1 : Rep K H (polyD f) x) (h2 : Rep K H (polyD g) y) (q : Q (.bl (if ne then !decide (f = g) else decide (f = g))) H) : rEqD K ne x y H Q :=
  ⟨_, _, h1, h2, by rw [polyD, polyD, Dt.sim]; exact frDs_sim f g, by rw [polyD, Dt.dep]; omega, by rw [polyD, Dt.dep]; have := frDs_dep f; omega, by rw [polyD, polyD, Dt.eqb, frDs_eqb]; exact q⟩
end
def rIsiT (K : PySem.W.Frag) : List V → Hp → VK → Prop := fun xs H Q => ∃ a ys c cv b, xs = [.ref a, c] ∧ clsV c = some cv ∧ SqT K H a ys ∧ PySem.W.kitOne K (.type "tuple") cv = some b ∧ Q (.bl b) H
theorem call_isiT {X : Cx} : CallR X (.builtin "isinstance") (rIsiT X.K) := by
  intro pins s σ H xs us Q I r h
  obtain ⟨a, ys, c, cv, b, rfl, hc, hq, hk, q⟩ := h
  obtain ⟨u, u', rfl, r1, r2⟩ := vals2 r
  have e2 : u' = cv := by
    cases c with
    | ref C => cases hc; exact r2
    | ty n => cases hc; exact r2
    | _ => cases hc
  subst e2
  cases (show u = Value.ref a from r1)
  obtain ⟨its, _, ⟨o, h1, h2, _⟩, _⟩ := I.tuple hq
  exact PySem.W.kia_one PySem.W.kitx_tuple I.kIn ⟨o, h1, h2⟩ hk (fun z => nomatch z) fun tk => ⟨.bl b, H, I.tok tk, rfl, q⟩
theorem isi_sq {K : PySem.W.Frag} {H : Hp} {Q : VK} {a : Addr} {ys : List V} (h : SqT K H a ys) (q : Q (.bl true) H) : rIsiT K [.ref a, .ty "tuple"] H Q := ⟨a, ys, _, _, true, rfl, rfl, h, kit_tup_tup K, q⟩
def Frs (K : PySem.W.Frag) (H : Hp) (f : List Rat) (xs : List V) : Prop := Reps K H (f.map frD) xs
theorem SqT.updL {K : PySem.W.Frag} {H : Hp} {D p : Addr} {ys xs : List V} {o : HO} (hD : H D = some (.lst ys)) (h : SqT K H p xs) : SqT K (upd H D o) p xs := by
  rcases h with (h | ⟨u, h⟩) | h
  · exact .inl (.inl (by rw [upd_ne (by rintro rfl; rw [hD] at h; cases h)]; exact h))
  · exact .inl (.inr ⟨u, by rw [upd_ne (by rintro rfl; rw [hD] at h; cases h)]; exact h⟩)
  · exact .inr h
theorem Frs.same {K : PySem.W.Frag} {H H' : Hp} {f : List Rat} {xs : List V} (h : Frs K H f xs) (e : Same H H') : Frs K H' f xs := Reps.same e _ _ h
theorem Frs.nil {K : PySem.W.Frag} {H : Hp} : Frs K H [] [] := by simp [Frs, Reps]
theorem Frs.cons {K : PySem.W.Frag} {H : Hp} {q : Rat} {f : List Rat} {p : Addr} {xs : List V} (h : Fq K H p q) (k : Frs K H f xs) : Frs K H (q :: f) (.ref p :: xs) := by
  simp only [Frs, List.map_cons, Reps]
  exact ⟨_, _, rfl, rep_fr h, k⟩
theorem Frs.uncons {K : PySem.W.Frag} {H : Hp} {q : Rat} {f : List Rat} {xs : List V} (h : Frs K H (q :: f) xs) : ∃ p ys, xs = .ref p :: ys ∧ Fq K H p q ∧ Frs K H f ys := by
  simp only [Frs, List.map_cons, Reps] at h
  obtain ⟨x, r, rfl, h1, h2⟩ := h
  obtain ⟨p, rfl, h3⟩ := rep_fr' h1
  exact ⟨p, r, rfl, h3, h2⟩
theorem Frs.len {K : PySem.W.Frag} {H : Hp} {f : List Rat} {xs : List V} (h : Frs K H f xs) : f.length = xs.length := by
  have := Reps.len h
  simpa using this
theorem Frs.at {K : PySem.W.Frag} {H : Hp} {f : List Rat} {xs : List V} (h : Frs K H f xs) {j : Nat} (hj : j < f.length) : ∃ p, xs[j]? = some (.ref p) ∧ Fq K H p (Mt.cf f j) := by
  obtain ⟨x, e, r⟩ := Reps.at (d := frD (Mt.cf f j)) h (by rw [List.getElem?_map, Mt.cf_lt hj]; rfl)
  obtain ⟨p, rfl, q⟩ := rep_fr' r
  exact ⟨p, e, q⟩
theorem Frs.snoc {K : PySem.W.Frag} {H : Hp} {q : Rat} {p : Addr} : ∀ {f : List Rat} {xs : List V}, Frs K H f xs → Fq K H p q → Frs K H (f ++ [q]) (xs ++ [.ref p])
  | [], xs, h, k => by
    have e : xs = [] := by simpa [Frs, Reps] using h
    subst e
    exact Frs.cons k Frs.nil
  | a :: f, xs, h, k => by
    obtain ⟨r, ys, rfl, h1, h2⟩ := h.uncons
    exact Frs.cons h1 (Frs.snoc h2 k)
theorem Frs.updL {K : PySem.W.Frag} {H : Hp} {D : Addr} {ys : List V} {o : HO} (hD : H D = some (.lst ys)) : ∀ {f : List Rat} {xs : List V}, Frs K H f xs → Frs K (upd H D o) f xs
  | [], xs, h => by
    have e : xs = [] := by simpa [Frs, Reps] using h
    subst e
    exact Frs.nil
  | a :: f, xs, h => by
    obtain ⟨r, zs, rfl, h1, h2⟩ := h.uncons
    exact Frs.cons (SqT.updL hD h1) (Frs.updL hD h2)
theorem Frs.take {K : PySem.W.Frag} {H : Hp} : ∀ {f : List Rat} {xs : List V} (k : Nat), Frs K H f xs → Frs K H (f.take k) (xs.take k)
  | [], xs, k, h => by
    have e : xs = [] := by simpa [Frs, Reps] using h
    subst e
    simp only [List.take_nil]; exact Frs.nil
  | a :: f, xs, 0, h => by simp only [List.take_zero]; exact Frs.nil
  | a :: f, xs, k + 1, h => by
    obtain ⟨r, zs, rfl, h1, h2⟩ := h.uncons
    simp only [List.take_succ_cons]
    exact Frs.cons h1 (Frs.take k h2)
theorem Frs.drop {K : PySem.W.Frag} {H : Hp} : ∀ {f : List Rat} {xs : List V} (k : Nat), Frs K H f xs → Frs K H (f.drop k) (xs.drop k)
  | [], xs, k, h => by
    have e : xs = [] := by simpa [Frs, Reps] using h
    subst e
    simp only [List.drop_nil]; exact Frs.nil
  | a :: f, xs, 0, h => h
  | a :: f, xs, k + 1, h => by
    obtain ⟨r, zs, rfl, h1, h2⟩ := h.uncons
    simp only [List.drop_succ_cons]
    exact Frs.drop k h2
theorem Frs.append {K : PySem.W.Frag} {H : Hp} : ∀ {f g : List Rat} {xs ys : List V}, Frs K H f xs → Frs K H g ys → Frs K H (f ++ g) (xs ++ ys)
  | [], g, xs, ys, h, k => by
    have e : xs = [] := by simpa [Frs, Reps] using h
    subst e
    exact k
  | a :: f, g, xs, ys, h, k => by
    obtain ⟨r, zs, rfl, h1, h2⟩ := h.uncons
    exact Frs.cons h1 (Frs.append h2 k)
theorem Frs.set {K : PySem.W.Frag} {H : Hp} {q : Rat} {p : Addr} : ∀ {f : List Rat} {xs : List V} (k : Nat), Frs K H f xs → Fq K H p q → Frs K H (f.set k q) (xs.set k (.ref p))
  | [], xs, k, h, _ => by
    have e : xs = [] := by simpa [Frs, Reps] using h
    subst e
    exact Frs.nil
  | a :: f, xs, 0, h, z => by
    obtain ⟨r, zs, rfl, h1, h2⟩ := h.uncons
    exact Frs.cons z h2
  | a :: f, xs, k + 1, h, z => by
    obtain ⟨r, zs, rfl, h1, h2⟩ := h.uncons
    exact Frs.cons h1 (Frs.set k h2 z)
theorem Frs.replicate {K : PySem.W.Frag} {H : Hp} {q : Rat} {p : Addr} (h : Fq K H p q) : ∀ n, Frs K H (List.replicate n q) (List.replicate n (.ref p))
  | 0 => Frs.nil
  | n + 1 => Frs.cons h (Frs.replicate h n)
def Pl (K : PySem.W.Frag) (H : Hp) (p : Addr) (f : List Rat) : Prop := ∃ xs, SqT K H p xs ∧ Frs K H f xs
theorem Pl.rep {K : PySem.W.Frag} {H : Hp} {p : Addr} {f : List Rat} (h : Pl K H p f) : Rep K H (polyD f) (.ref p) := by
  obtain ⟨xs, h1, h2⟩ := h
  simp only [polyD, Rep]
  exact ⟨p, xs, rfl, h1, h2⟩
theorem Pl.same {K : PySem.W.Frag} {H H' : Hp} {p : Addr} {f : List Rat} (h : Pl K H p f) (e : Same H H') : Pl K H' p f := let ⟨xs, h1, h2⟩ := h; ⟨xs, e.seqT h1, h2.same e⟩
theorem Pl.updL {K : PySem.W.Frag} {H : Hp} {D p : Addr} {ys : List V} {o : HO} {f : List Rat} (hD : H D = some (.lst ys)) (h : Pl K H p f) : Pl K (upd H D o) p f := let ⟨xs, h1, h2⟩ := h; ⟨xs, h1.updL hD, h2.updL hD⟩
theorem Same.updL {H0 H : Hp} {D : Addr} {o : HO} (e : Same H0 H) (h : H0 D = none) : Same H0 (upd H D o) := fun b u z => by
  rw [upd_ne (ne_of_none z h)]; exact e b u z
theorem CO.frs {K : PySem.W.Frag} {n : Nat} {src : Nat → Hp → V → Prop} {st : Hp → Prop} {js : List (Option Nat)} {tl : TE} {σ : St} {H1 : Hp} {Q : VK} (F : Nat → Rat) (hn : n ≤ 1000) (hst : ∀ H, Same H1 H → st H)
    (hel : ∀ i H x (R : VK), i < n → Same H1 H → src i H x → (∀ r H3, Same H H3 → Fq K H3 r (F i) → R (.ref r) H3) → tl (some x :: cσ js σ) H R)
    (hq : ∀ D H xs, Same H1 H → H1 D = none → H D = some (.lst xs) → Frs K H ((List.range n).map F) xs → Q (.ref D) H) : CO n src st (none :: js) (gName 0) tl σ H1 Q := by
  intro D hD
  refine ⟨fun i ys σc H => (∃ r, σc = r :: cσ js σ) ∧ Same H1 H ∧ H D = some (.lst ys) ∧ Frs K H ((List.range i).map F) ys, ⟨⟨none, rfl⟩, same_upd hD, upd_same, Frs.nil⟩, fun i ys σc H _ h => hst H h.2.1, ?_, ?_⟩
  · rintro i ys σc H x hi ⟨⟨r, rfl⟩, sm, hd, hf⟩ hx
    refine hel i H x _ hi sm hx fun p H3 s3 hy => ?_
    have hl := hf.len
    refine ⟨s3 _ _ hd, small1000 (by simp at hl; omega), ⟨_, rfl⟩, (sm.trans s3).updL hD, upd_same, ?_⟩
    rw [List.range_succ, List.map_append]
    exact Frs.snoc (Frs.updL (s3 _ _ hd) (hf.same s3)) (SqT.updL (s3 _ _ hd) hy)
  · rintro ys σc H ⟨_, sm, hd, hf⟩
    exact ⟨hd, hq D H ys sm hD hd hf⟩
theorem Sz.zero {n : Nat} (h : 1 ≤ n) : Sz n (0 : Rat) := Sz.mono (m := 1) ⟨by show (_ : Nat) < _; decide, by show (_ : Nat) < _; decide⟩ h
theorem Sz.cf {n : Nat} {f : List Rat} (h : ∀ q ∈ f, Sz n q) (hn : 1 ≤ n) (k : Nat) : Sz n (Mt.cf f k) := by
  rcases Nat.lt_or_ge k f.length with z | z
  · exact h _ (List.mem_of_getElem? (Mt.cf_lt z))
  · rw [Mt.cf_ge z]; exact Sz.zero hn
theorem Pl.nil {K : PySem.W.Frag} {H : Hp} {p : Addr} (h : H p = some (.tup [])) : Pl K H p [] := ⟨[], SqT.of h, Frs.nil⟩
theorem rep_lst {K : PySem.W.Frag} {H : Hp} {p : Addr} {f : List Rat} {xs : List V} (h : H p = some (.lst xs)) (k : Frs K H f xs) : Rep K H (lstD f) (.ref p) := by
  simp only [lstD, Rep]
  exact ⟨p, xs, rfl, SqL.of h, k⟩
def frIn (K : PySem.W.Frag) (a : Addr) (t b : Int) : Bool := match K.lookup a with
  | some o => (match o.cls, o.data with
    | .type "tuple", .seq its _ => (match its.toList with | [.int x _, .int y _] => x == t && y == b | _ => false)
    | _, _ => false)
  | none => false
theorem frIn_sq {K : PySem.W.Frag} {a : Addr} {t b : Int} (h : frIn K a t b = true) (H : Hp) : SqT K H a [.int t, .int b] := by
  unfold frIn at h
  split at h
  · rename_i o e
    split at h
    · rename_i its n hc hd
      split at h
      · rename_i x tx y ty hl
        obtain ⟨h1, h2⟩ := Bool.and_eq_true_iff.mp h
        have h1 : x = t := by simpa using h1
        have h2 : y = b := by simpa using h2
        subst h1 h2
        refine .inr ⟨o, its, n, e, hc, hd, ?_, ?_⟩
        · have : its.size = 2 := by rw [← Array.length_toList, hl]; rfl
          rw [this]; exact sz_le 2 (by decide)
        · rw [hl]; exact .cons ⟨_, rfl⟩ (.cons ⟨_, rfl⟩ .nil)
      · cases h
    · cases h
  · cases h
end L2
namespace Mt
structure Ln (d n : Nat) (f : List Rat) : Prop where
  ex : ∃ D N : Nat, 0 < D ∧ D ≤ 2 ^ d ∧ N ≤ 2 ^ n ∧ ∀ k, Lat D N (cf f k)
theorem Ln.bits {d n : Nat} {f : List Rat} (h : Ln d n f) (k : Nat) : (cf f k).num.natAbs < 2 ^ (n + 1) ∧ ((cf f k).den : Int).natAbs < 2 ^ (d + 1) := by
  obtain ⟨D, N, h1, h2, h3, h4⟩ := h.ex
  have a := ((h4 k).dvd (by omega)).2
  have b := (h4 k).le (by omega)
  rw [Nat.pow_succ, Nat.pow_succ]
  constructor
  · have : 0 < 2 ^ n := Nat.two_pow_pos n
    omega
  · have : 0 < 2 ^ d := Nat.two_pow_pos d
    omega
theorem Ln.ext {d n : Nat} {f g : List Rat} (h : Ln d n f) (e : ∀ k, cf g k = cf f k) : Ln d n g := by
  obtain ⟨D, N, h1, h2, h3, h4⟩ := h.ex
  exact ⟨D, N, h1, h2, h3, fun k => by rw [e]; exact h4 k⟩
theorem Ln.trim {d n : Nat} {f : List Rat} (h : Ln d n f) : Ln d n (trim f) := h.ext fun k => cf_trim f k
theorem Ln.mono {d n d' n' : Nat} {f : List Rat} (h : Ln d n f) (hd : d ≤ d') (hn : n ≤ n') : Ln d' n' f := by
  obtain ⟨D, N, h1, h2, h3, h4⟩ := h.ex
  exact ⟨D, N, h1, Nat.le_trans h2 (Nat.pow_le_pow_right (by decide) hd), Nat.le_trans h3 (Nat.pow_le_pow_right (by decide) hn), h4⟩
theorem Ln.of {m : Nat} : ∀ (f : List Rat), (∀ q ∈ f, q.num.natAbs < 2 ^ m ∧ (q.den : Int).natAbs < 2 ^ m) → Ln (m * f.length) (m * f.length) f
  | [], _ => ⟨1, 0, by decide, by simp, by simp, fun k => by rw [cf_nil]; exact Lat.zero⟩
  | a :: f, h => by
    obtain ⟨D, N, h1, h2, h3, h4⟩ := (Ln.of f fun q hq => h q (List.mem_cons_of_mem _ hq)).ex
    obtain ⟨a1, a2⟩ := h a (List.mem_cons_self ..)
    have ad : a.den ≤ 2 ^ m := by omega
    have an : a.num.natAbs ≤ 2 ^ m := by omega
    have e : 2 ^ (m * (a :: f).length) = 2 ^ m * 2 ^ (m * f.length) := by rw [List.length_cons, Nat.mul_succ, Nat.pow_add, Nat.mul_comm]
    refine ⟨a.den * D, 2 ^ m * 2 ^ (m * f.length), Nat.mul_pos (Nat.pos_of_ne_zero a.den_nz) h1, by rw [e]; exact Nat.mul_le_mul ad h2, by rw [e]; exact Nat.le_refl _, fun k => ?_⟩
    cases k with
    | zero => rw [cf_zero]; exact (Lat.of a).up.mono (Nat.mul_le_mul an h2)
    | succ k =>
      rw [cf_succ]
      have := (h4 k).up (E := a.den)
      rw [Nat.mul_comm D] at this
      refine this.mono ?_
      rw [Nat.mul_comm]
      exact Nat.mul_le_mul ad h3
theorem Ln.padd {d n e m : Nat} {f g : List Rat} (h : Ln d n f) (k : Ln e m g) : Ln (d + e) (n + e + (m + d) + 1) (padd f g) := by
  obtain ⟨D, N, h1, h2, h3, h4⟩ := h.ex
  obtain ⟨E, M, k1, k2, k3, k4⟩ := k.ex
  refine ⟨D * E, N * E + M * D, Nat.mul_pos h1 k1, by rw [Nat.pow_add]; exact Nat.mul_le_mul h2 k2, ?_, fun i => ?_⟩
  · have a : N * E ≤ 2 ^ (n + e) := by rw [Nat.pow_add]; exact Nat.mul_le_mul h3 k2
    have b : M * D ≤ 2 ^ (m + d) := by rw [Nat.pow_add]; exact Nat.mul_le_mul k3 h2
    have c : 2 ^ (n + e) ≤ 2 ^ (n + e + (m + d)) := Nat.pow_le_pow_right (by decide) (by omega)
    have c' : 2 ^ (m + d) ≤ 2 ^ (n + e + (m + d)) := Nat.pow_le_pow_right (by decide) (by omega)
    rw [Nat.pow_succ]
    omega
  · rw [cf_padd]
    have z := (k4 i).up (E := D)
    rw [Nat.mul_comm E] at z
    exact (h4 i).up.add z
theorem Lat.mc {D E N M : Nat} {g : List Rat} (k4 : ∀ k, Lat E M (cf g k)) : ∀ (f : List Rat) (_ : ∀ k, Lat D N (cf f k)) (n : Nat), Lat (D * E) (f.length * (N * M)) (mc f g n)
  | [], _, n => by rw [mc_nil_left]; exact Lat.zero
  | a :: f, h, 0 => by
    have := (h 0).mul (k4 0)
    rw [cf_zero] at this
    rw [Mt.mc]
    exact this.mono (Nat.le_mul_of_pos_left _ (by simp))
  | a :: f, h, n + 1 => by
    have z := (h 0).mul (k4 (n + 1))
    rw [cf_zero] at z
    rw [Mt.mc]
    have := z.add (Lat.mc k4 f (fun k => by have := h (k + 1); rw [cf_succ] at this; exact this) n)
    refine this.mono ?_
    rw [List.length_cons, Nat.succ_mul, Nat.add_comm]
    exact Nat.le_refl _
theorem Ln.pmul {d n e m l : Nat} {f g : List Rat} (h : Ln d n f) (k : Ln e m g) (hl : f.length ≤ 2 ^ l) : Ln (d + e) (l + (n + m)) (pmul f g) := by
  obtain ⟨D, N, h1, h2, h3, h4⟩ := h.ex
  obtain ⟨E, M, k1, k2, k3, k4⟩ := k.ex
  refine ⟨D * E, f.length * (N * M), Nat.mul_pos h1 k1, by rw [Nat.pow_add]; exact Nat.mul_le_mul h2 k2, ?_, fun i => by rw [cf_pmul]; exact Lat.mc k4 f h4 i⟩
  rw [Nat.pow_add, Nat.pow_add]
  exact Nat.mul_le_mul hl (Nat.mul_le_mul h3 k3)
theorem Ln.rowIn {d n e m l : Nat} {f g : List Rat} (h : Ln d n f) (k : Ln e m g) (hl : f.length ≤ 2 ^ l) {i j : Nat} (hi : i < f.length) (hj : j ≤ g.length) :
    Ln (d + e) (l + (n + m) + 1) (rowIn (prodIn f g i) i (cf f i) g j) := by
  obtain ⟨D, N, h1, h2, h3, h4⟩ := h.ex
  obtain ⟨E, M, k1, k2, k3, k4⟩ := k.ex
  refine ⟨D * E, f.length * (N * M) + N * M, Nat.mul_pos h1 k1, by rw [Nat.pow_add]; exact Nat.mul_le_mul h2 k2, ?_, fun p => ?_⟩
  · have a : f.length * (N * M) ≤ 2 ^ (l + (n + m)) := by rw [Nat.pow_add, Nat.pow_add]; exact Nat.mul_le_mul hl (Nat.mul_le_mul h3 k3)
    have b : N * M ≤ f.length * (N * M) := Nat.le_mul_of_pos_left _ (by omega)
    rw [Nat.pow_succ]
    omega
  · rw [cf_rowIn _ _ _ _ (by rw [prodIn_len]; omega), cf_prodIn f g p i (by omega)]
    have a : Lat (D * E) ((f.take i).length * (N * M)) (mc (f.take i) g p) := Lat.mc k4 (f.take i) (fun q => by
      rw [cf_take]
      split
      · exact h4 q
      · exact Lat.zero) p
    have a' := a.mono (N := f.length * (N * M)) (Nat.mul_le_mul (by rw [List.length_take]; omega) (Nat.le_refl _))
    refine a'.add ?_
    split
    · exact (h4 i).mul (k4 _)
    · exact Lat.zero
theorem Ln.take {d n : Nat} {f : List Rat} (h : Ln d n f) (k : Nat) : Ln d n (f.take k) := by
  obtain ⟨D, N, h1, h2, h3, h4⟩ := h.ex
  refine ⟨D, N, h1, h2, h3, fun i => ?_⟩
  rw [cf_take]
  split
  · exact h4 i
  · exact Lat.zero
theorem Ln.pmulB {b c : Nat} {f g : List Rat} (h : Ln b b f) (k : Ln c c g) (hl : f.length ≤ 64) : Ln (b + c + 6) (b + c + 6) (Mt.pmul f g) := (h.pmul k (l := 6) hl).mono (by omega) (by omega)
theorem Ln.rowB {b c : Nat} {f g : List Rat} (h : Ln b b f) (k : Ln c c g) (hl : f.length ≤ 64) {i j : Nat} (hi : i < f.length) (hj : j ≤ g.length) : Ln (b + c + 7) (b + c + 7) (Mt.rowIn (prodIn f g i) i (cf f i) g j) := (h.rowIn k (l := 6) hl hi hj).mono (by omega) (by omega)
end Mt
namespace L2
open PySem PySem.Spec PyProof.Rows
section
variable {prog : Program} {w : World} {A : Around} {E : Value → Shared → Prop} {s : Shared}
theorem nx_tup {it l : Addr} {i : Nat} {xs : Array Value} {x : Value} {Q : Value → Shared → Prop} (p : s.heap.IsTupleIter it l i) (q : s.heap.IsTuple l xs) (e : xs[i]? = some x)
    (k : ∀ h', h'.IsTupleIter it l (i + 1) → Heap.SameBut it s.heap h' → Q x { s with heap := h' }) : wpAny (model prog w) A (Builtin.SmallTypes.nextOf (.ref it)) Q E s := by
  obtain ⟨oi, p1, p2, p3⟩ := id p
  obtain ⟨ol, q1, _, n, q2⟩ := q
  unfold Builtin.SmallTypes.nextOf
  refine wpAny_bind (wpAny_callSpecial?_slot (name := Str.ofString "__next__") p.typeIs PySem.F.slot_tuple_iterator_next (wpAny_call_entry PySem.F.slot_tuple_iterator_next p.typeIs PySem.F.entry_tuple_iterator_next ?_ (PySem.F.args_tuple_iterator_next_1 _)))
  refine wpAny_bind (m := field (.ref it) 0) (wpAny_field p1 p3 (x := .ref l) rfl ?_)
  show wpAny _ _ (if (Value.ref l == Value.none) = true then _ else _) _ _ s
  rw [if_neg (show ¬((Value.ref l == Value.none) = true) from Bool.false_ne_true)]
  refine wpAny_bind (m := field (.ref it) 1) (wpAny_field p1 p3 (x := .int i 0) rfl ?_)
  refine wpAny_bind (m := seqItems? (.ref l)) (wpAny_seqItems q1 q2 ?_)
  simp only [Int.toNat_natCast, e]
  refine wpAny_bind (wpAny_setField p1 p3 (by simp) (wpAny_pure ⟨x, rfl, wpAny_pure (k _ ⟨_, Heap.get?_update_self _ p1 (Obj.isFreed_of_fields (Obj.data_mapFields p3 _)), (Obj.cls_mapFields ..).trans p2, ?_⟩ (Heap.SameBut.update ..))⟩))
  rw [Obj.data_mapFields p3]; simp [rawInt]
theorem nx_tup_end {it l : Addr} {i : Nat} {xs : Array Value} {Q : Value → Shared → Prop} (hh : A.handled = none) (p : s.heap.IsTupleIter it l i) (q : s.heap.IsTuple l xs) (e : xs[i]? = none)
    (k : ∀ h' x, Heap.ExtBut it s.heap h' → (∃ o, h'.get? x = some o ∧ o.cls = .type "StopIteration") → E (.ref x) { s with heap := h' }) : wpAny (model prog w) A (Builtin.SmallTypes.nextOf (.ref it)) Q E s := by
  obtain ⟨oi, p1, p2, p3⟩ := id p
  obtain ⟨ol, q1, _, n, q2⟩ := q
  unfold Builtin.SmallTypes.nextOf
  refine wpAny_bind (wpAny_callSpecial?_slot (name := Str.ofString "__next__") p.typeIs PySem.F.slot_tuple_iterator_next (wpAny_call_entry PySem.F.slot_tuple_iterator_next p.typeIs PySem.F.entry_tuple_iterator_next ?_ (PySem.F.args_tuple_iterator_next_1 _)))
  refine wpAny_bind (m := field (.ref it) 0) (wpAny_field p1 p3 (x := .ref l) rfl ?_)
  show wpAny _ _ (if (Value.ref l == Value.none) = true then _ else _) _ _ s
  rw [if_neg (show ¬((Value.ref l == Value.none) = true) from Bool.false_ne_true)]
  refine wpAny_bind (m := field (.ref it) 1) (wpAny_field p1 p3 (x := .int i 0) rfl ?_)
  refine wpAny_bind (m := seqItems? (.ref l)) (wpAny_seqItems q1 q2 ?_)
  simp only [Int.toNat_natCast, e]
  refine wpAny_bind (wpAny_rule (wpAny_bind (wpAny_setField p1 p3 (by simp) ?_)))
  refine wpAny_bind (m := newExc (.type "StopIteration") []) ?_
  simp only [newExc, newTuple]
  refine wpAny_bind (wpAny_newObj_type ?_ (by size_fits))
  refine wpAny_bind (m := firstArgMember _ _) (wpAny_of_eq (a := Value.none) (by first | rfl | (simp only [firstArgMember]; rfl)) ?_)
  refine wpAny_newObj_type ?_ (by size_fits)
  simp only [raiseNew]
  refine wpAny_bind (wpAny_handled ?_)
  first | rw [show A.in1.handled = none from hh] | rw [hh]
  exact wpAny_bind (wpAny_pure (wpAny_throw (k _ _ (((Heap.SameBut.update ..).extBut.push _).push _) ⟨_, Heap.get?_push_size _ rfl, rfl⟩)))
theorem en_item {e it l : Addr} {i : Nat} {xs : Array Value} {x old : Value} {Q : Option Value → Shared → Prop} (ye : IsEnum s.heap e it i old) (yi : s.heap.IsTupleIter it l i) (yl : s.heap.IsTuple l xs) (yx : xs[i]? = some x) (ne : e ≠ it)
    (k : ∀ h', IsEnumOut h' e it ((i : Int) + 1) x s.heap.objs.size → h'.IsTupleIter it l (i + 1) → h'.get? s.heap.objs.size = some { cls := .type "tuple", data := .seq #[.int i s.toks, x] } →
      (∀ b o, b ≠ e → b ≠ it → s.heap.get? b = some o → h'.get? b = some o) → Q (some (.ref s.heap.objs.size)) { s with heap := h', toks := s.toks + 1 }) : wpAny (model prog w) A (pyNext (.ref e)) Q E s := by
  have ty : s.TypeIs (.ref e) "enumerate" := ⟨_, ye, rfl⟩
  obtain ⟨g0, gs, dr, tk, os⟩ := s
  unfold pyNext
  refine wpAny_bind (wpAny_attempt (wpAny_callSpecial?_slot (name := Str.ofString "__next__") ty PySem.F.slot_enumerate_next (wpAny_call_entry PySem.F.slot_enumerate_next ty PySem.F.entry_enumerate_next ?_ (PySem.F.args_enumerate_next_1 _))))
  refine wpAny_bind (m := field (.ref e) 2) (wpAny_field ye rfl (x := .ref it) rfl (wpAny_bind (nx_tup yi yl yx fun g1 yi1 b1 => ?_)))
  have b1 : Heap.SameBut it g0 g1 := b1
  have ye1 : IsEnum g1 e it i old := (b1.2 e ne).trans ye
  refine wpAny_bind (m := field (.ref e) 3) (wpAny_field ye1 rfl (x := rawInt i) rfl ?_)
  refine wpAny_bind (m := field (.ref e) 4) (wpAny_field ye1 rfl (x := .none) rfl ?_)
  refine wpAny_bind (m := mkInt (i : Int)) (wpAny_mkInt ?_)
  refine wpAny_bind (m := setField (.ref e) 3 (rawInt ((i : Int) + 1))) (wpAny_setField_rec ye1 (by simp) fun g2 ye2 b2 => ?_)
  have b2 : Heap.SameBut e g1 g2 := b2
  have ye2 : IsEnum g2 e it ((i : Int) + 1) old := ye2
  refine wpAny_bind (m := setField (.ref e) 4 .none) (wpAny_setField_rec ye2 (by simp) fun g3 ye3 b3 => ?_)
  have b3 : Heap.SameBut e g2 g3 := b3
  have ye3 : IsEnum g3 e it ((i : Int) + 1) old := ye3
  refine wpAny_bind (m := newTuple [.int i tk, x]) (wpAny_newTuple ?_)
  have sz : g3.objs.size = g0.objs.size := by rw [b3.1, b2.1, b1.1]
  have el : e < g0.objs.size := Heap.lt_size ye
  have yi3 : g3.IsTupleIter it l (i + 1) := (yi1.extBut b2.extBut (Ne.symm ne)).extBut b3.extBut (Ne.symm ne)
  have k3 : ∀ b o, b ≠ e → b ≠ it → g0.get? b = some o → g3.get? b = some o := fun b o z1 z2 z => b3.extBut b o z1 (b2.extBut b o z1 (b1.extBut b o z2 z))
  have ye4 : IsEnum (g3.push { cls := .type "tuple", data := .seq #[.int i tk, x] }) e it ((i : Int) + 1) old := Heap.get?_push_of_some _ ye3
  have t4 : (g3.push { cls := .type "tuple", data := .seq #[.int i tk, x] }).get? g0.objs.size = some { cls := .type "tuple", data := .seq #[.int i tk, x] } := by rw [← sz]; exact Heap.get?_push_size _ rfl
  have yi4 : (g3.push { cls := .type "tuple", data := .seq #[.int i tk, x] }).IsTupleIter it l (i + 1) := let ⟨o, z, r⟩ := yi3; ⟨o, Heap.get?_push_of_some _ z, r⟩
  have k4 : ∀ b o, b ≠ e → b ≠ it → g0.get? b = some o → (g3.push { cls := .type "tuple", data := .seq #[.int i tk, x] }).get? b = some o := fun b o z1 z2 z => Heap.get?_push_of_some _ (k3 b o z1 z2 z)
  rw [sz]
  generalize g3.push { cls := .type "tuple", data := .seq #[.int i tk, x] } = g4 at ye4 t4 yi4 k4 ⊢
  refine wpAny_bind (m := Builtin.SmallTypes.ownedTupleIsFree (.ref e)) ?_
  unfold Builtin.SmallTypes.ownedTupleIsFree
  refine wpAny_bind (wpAny_field ye4 rfl (x := .none) rfl (wpAny_pure ?_))
  simp only [if_true]
  refine wpAny_bind (wpAny_rule (wpAny_bind (wpAny_field ye4 rfl (x := old) rfl (wpAny_bind (wpAny_setField_rec ye4 (by simp) fun g5 ye5 b5 => ?_)))))
  have b5 : Heap.SameBut e g4 g5 := b5
  have ye5 : IsEnum g5 e it ((i : Int) + 1) x := ye5
  refine wpAny_bind (m := Builtin.SmallTypes.ownedTupleHandOut (.ref e) (.ref g0.objs.size)) ?_
  unfold Builtin.SmallTypes.ownedTupleHandOut
  refine wpAny_bind (wpAny_setField_rec ye5 (by simp) fun g6 ye6 b6 => ?_)
  have b6 : Heap.SameBut e g5 g6 := b6
  have ye6 : IsEnumOut g6 e it ((i : Int) + 1) x g0.objs.size := ye6
  refine wpAny_setField_rec ye6 (by simp) fun g7 ye7 b7 => ?_
  have b7 : Heap.SameBut e g6 g7 := b7
  have b57 : ∀ b o, b ≠ e → g4.get? b = some o → g7.get? b = some o := fun b o z1 z => b7.extBut b o z1 (b6.extBut b o z1 (b5.extBut b o z1 z))
  refine wpAny_bind (wpAny_letGo (wpAny_pure ⟨_, rfl, wpAny_pure (k g7 ye7 ?_ (b57 _ _ (Nat.ne_of_gt el) t4) fun b o z1 z2 z => b57 b o z1 (k4 b o z1 z2 z))⟩))
  obtain ⟨o, z, r⟩ := yi4
  exact ⟨o, b57 it o (Ne.symm ne) z, r⟩
theorem en_end {e it l : Addr} {i : Nat} {xs : Array Value} {old : Value} {Q : Option Value → Shared → Prop} (hh : A.handled = none) (ye : IsEnum s.heap e it i old) (yi : s.heap.IsTupleIter it l i) (yl : s.heap.IsTuple l xs) (yx : xs[i]? = none)
    (k : ∀ h', Heap.ExtBut it s.heap h' → Q none { s with heap := h' }) : wpAny (model prog w) A (pyNext (.ref e)) Q E s := by
  have ty : s.TypeIs (.ref e) "enumerate" := ⟨_, ye, rfl⟩
  unfold pyNext
  refine wpAny_bind (wpAny_attempt (wpAny_callSpecial?_slot (name := Str.ofString "__next__") ty PySem.F.slot_enumerate_next (wpAny_call_entry PySem.F.slot_enumerate_next ty PySem.F.entry_enumerate_next ?_ (PySem.F.args_enumerate_next_1 _))))
  refine wpAny_bind (m := field (.ref e) 2) (wpAny_field ye rfl (x := .ref it) rfl (wpAny_bind (nx_tup_end hh yi yl yx fun h' x z ⟨o, ho, hc⟩ => ?_)))
  exact wpAny_bind (wpAny_isInstance (T := "StopIteration") (b := true) ⟨o, ho, hc⟩ isSubtype_stop (wpAny_pure (k _ z)))
end
def itO (l : Addr) : Obj := { cls := .type "tuple_iterator", data := .fields #[.ref l, .int 0 0] }
def enO (it : Addr) : Obj := { cls := .type "enumerate", data := .fields #[.none, .bool false, .ref it, rawInt 0, .none, .none] }
theorem meets_enT (l : Addr) (its : Array Value) (n : Nat) (dd : Option Addr) (sl : Array (Option Value)) :
    Meets (Builtin.«enumerate.__new__» ⟨[.type "enumerate", .ref l], []⟩) (fun _ R s => s.heap.get? l = some { cls := .type "tuple", dict := dd, data := .seq its n, slots := sl } ∧
      R (.ok (.ret (.ref (s.heap.push (itO l)).objs.size))) { s with heap := (s.heap.push (itO l)).push (enO s.heap.objs.size) }) :=
  .of_wp fun prog w A R s h => by
    obtain ⟨g0, gs, dr, tk, os⟩ := s
    obtain ⟨yl, h⟩ := h
    have sub := sub_enumerate
    have yt : Heap.IsTuple (Shared.heap ⟨g0, gs, dr, tk, os⟩) l its := ⟨_, yl, rfl, n, rfl⟩
    wp_walk using AutoSeq1.wpAny_loadPart' yl
    refine wpAny_stack_any fun st => wpAny_pure ?_
    split
    · rename_i c _ _ _ _ _
      cases (c == Value.type "enumerate") <;> (wp_walk using AutoSeq1.wpAny_loadPart' yl, wpAny_pyIter_tuple yt; exact ⟨_, rfl, h⟩)
    · wp_walk using AutoSeq1.wpAny_loadPart' yl, wpAny_pyIter_tuple yt
      exact ⟨_, rfl, h⟩
section
variable {prog : Program} {w : World} {A : Around} {E : Value → Shared → Prop} {s : Shared}
theorem call_enT {l : Addr} {its : Array Value} {Q : Value → Shared → Prop} (yt : s.heap.IsTuple l its)
    (k : ∀ h', IsEnum h' (s.heap.objs.size + 1) s.heap.objs.size 0 .none → h'.IsTupleIter s.heap.objs.size l 0 → (∀ b o, s.heap.get? b = some o → h'.get? b = some o) → Q (.ref (s.heap.objs.size + 1)) { s with heap := h' }) :
    wpAny (model prog w) A (call (.type "enumerate") [.ref l]) Q E s := by
  obtain ⟨⟨c, dd, dt, sl⟩, yl, hc, n, hd⟩ := yt
  have hc : c = .type "tuple" := hc
  have hd : dt = .seq its n := hd
  subst hc hd
  refine callType_new PySem.F.called_enumerate (by decide) (PySem.F.typeCall_enumerate_1 _) (PySem.F.newCall_enumerate_1 _) (fun obj => PySem.F.args_object_init_2 obj _) PySem.F.entry_enumerate_new (meets_enT l its n dd sl) ⟨yl, ?_⟩
  have hz : (s.heap.push (itO l)).objs.size = s.heap.objs.size + 1 := Heap.size_push ..
  have ye : IsEnum ((s.heap.push (itO l)).push (enO s.heap.objs.size)) (s.heap.objs.size + 1) s.heap.objs.size 0 .none := by
    rw [← hz]
    exact Heap.get?_push_size _ rfl
  show _ ∧ _
  rw [hz]
  exact ⟨⟨_, ye, rfl⟩, k _ ye ⟨_, Heap.get?_push_of_some _ (Heap.get?_push_size _ rfl), rfl, rfl⟩ fun b o z => Heap.get?_push_of_some _ (Heap.get?_push_of_some _ z)⟩
end
theorem Inv.turnLaid {X : Cx} {pins : List (Addr × Obj)} {σ : St} {H : Hp} {s : Shared} {h' : Heap} {t' : Nat} {e it t : Addr} {o : HO} (I : Inv X pins σ H s) (k : ∀ b u, b ≠ e → b ≠ it → s.heap.get? b = some u → h'.get? b = some u) (fe : FpOk X pins H e) (fi : FpOk X pins H it)
    (hn : H t = none) (ht : s.heap.get? t = none) (new : ObjOk X.prog X.w (upd H t o) h' t o) : Inv X pins σ (upd H t o) { s with heap := h', toks := t' } := by
  have nt : ∀ b u, H b = some u → b ≠ t := fun b u z y => by rw [y, hn] at z; cases z
  have ne : ∀ b u, H b = some u → b ≠ e := fun b u z y => by rw [y, fe.1] at z; cases z
  have ni : ∀ b u, H b = some u → b ≠ it := fun b u z y => by rw [y, fi.1] at z; cases z
  have out : ∀ b, b ∉ [e, it] → b ≠ e ∧ b ≠ it := fun b z => ⟨fun y => z (by simp [y]), fun y => z (by simp [y])⟩
  refine I.step (g' := s.gens) (d' := s.drawn) (ch := [e, it]) (fun b hb => ?_) (fun b u _ _ hc z _ => k b u (out b hc).1 (out b hc).2 z) (fun b u _ _ hc z _ => ⟨u.slots, k b u (out b hc).1 (out b hc).2 z⟩) (fun b u hc z y => ?_)
    (fun b u hc z => ⟨u, k b u (out b hc).1 (out b hc).2 z⟩) (fun b xs z => ?_) (fun b u v z => ?_) (fun b ps z => ⟨#[], ?_⟩) (fun m hm => ?_) (fun b u z => ?_) I.bare
  · simp only [List.mem_cons, List.not_mem_nil, or_false] at hb
    rcases hb with rfl | rfl
    · exact ⟨fe.2.2.2.1, fe.2.1, fe.2.2.2.2.1, fe.2.2.2.2.2⟩
    · exact ⟨fi.2.2.2.1, fi.2.1, fi.2.2.2.2.1, fi.2.2.2.2.2⟩
  · rw [upd_ne (by rintro rfl; rw [ht] at z; cases z)]; exact y
  · rw [upd_ne (nt _ _ z)]; exact z
  · rw [upd_ne (nt _ _ z)]; exact z
  · rw [upd_ne (nt _ _ z), z]; simp
  · obtain ⟨u, es, ep, hu, r⟩ := hm
    exact ⟨u, es, ep, k _ u (Ne.symm fe.2.1) (Ne.symm fi.2.1) hu, r⟩
  · by_cases hb : b = t
    · subst hb
      rw [upd_same] at z
      cases z
      exact new
    · rw [upd_ne hb] at z
      refine (I.hok b u z).stay (fun c v hc q => ?_) (fun c q => by rw [upd_ne (nt _ _ q)]; exact q) fun c xs q => by rw [upd_ne (nt _ _ q)]; exact q
      rcases hc with y | y
      · subst y; exact k c v (ne _ _ z) (ni _ _ z) q
      · exact k c v (ne _ _ y) (ni _ _ y) q
def Ite (K : PySem.W.Frag) (a : Addr) : It :=
  ⟨fun i H => ∃ xs x, SqT K H a xs ∧ xs[i]? = some x, fun i H v H' => ∃ p, v = .ref p ∧ H p = none ∧ ∀ xs x, SqT K H a xs → xs[i]? = some x → H' = upd H p (.tup [.int i, x]), fun i H => ∃ xs, SqT K H a xs ∧ xs.length ≤ i⟩
theorem turn_enT {P : Program} {w : World} {K : PySem.W.Frag} {es : List Expr} {y1 : Nat} {tp : Pos} (a e it : Addr) (ne : e ≠ it) : Turn P w K (.Tuple es y1 tp) (Ite K a) [e, it] e (fun i h => (∃ old, IsEnum h e it i old) ∧ h.IsTupleIter it a i) where
  mem := by simp
  obj := fun i h st b hb => by
    simp only [List.mem_cons, List.not_mem_nil, or_false] at hb
    rcases hb with rfl | rfl
    · obtain ⟨⟨old, z⟩, _⟩ := st
      exact ⟨_, z, fun v q => by cases (show Data.fields _ = Data.cell v from q)⟩
    · obtain ⟨_, o, z, c, d⟩ := st
      exact ⟨o, z, fun v q => by rw [d] at q; cases q⟩
  keep := fun i h h' st k => by
    obtain ⟨⟨old, z⟩, o, y, r⟩ := st
    exact ⟨⟨old, k e (by simp) _ z⟩, o, k it (by simp) _ y, r⟩
  item := by
    intro X hP hw hK hc i pins s σ H E I hf st hg
    subst hP hw hK
    obtain ⟨xs, x, hq, hx⟩ := hg
    obtain ⟨its, rv, p, hz⟩ := I.tuple hq
    obtain ⟨u, hu, ru⟩ := rv.get hx
    obtain ⟨⟨old, ye⟩, yi⟩ := st
    refine en_item ye yi (show s.heap.IsTuple a its.toArray from p) (x := u) (by simpa using hu) ne fun h1 yo yi1 yt k1 => ⟨_, rfl, ?_⟩
    refine wpAny_letOwnedTupleGo_enum yo fun h2 ye2 b2 => ?_
    have b2 : Heap.SameBut e h1 h2 := b2
    have el : e < s.heap.objs.size := Heap.lt_size ye
    have tn : e ≠ s.heap.objs.size := Nat.ne_of_lt el
    have fr : H s.heap.objs.size = none := I.hok.fresh (Nat.le_refl _)
    have yt2 : h2.get? s.heap.objs.size = some { cls := .type "tuple", data := .seq #[.int i s.toks, u] } := b2.extBut _ _ (Ne.symm tn) yt
    have I2 : Inv X pins σ (upd H s.heap.objs.size (.tup [.int i, x])) { s with heap := h2, toks := s.toks + 1 } :=
      I.turnLaid (fun b o z1 z2 z => b2.extBut b o z1 (k1 b o z1 z2 z)) (hf e (by simp)) (hf it (by simp)) fr (Heap.get?_none_of_le (Nat.le_refl _))
        ⟨sz_le 2 (by decide), [.int i s.toks, u], .cons ⟨_, rfl⟩ (.cons ru .nil), ⟨_, yt2, rfl, _, rfl⟩⟩
    have hit : it ≠ s.heap.objs.size := by
      obtain ⟨o, z, _⟩ := yi
      exact Nat.ne_of_lt (Heap.lt_size z)
    refine ⟨.ref s.heap.objs.size, _, I2, rfl, ⟨_, rfl, fr, fun ys y hy hyi => ?_⟩, ⟨⟨_, ye2⟩, yi1.extBut b2.extBut (Ne.symm ne)⟩, fun b hb => ?_⟩
    · have exy := I.tuple_inj hy hq
      subst exy
      rw [hx] at hyi
      cases hyi
      rfl
    · have h0 := (hf b hb).1
      simp only [List.mem_cons, List.not_mem_nil, or_false] at hb
      rcases hb with rfl | rfl
      · rw [upd_ne tn]; exact h0
      · rw [upd_ne hit]; exact h0
  done := by
    intro X hP hw hK hc i pins s σ H E I hf st hg
    subst hP hw hK
    obtain ⟨xs, hq, hx⟩ := hg
    obtain ⟨its, rv, p, hz⟩ := I.tuple hq
    obtain ⟨⟨old, ye⟩, yi⟩ := st
    obtain ⟨f0, f1, f2, f3, f4, f5⟩ := hf it (by simp)
    have hl := rv.length
    exact en_end (I.ok.hd hc) ye yi (show s.heap.IsTuple a its.toArray from p) (by simp; omega) fun h' eb => ⟨rfl, I.turned (t' := s.toks) (fun b o hb z => eb b o hb z) f0 f1 f3 f4 f5⟩
  self := fun _ _ _ _ _ st h => by
    obtain ⟨⟨old, z⟩, _⟩ := st
    exact wpAny_pyIter_enum z h
section
variable {X : Cx} {es : List Expr} {y1 : Nat} {tp : Pos}
def iEn (K : PySem.W.Frag) (ta : TA) : TI := fun σ H R => ta σ H fun vs H1 => ∃ a, vs = [.ref a] ∧ (∃ xs, SqT K H1 a xs) ∧ R (Ite K a) H1
theorem pi_enT {a : Expr} {ta : TA} {p pos : Pos} (hg : Gl X "enumerate") (hm : X.mg "enumerate" = none) (ha : PA X [a] ta) (hs : starEach [a] X.env = [(false, eval a X.env)] := by rfl) : PI X (.Tuple es y1 tp) (.Call (.Name "enumerate" p) [a] [] pos) (iEn X.K ta) := by
  intro pins s σ H R I h
  refine Call_ (ld_blt I hg hm PyProof.Rows.boot_enumerate (PyProof.Rows.callWith_type1 (thn (ha pos pins s σ H _ I h) fun us s1 ⟨vs, H1, I1, r1, q1⟩ => ?_) hs rfl))
  obtain ⟨b, e, ⟨xs, hq⟩, q⟩ := q1
  subst e
  obtain ⟨u, rfl, rx⟩ := vals1 r1
  cases rx
  obtain ⟨its, rv, yt, hz⟩ := I1.tuple hq
  refine call_enT (show s1.heap.IsTuple b its.toArray from yt) fun h' ye yi kp => wpAny_pyIter_enum ye ?_
  refine ⟨s1.heap.objs.size + 1, [s1.heap.objs.size + 1, s1.heap.objs.size], _, _, H1, rfl, I1.kept (t' := s1.toks) kp, turn_enT b _ _ (Nat.succ_ne_self _), ⟨⟨_, ye⟩, yi⟩, fun c hc => ?_, q⟩
  simp only [List.mem_cons, List.not_mem_nil, or_false] at hc
  rcases hc with rfl | rfl
  · exact I1.fpOk (Nat.le_succ _) (I1.hok.fresh (Nat.le_succ _))
  · exact I1.fpOk (Nat.le_refl _) (I1.hok.fresh (Nat.le_refl _))
def FE (xs : List V) (at_ : Hp → Prop) (g : TG) (tb : TS) (D : Ends) (σ : St) (H : Hp) : Prop := ∃ Pv : Nat → St → Hp → Prop, Pv 0 σ H ∧ (∀ i σ H, i ≤ xs.length → Pv i σ H → at_ H) ∧
  (∀ i x σ H p, xs[i]? = some x → Pv i σ H → H p = none → g (.ref p) σ (upd H p (.tup [.int i, x])) fun σ2 H2 => tb { D with nx := Pv (i + 1), ct := Pv (i + 1), bk := D.nx } σ2 H2) ∧ ∀ σ H, Pv xs.length σ H → D.nx σ H
def tForE (K : PySem.W.Frag) (te : TE) (g : TG) (tb : TS) : TS := fun D σ H => te σ H fun v H1 => ∃ a xs, v = .ref a ∧ SqT K H1 a xs ∧ FE xs (fun H => SqT K H a xs) g tb D σ H1
theorem ps_forE {l : Expr} {body : List Stmt} {te : TE} {g : TG} {tb : TS} {p pos pos' : Pos} (hc : X.calm = true) (hp : PassesOwn (model X.prog X.w) X.A X.env X.xe) (hm : X.mg "enumerate" = none) (hl : PE X l te) (hgt : PG X (.Tuple es y1 tp) g) (hb : PSs X body tb)
    (hg : Gl X "enumerate" := by rfl) (hs : starEach [l] X.env = [(false, eval l X.env)] := by rfl) : PS X (.For (.Tuple es y1 tp) (.Call (.Name "enumerate" p) [l] [] pos') body [] pos) (tForE X.K te g tb) := by
  intro pins s σ H D I h
  refine ps_for hp hc (pi_enT hg hm (pa_cons hl.mo pa_nil (by rw [hs]; rfl)) hs) hgt hb (by intro _; rfl) pins s σ H D I ?_
  refine ⟨_, h, fun v H1 ⟨a, xs, e, q, Pv, p0, pl, pt, pd⟩ => ⟨a, by rw [e], ⟨xs, q⟩, ?_⟩⟩
  refine ⟨fun i m σ H => m = xs.length - i ∧ i ≤ xs.length ∧ Pv i σ H, ⟨xs.length, by simp, Nat.zero_le _, p0⟩, ?_⟩
  rintro i m σ H ⟨rfl, hi, z⟩
  have y := pl i σ H hi z
  by_cases hlt : i < xs.length
  · refine .inr ⟨⟨xs, xs[i], y, by simp [hlt]⟩, Pv (i + 1), fun σ' H' z' => ⟨xs.length - (i + 1), by omega, rfl, hlt, z'⟩, fun x H' yl => ?_⟩
    obtain ⟨t, rfl, ht, hu⟩ := yl
    have hx : xs[i]? = some xs[i] := by simp [hlt]
    rw [hu xs _ y hx]
    exact pt i _ σ H t hx z ht
  · have e : i = xs.length := by omega
    subst e
    exact .inl ⟨⟨xs, y, Nat.le_refl _⟩, pd σ H z⟩
end
def IsRevT (h : Heap) (r l : Addr) (i : Int) : Prop := ∃ o, h.get? r = some o ∧ o.cls = .type "reversed" ∧ o.data = .fields #[.ref l, rawInt i]
section
variable {prog : Program} {w : World} {A : Around} {E : Value → Shared → Prop} {s : Shared}
theorem IsRevT.ty {r l : Addr} {i : Int} (y : IsRevT s.heap r l i) : s.TypeIs (.ref r) "reversed" := let ⟨o, z, c, _⟩ := y; ⟨o, z, c⟩
end
section
variable {X : Cx} {tg : Expr}
def tForV (K : PySem.W.Frag) (te : TE) (g : TG) (tb : TS) : TS := fun D σ H => te σ H fun v H1 => ∃ a xs, v = .ref a ∧ SqT K H1 a xs ∧ FL xs.reverse (fun H => SqT K H a xs) g tb D σ H1
end
theorem Ln.sz {b : Nat} {f : List Rat} (h : Mt.Ln b b f) (k : Nat) : Sz (b + 1) (Mt.cf f k) := ⟨(h.bits k).1, (h.bits k).2⟩
theorem Sz.ln {m : Nat} {f : List Rat} (h : ∀ q ∈ f, Sz m q) : Mt.Ln (m * f.length) (m * f.length) f := Mt.Ln.of f fun q hq => ⟨(h q hq).t, (h q hq).b⟩
theorem ixN_nat {n k : Nat} (h : k < n) : ixN n (k : Int) = some k := by
  simp [ixN]
  omega
end L2
namespace L2
open PySem PySem.Spec PyProof.Rows PySem.W
def excInit (K : Frag) (C fI : Addr) : Bool :=
  match K.lookup C with
  | some ⟨.type "type", _, .cls cd, sl⟩ =>
    (match cd.mro, sl.toList with
      | .ref D :: up, [_, _, _, _, some (.builtin n), _] => D == C && (n == "ValueError.__new__" && (!cd.hasDel && (tailIn K vmro up && (isFn K (.ref fI) && findIn K (.ref C) "__init__" == some (some (.ref fI))))))
      | _, _ => false)
  | _ => false
section
variable {prog : Program} {w : World} {A : Around} {E : Value → Shared → Prop} {h : Heap} {g : Array GenState} {d : Drawn} {t : Nat} {os : OsState}
variable {nm q : Str} {C N fI : Addr} {bs bm : List Value} {hdct : Bool} {sn : List Str} {sub : List Value} {ab : Bool} {col : Option Bool} {dd : Option Addr} {k0 k1 k2 k3 k5 : Option Value} {K : Frag} {us : List Value}
end
end L2
namespace L2
open PySem PySem.Spec PyProof.Rows PySem.W
def rawX (e : Addr) (cls : Value) (dv : Option Addr) : HO := .ext fun h => ∃ t : Addr, h.get? e = some { cls := cls, dict := dv, data := .fields #[.ref t, .none, .none, .none, .bool false, .none] }
theorem rawX_ok {P : Program} {w : World} {H : Hp} {h : Heap} {e t : Addr} {cls : Value} {dv : Option Addr} (q : h.get? e = some { cls := cls, dict := dv, data := .fields #[.ref t, .none, .none, .none, .bool false, .none] }) : ObjOk P w H h e (rawX e cls dv) :=
  ⟨⟨t, q⟩, ⟨_, q⟩, fun _ _ ⟨t, q⟩ k => ⟨t, k _ q⟩⟩
def era (H : Hp) (e : Addr) : Hp := fun b => if b = e then none else H b
@[simp] theorem era_same (H : Hp) (e : Addr) : era H e e = none := if_pos rfl
section
variable {M : Model} {A : Around} {E : Value → Shared → Prop} {env : Env}
variable {nm q : Str} {C N : Addr} {bs bm : List Value} {hdct : Bool} {sn : List Str} {sub : List Value} {ab : Bool} {col : Option Bool} {dd : Option Addr} {k0 k1 k2 k3 k5 : Option Value} {nid : String}
end
def tRaiseI (C : Addr) (sp : Sp) (E : XK) (t : TA) : TS := fun _ σ H => t σ H fun vs H1 => vs.length ≤ sizeLine ∧ ∀ e, H1 e = none →
  sp (.ref e :: vs) (upd H1 e (rawX e (.ref C) none)) (fun r H2 => r = .non ∧ ∃ dv, H2 e = some (rawX e (.ref C) dv) ∧ E (.ref C) dv (era H2 e)) E0
end L2
namespace L2
open PySem PySem.Spec PyProof.Rows PySem.W
section
variable {X : Cx} {pins : List (Addr × Obj)} {σ : St} {H : Hp} {s : Shared}
theorem upd_id {H : Hp} {a : Addr} {o : HO} (q : H a = some o) : upd H a o = H := by
  funext b
  by_cases z : b = a
  · subst z; rw [upd_same, q]
  · rw [upd_ne z]
theorem Inv.args {e t : Addr} {cls : Value} {dv : Option Addr} {us : List Value} (I : Inv X pins σ H s) (q : H e = some (rawX e cls dv)) (g : s.heap.get? e = some { cls := cls, dict := dv, data := .fields #[.ref t, .none, .none, .none, .bool false, .none] }) :
    Inv X pins σ H { s with heap := (s.heap.push { cls := .type "tuple", data := .seq us.toArray }).update e (Obj.mapFields (·.setIfInBounds 0 (.ref s.heap.objs.size))) } := by
  have g1 := Heap.get?_push_of_some (h := s.heap) { cls := .type "tuple", data := .seq us.toArray } g
  have g2 := Heap.get?_update_self (Obj.mapFields (·.setIfInBounds 0 (.ref s.heap.objs.size))) g1 rfl
  have I2 := I.write (x := e) (e := e) (o := rawX e cls dv) (t' := s.toks) (h' := (s.heap.push { cls := .type "tuple", data := .seq us.toArray }).update e (Obj.mapFields (·.setIfInBounds 0 (.ref s.heap.objs.size)))) (by rw [q]; exact trivial) (.inl rfl)
    (fun b u n z => (Heap.get?_update_other _ _ (Ne.symm n)).trans (Heap.get?_push_of_some _ z)) ⟨_, g2⟩ (rawX_ok (t := s.heap.objs.size) (by rw [g2]; rfl))
  rw [upd_id q] at I2
  exact I2
def tExcInit (K : Frag) (t : TA) : TE := fun σ H Q => t σ H fun vs H1 => ∃ a C fI dv x, vs = [.ref a, x] ∧ H1 a = some (rawX a (.ref C) dv) ∧ excInit K C fI = true ∧ Q .non H1
end
end L2
namespace L2
open PySem PySem.Spec PyProof.Rows PySem.W Builtin Builtin.ObjectAttr
def tFs (x : Str) (t : TE) : TE := fun σ H Q => t σ H fun v H1 => ∃ n : Int, v = .int n ∧ n.natAbs.log2 < 1920 ∧ (x ++ (toString n : Str)).length ≤ sizeLine ∧ Q (.str (x ++ (toString n : Str))) H1
def refsV : List Value → Bool
  | .ref _ :: r => refsV r
  | l => l == vmro
structure XAtt (K : Frag) (C : Addr) (f : Str) : Prop where
  sa : findIn K (.ref C) "__setattr__" = some (some (.builtin "object.__setattr__"))
  no : findIn K (.ref C) f = some none
  ob : mroIn K C (.type "object") = some true
  cl : (clsIn K C).any (fun cd => cd.hasDict && refsV cd.mro) = true
section
variable {prog : Program} {w : World} {A : Around} {E : Value → Shared → Prop} {s : Shared} {K : Frag} {x C t : Addr} {f : Str} {v : Value}
end
section
variable {X : Cx} {pins : List (Addr × Obj)} {σ : St} {H : Hp} {s : Shared}
end
def sXset (K : Frag) (ta tv : TE) (f : Str) : TS := fun D σ H => tv σ H fun y H1 => ta σ H1 fun x H2 => ∃ a C, x = .ref a ∧ H2 a = some (rawX a (.ref C) none) ∧ XAtt K C f ∧
  ∀ d, H2 d = none → d ≠ a → D.nx σ (upd (upd H2 a (rawX a (.ref C) (some d))) d (.xd [(f, y)]))
end L2
namespace L2
open PySem PySem.Spec PyProof.Rows PySem.W Builtin Builtin.ObjectAttr
structure XGet (K : Frag) (C : Addr) (f : Str) : Prop where
  x : XCls K C
  hd : hasDictIn K C = true
  no : findIn K (.ref C) f = some none
def tXget (K : Frag) (ta : TE) (f : Str) : TE := fun σ H Q => ta σ H fun x H1 => ∃ a C d fs v, x = .ref a ∧ H1 a = some (excD a (.ref C) (some d)) ∧ H1 d = some (.xd fs) ∧ XGet K C f ∧ fs.lookup f = some v ∧ Q v H1
end L2
namespace L2
open PySem PySem.Spec PyProof.Rows Builtin Builtin.Str
section
variable {X : Cx}
end
end L2
namespace L2
open PySem PySem.Spec PyProof.Rows
end L2
namespace L2
open PySem PySem.Spec PyProof.Rows
end L2
namespace L2
open PySem PySem.Spec PyProof.Rows
section
variable {X : Cx}
theorem bools_of : ∀ {bs : List Bool} {us : List Value}, Vals (bs.map V.bl) us → us = bs.map Value.bool
  | [], _, .nil => rfl
  | b :: bs, _, .cons e r => by rw [bools_of r, List.map_cons, show _ = Value.bool b from e]
def rAll : List V → Hp → VK → Prop := fun xs H Q => ∃ (l : Addr) (bs : List Bool), xs = [.ref l] ∧ H l = some (.lst (bs.map V.bl)) ∧ Q (.bl (bs.all id)) H
theorem call_all (hc : X.calm = true) : CallR X (.builtin "all") rAll := by
  rintro pins s σ H xs us Q I r ⟨l, bs, rfl, hl, q⟩
  obtain ⟨u, rfl, ru⟩ := vals1 r
  obtain rfl : u = Value.ref l := ru
  obtain ⟨_, its, n, hv, _, g⟩ := I.lstM hl
  obtain rfl := bools_of hv
  have il : s.heap.IsList l (bs.map Value.bool).toArray := ⟨_, g, rfl, _, rfl⟩
  refine call_all_walk (wpAny_pyIter_list il ?_)
  have ne : l ≠ s.heap.objs.size := Nat.ne_of_lt (Heap.lt_size g)
  refine ⟨s.heap.objs.size, _, _, _, _, _, fun i => bs.getD i true, rfl, Walks.list (show X.A.in1.handled = none from I.ok.hd hc) _ l ne (bs.map Value.bool).toArray, ⟨⟨_, Heap.get?_push_size _ rfl, rfl, rfl⟩, il.at fun o e => Heap.get?_push_of_some _ e⟩, fun i v s' Q' E' hP hQ => ?_, fun h' tk keep => ?_⟩
  · have hP : (bs.map Value.bool).toArray[i]? = some v := hP
    rw [List.getElem?_toArray, List.getElem?_map] at hP
    cases e : bs[i]? with
    | none => rw [e] at hP; cases hP
    | some b =>
      rw [e] at hP; cases hP
      have hQ : Q' (bs.getD i true) s' := hQ
      rw [show bs.getD i true = b by rw [List.getD_eq_getElem?_getD, e]; rfl] at hQ
      exact wpAny_pure hQ
  · refine ⟨.bl _, H, I.kept fun b o e => keep b o (fun m => ?_) (Heap.get?_push_of_some _ e), rfl, ?_⟩
    · obtain rfl : b = s.heap.objs.size := by simpa using m
      exact absurd (Heap.lt_size e) (Nat.lt_irrefl _)
    · have : (List.range (bs.map Value.bool).toArray.size).all (fun i => bs.getD i true) = bs.all id := by
        rw [List.size_toArray, List.length_map]
        rw [Bool.eq_iff_iff, List.all_eq_true, List.all_eq_true]
        constructor
        · intro h b hb
          obtain ⟨i, hi, rfl⟩ := List.mem_iff_getElem.mp hb
          have := h i (List.mem_range.mpr hi)
          rw [List.getD_eq_getElem?_getD, List.getElem?_eq_getElem hi] at this
          exact this
        · intro h i hi
          have hi := List.mem_range.mp hi
          rw [List.getD_eq_getElem?_getD, List.getElem?_eq_getElem hi]
          exact h _ (List.getElem_mem hi)
      rw [this]
      exact q
end
end L2
namespace L2
open PySem PySem.Spec PyProof.Rows Builtin Builtin.Str
section
variable {prog : Program} {w : World} {A : Around} {E : Value → Shared → Prop} {s : Shared} {it : Addr} {fp wr : List Addr} {G : Array GenState → Array GenState → Prop} {n : Nat} {P : Nat → Value → Prop} {St : Nat → Shared → Prop}
end
def tJoinRev (a : PySem.Str) (te : TE) : TE := fun σ H Q => te σ H fun x H1 => ∃ (l : Addr) (ts : List PySem.Str), x = .ref l ∧ H1 l = some (.lst (ts.map V.str)) ∧ JoinOk a ts.reverse = true ∧ Q (.str (Txt.join a ts.reverse)) H1
end L2
namespace Mt
open PySem PySem.NumText
end Mt
namespace L2
open PySem PySem.Spec PyProof.Rows
def FX (x : Str) (g : TG) (tb : TS) (D : Ends) (σ : St) (H : Hp) : Prop := ∃ Pv : Nat → St → Hp → Prop, Pv 0 σ H ∧ (∀ i c σ H, x.cps[i]? = some c → Pv i σ H → g (.str ⟨#[c]⟩) σ H fun σ2 H2 => tb { D with nx := Pv (i + 1), ct := Pv (i + 1), bk := D.nx } σ2 H2) ∧ ∀ σ H, Pv x.cps.size σ H → D.nx σ H
def tForX (te : TE) (g : TG) (tb : TS) : TS := fun D σ H => te σ H fun v H1 => ∃ x, v = .str x ∧ FX x g tb D σ H1
section
variable {X : Cx} {tg l a elt : Expr} {body : List Stmt} {te tl : TE} {g : TG} {tb : TS} {p pos pos' : Pos} {scope : Scope} {js : List (Option Nat)}
def tCoX (js : List (Option Nat)) (te : TE) (g : TG) (tl : TE) : TE := fun σ H Q => te σ H fun v H1 => ∃ x, v = .str x ∧ CO x.cps.size (fun i _ v => ∃ c, x.cps[i]? = some c ∧ v = .str ⟨#[c]⟩) (fun _ => True) js g tl σ H1 Q
theorem pe_globI {x : Str} {n : Int} (hm : ∃ t, X.mg x = some (.int n t)) (hg : Gl X x := by rfl) (hd : (x == ("__debug__" : Str)) = false := by decide) : PE X (.Name x pos) (tC (.int n)) := by
  obtain ⟨t, hm⟩ := hm
  exact pe_glob hg hm ⟨t, rfl⟩ hd
end
end L2
namespace L2
open PySem PySem.Spec PyProof.Rows
end L2
namespace Mt
def wk (L D s : Nat → Rat) (top h : Nat) : Rat := s h * L h + (if 0 < h then s (h - 1) else 0) + (if h + 1 < top then s (h + 1) * D h else 0)
def row (L D : Nat → Rat) (top i : Nat) : Nat → List Rat
  | 0 => (List.range top).map fun h => if h = i then 1 else 0
  | n + 1 => (List.range top).map fun h => wk L D (cf (row L D top i n)) top h
theorem row_len (L D : Nat → Rat) (top i : Nat) : ∀ n, (row L D top i n).length = top
  | 0 => by simp [row]
  | n + 1 => by simp [row]
abbrev sm (L D : Nat → Rat) (top i n j : Nat) : Rat := cf (row L D top i n) j
section
variable {L D : Nat → Rat} {top : Nat}
theorem sm_zero {i j : Nat} (h : j < top) : sm L D top i 0 j = if j = i then 1 else 0 := by rw [sm, row, cf_map_range, if_pos h]
theorem sm_ge {i n j : Nat} (h : top ≤ j) : sm L D top i n j = 0 := cf_ge (by rw [row_len]; exact h)
theorem sm_succ {i n j : Nat} (h : j < top) : sm L D top i (n + 1) j = wk L D (sm L D top i n) top j := by rw [sm, row, cf_map_range, if_pos h]
def Su (f : Nat → Rat) : Nat → Rat
  | 0 => 0
  | n + 1 => Su f n + f n
theorem Su_congr {f g : Nat → Rat} : ∀ {m : Nat}, (∀ h, h < m → f h = g h) → Su f m = Su g m
  | 0, _ => rfl
  | m + 1, e => by rw [Su, Su, Su_congr fun h hh => e h (by omega), e m (by omega)]
theorem Su_add (f g : Nat → Rat) : ∀ m, Su (fun h => f h + g h) m = Su f m + Su g m
  | 0 => by simp only [Su]; grind
  | m + 1 => by rw [Su, Su, Su, Su_add f g m]; grind
theorem Su_mul (f : Nat → Rat) (c : Rat) : ∀ m, Su (fun h => f h * c) m = Su f m * c
  | 0 => by simp only [Su]; grind
  | m + 1 => by rw [Su, Su, Su_mul f c m]; grind
theorem Su_zero : ∀ m, Su (fun _ => 0) m = 0
  | 0 => rfl
  | m + 1 => by rw [Su, Su_zero m]; grind
theorem Su_one (f : Nat → Rat) (j : Nat) : ∀ m, j < m → Su (fun h => f h * (if j = h then 1 else 0)) m = f j
  | 0, h => absurd h (Nat.not_lt_zero _)
  | m + 1, h => by
    rw [Su]
    by_cases e : j = m
    · subst e
      rw [if_pos rfl, Su_congr (g := fun _ => 0) (fun h hh => by rw [if_neg (by omega)]; grind), Su_zero]
      grind
    · rw [if_neg e, Su_one f j m (by omega)]
      grind
theorem first {i : Nat} (hi : i < top) : ∀ (n j : Nat), j < top → sm L D top i (n + 1) j = L i * sm L D top i n j + (if i + 1 < top then sm L D top (i + 1) n j else 0) + (if 0 < i then D (i - 1) * sm L D top (i - 1) n j else 0)
  | 0, j, hj => by
    rw [sm_succ hj, sm_zero hj, sm_zero hj, sm_zero hj]
    unfold wk
    rw [sm_zero hj]
    by_cases h1 : j = i
    · subst h1
      rw [if_pos rfl]
      have a : (if 0 < j then sm L D top j 0 (j - 1) else 0) = 0 := by
        split
        · rw [sm_zero (by omega), if_neg (by omega)]
        · rfl
      have b : (if j + 1 < top then sm L D top j 0 (j + 1) * D j else 0) = 0 := by
        split
        · rw [sm_zero (by omega), if_neg (by omega)]; grind
        · rfl
      have c : (if j = j + 1 then (1 : Rat) else 0) = 0 := if_neg (by omega)
      rw [a, b, c]
      by_cases z : 0 < j
      · rw [if_pos z, if_neg (show ¬ j = j - 1 by omega)]; grind
      · rw [if_neg z]; grind
    · rw [if_neg h1]
      have a : (if 0 < j then sm L D top i 0 (j - 1) else 0) = if i + 1 < top then (if j = i + 1 then (1 : Rat) else 0) else 0 := by
        by_cases e : j = i + 1
        · rw [if_pos (by omega), sm_zero (by omega), if_pos (by omega), if_pos (by omega), if_pos e]
        · rw [if_neg e, ite_self]
          split
          · rw [sm_zero (by omega), if_neg (by omega)]
          · rfl
      have b : (if j + 1 < top then sm L D top i 0 (j + 1) * D j else 0) = if 0 < i then D (i - 1) * (if j = i - 1 then (1 : Rat) else 0) else 0 := by
        by_cases e : i = j + 1
        · subst e
          rw [if_pos hi, if_pos (by omega), sm_zero hi, if_pos rfl, if_pos (by omega), show j + 1 - 1 = j by omega]
          grind
        · have z : (if 0 < i then D (i - 1) * (if j = i - 1 then (1 : Rat) else 0) else 0) = 0 := by
            split
            · rw [if_neg (by omega)]; grind
            · rfl
          rw [z]
          split
          · rw [sm_zero (by omega), if_neg (by omega)]; grind
          · rfl
      rw [a, b]
      grind
  | n + 1, j, hj => by
    rw [sm_succ hj, sm_succ (n := n) hj, sm_succ (n := n) hj, sm_succ (n := n) hj]
    unfold wk
    have e0 := first hi n j hj
    by_cases z1 : 0 < j <;> by_cases z2 : j + 1 < top
    · have e1 := first hi n (j - 1) (by omega)
      have e2 := first hi n (j + 1) z2
      simp only [if_pos z1, if_pos z2]
      rw [e0, e1, e2]
      grind
    · have e1 := first hi n (j - 1) (by omega)
      simp only [if_pos z1, if_neg z2]
      rw [e0, e1]
      grind
    · have e2 := first hi n (j + 1) z2
      simp only [if_neg z1, if_pos z2]
      rw [e0, e2]
      grind
    · simp only [if_neg z1, if_neg z2]
      rw [e0]
      grind
end
theorem Lat.one : Lat 1 1 1 := ⟨1, by grind, by decide⟩
abbrev B0 : Nat := 27720
abbrev W0 : Nat := 2000001
abbrev Wg (q : Rat) : Prop := Lat B0 (999999 * B0) q
abbrev Gd (n : Nat) (q : Rat) : Prop := Lat (B0 ^ n) (W0 ^ n * B0 ^ n) q
theorem Gd.zero {n : Nat} : Gd n 0 := Lat.zero
theorem Gd.one : Gd 0 1 := Lat.one
theorem gd_step {n : Nat} {a b c d e : Rat} (ha : Gd n a) (hb : Wg b) (hc : Gd n c) (hd : Gd n d) (he : Wg e) :
    Lat (B0 ^ (n + 1)) (W0 ^ (n + 1) * B0 ^ (n + 1)) (a * b) ∧ Lat (B0 ^ (n + 1)) (W0 ^ (n + 1) * B0 ^ (n + 1)) (a * b + c) ∧ Lat (B0 ^ (n + 1)) (W0 ^ (n + 1) * B0 ^ (n + 1)) (d * e) ∧ Gd (n + 1) (a * b + c + d * e) := by
  have h1 : Lat (B0 ^ n * B0) (W0 ^ n * B0 ^ n * (999999 * B0)) (a * b) := ha.mul hb
  have h2 : Lat (B0 ^ n * B0) (W0 ^ n * B0 ^ n * B0) c := hc.up
  have h3 : Lat (B0 ^ n * B0) (W0 ^ n * B0 ^ n * (999999 * B0)) (d * e) := hd.mul he
  have e1 : W0 ^ (n + 1) * B0 ^ (n + 1) = W0 ^ n * B0 ^ n * (2000001 * B0) := by rw [Nat.pow_succ, Nat.pow_succ]; simp only [Nat.mul_comm, Nat.mul_left_comm, Nat.mul_assoc, W0]
  show _ ∧ _ ∧ _ ∧ Lat (B0 ^ (n + 1)) (W0 ^ (n + 1) * B0 ^ (n + 1)) _
  rw [e1, Nat.pow_succ B0 n]
  generalize W0 ^ n * B0 ^ n = X at h1 h2 h3 ⊢
  have l : ∀ x y : Nat, x ≤ y → X * (x * B0) ≤ X * (y * B0) := fun x y h => Nat.mul_le_mul_left _ (Nat.mul_le_mul_right _ h)
  have e2 : X * B0 = X * (1 * B0) := by rw [Nat.one_mul]
  rw [e2] at h2
  refine ⟨h1.mono (l _ _ (by decide)), (h1.add h2).mono ?_, h3.mono (l _ _ (by decide)), ((h1.add h2).add h3).mono ?_⟩
  · rw [← Nat.mul_add, ← Nat.add_mul]; exact l (999999 + 1) 2000001 (by decide)
  · rw [← Nat.mul_add, ← Nat.add_mul, ← Nat.mul_add, ← Nat.add_mul]; exact l (999999 + 1 + 999999) 2000001 (by decide)
theorem gd_wk {n : Nat} {L D s : Nat → Rat} {top h : Nat} (hL : ∀ h, Wg (L h)) (hD : ∀ h, Wg (D h)) (hs : ∀ h, Gd n (s h)) : Gd (n + 1) (wk L D s top h) := by
  unfold wk
  have z : Gd n 0 := Gd.zero
  have w : Wg 0 := Lat.zero
  have e0 : (0 : Rat) = 0 * 0 := by grind
  by_cases a : 0 < h <;> by_cases b : h + 1 < top
  · rw [if_pos a, if_pos b]; exact (gd_step (hs h) (hL h) (hs (h - 1)) (hs (h + 1)) (hD h)).2.2.2
  · rw [if_pos a, if_neg b, e0]; exact (gd_step (hs h) (hL h) (hs (h - 1)) z w).2.2.2
  · rw [if_neg a, if_pos b]; exact (gd_step (hs h) (hL h) z (hs (h + 1)) (hD h)).2.2.2
  · rw [if_neg a, if_neg b, show (0 : Rat) = 0 * 0 + 0 by grind]
    have := (gd_step (hs h) (hL h) z z w).2.2.2
    grind
theorem gd_sm {L D : Nat → Rat} {top i : Nat} (hL : ∀ h, Wg (L h)) (hD : ∀ h, Wg (D h)) : ∀ n j, Gd n (sm L D top i n j)
  | 0, j => by
    by_cases h : j < top
    · rw [sm_zero h]
      split
      · exact Gd.one
      · exact Gd.zero
    · rw [sm_ge (by omega)]; exact Gd.zero
  | n + 1, j => by
    by_cases h : j < top
    · rw [sm_succ h]; exact gd_wk hL hD (gd_sm hL hD n)
    · rw [sm_ge (by omega)]; exact Gd.zero
theorem wg_cf {f : List Rat} (h : ∀ q ∈ f, Wg q) (n : Nat) : Wg (cf f n) := by
  by_cases e : n < f.length
  · have := cf_lt e
    exact h _ (List.mem_of_getElem? this)
  · rw [cf_ge (by omega)]; exact Lat.zero
end Mt
namespace Mt
end Mt
namespace L2
open PySem PySem.Spec PyProof.Rows
structure FunD (K : PySem.W.Frag) (x qual : Str) (st : Stmt) (dvs : List V) (f : Addr) (fd : FuncData) : Prop where
  ex : ∃ (T : Addr) (oc : Value) (od : Option Addr) (kV doc pm : Value) (an : Option Addr) (cdv ct : Value) (osl : Array (Option Value)) (o : Obj) (items : Array Value) (n : Nat),
    fd = PySem.W.fnOf x qual (defArgs st) (defBody st) (defScope st) (.ref T) kV doc pm an cdv ct ∧ K.lookup f = some ⟨oc, od, .func fd, osl⟩ ∧ PySem.W.codeIn K cdv qual = true ∧ K.lookup T = some o ∧ o.data = .seq items n ∧ Vals dvs items.toList
  kp : PySem.W.keepIn K (.ref f) = true
section
variable {P : Program} {w : World} {K : PySem.W.Frag} {mg : Str → Option Value} {base : Heap} {x qual : Str} {st : Stmt} {f : Addr} {fd : FuncData} {N ps : List Str} {k : Nat} {sp : Sp} {dvs : List V}
theorem FunD.okE (F : FunD K x qual st dvs f fd) (S : FnScope N ps (defScope st)) (len : ∀ vs H Q E, sp vs H Q E → vs.length = ps.length)
    (hbody : ∀ (cdv : Value) (A : Around) (outer : List Env) (s : Shared) (H : Hp) (vs : List V) (Q : VK) (E : XK), Room k (A.deeper (envOfC qual (defScope st) s.heap.objs.size f cdv)) → sp vs H Q E →
      ∃ t, PSs (cxOf (CXe P w) P w K mg base N qual (defScope st) f cdv A outer s H E).nox (defBody st) t ∧ t { nx := fun _ H' => Q .non H', rt := Q } (start N vs) H) : FnOk P w K mg base (CXe P w) (k + 1) f fd ps sp := by
  obtain ⟨T, oc, od, kV, doc, pm, an, cdv, ct, osl, o, items, n, rfl, lk, hcd, lT, hd, hv⟩ := F.ex
  refine fn_of lk hcd S len fun A outer s H vs Q E hr hsp => ?_
  obtain ⟨t, h, q⟩ := hbody cdv A outer s H vs Q E hr hsp
  exact ⟨t, h.nox, q⟩
theorem FunD.okX (F : FunD K x qual st dvs f fd) (S : FnScope N ps (defScope st)) (len : ∀ vs H Q E, sp vs H Q E → vs.length = ps.length)
    (hbody : ∀ (cdv : Value) (A : Around) (outer : List Env) (s : Shared) (H : Hp) (vs : List V) (Q : VK) (E : XK), Room k (A.deeper (envOfC qual (defScope st) s.heap.objs.size f cdv)) → sp vs H Q E →
      ∃ t, PSs (cxOf (CXe P w) P w K mg base N qual (defScope st) f cdv A outer s H E) (defBody st) t ∧ t { nx := fun _ H' => Q .non H', rt := Q } (start N vs) H) : FnOk P w K mg base (CXe P w) (k + 1) f fd ps sp := by
  obtain ⟨T, oc, od, kV, doc, pm, an, cdv, ct, osl, o, items, n, rfl, lk, hcd, lT, hd, hv⟩ := F.ex
  exact fn_of lk hcd S len fun A outer s H vs Q E hr hsp => hbody cdv A outer s H vs Q E hr hsp
end
section
variable {X : Cx} {k : Nat} {sp : Sp} {ps : List Str} {dvs : List V} {x : Str} {p pos : Pos} {e : Expr} {es : List Expr} {t : TA}
end
def FR2 (i : Int) (n : Nat) (g : TG) (tb : TS) (D : Ends) (σ : St) (H : Hp) : Prop := ∃ Pv : Nat → St → Hp → Prop, Pv 0 σ H ∧ (∀ m σ H, m < n → Pv m σ H → g (.int (i + m)) σ H fun σ2 H2 => tb { D with nx := Pv (m + 1), ct := Pv (m + 1), bk := D.nx } σ2 H2) ∧ ∀ σ H, Pv n σ H → D.nx σ H
def tForR2 (te te2 : TE) (g : TG) (tb : TS) : TS := fun D σ H => te σ H fun v H1 => te2 σ H1 fun v2 H2 => ∃ i : Int, v = .int i ∧ ∃ j : Int, v2 = .int j ∧ (-(2 ^ 62) ≤ i ∧ i < 2 ^ 62 ∧ -(2 ^ 62) ≤ j ∧ j < 2 ^ 62) ∧ FR2 i (j - i).toNat g tb D σ H2
section
variable {X : Cx} {tg a b : Expr} {body : List Stmt} {te te2 : TE} {g : TG} {tb : TS} {p pos pos' : Pos}
end
section
variable {X : Cx}
end
end L2
namespace L2
open PySem PySem.Spec PyProof.Rows
section
variable {X : Cx}
end
end L2
namespace L2
open PySem PySem.Spec PyProof.Rows
def tVs (vs : List V) : TA := fun _ H Q => Q vs H
end L2
namespace L2
open PySem PySem.Spec PyProof.Rows
section
variable {X : Cx} {e a b : Expr} {es : List Expr} {te ta tb : TE} {t u : TS} {tx : TA} {st : Stmt} {rest body orelse : List Stmt} {pos : Pos}
end
end L2
namespace L2
open PySem PySem.Spec PyProof.Rows
end L2
namespace L2
open PySem PySem.Spec PyProof.Rows
section
variable {prog : Program} {w : World} {A : Around} {E : Value → Shared → Prop} {s : Shared}
end
end L2
namespace L2
open PySem PySem.Spec PyProof.Rows
theorem Inv.turnedL {X : Cx} {pins : List (Addr × Obj)} {σ : St} {H : Hp} {s : Shared} {h' : Heap} {t' : Nat} {ch : List Addr} (I : Inv X pins σ H s) (k : ∀ b u, b ∉ ch → s.heap.get? b = some u → h'.get? b = some u) (fc : ∀ c ∈ ch, FpOk X pins H c) : Inv X pins σ H { s with heap := h', toks := t' } := by
  have nc : ∀ b u, H b = some u → b ∉ ch := fun b u z y => by rw [(fc b y).1] at z; cases z
  refine I.step (g' := s.gens) (d' := s.drawn) (ch := ch) (fun b hb => ?_) (fun b o _ _ hc e _ => k b o hc e) (fun b o _ _ hc e _ => ⟨o.slots, k b o hc e⟩) (fun _ _ _ _ n => n)
    (fun b o hc e => ⟨o, k b o hc e⟩) (fun _ _ e => e) (fun _ _ _ e => e) (fun b ps e => ⟨#[], by rw [e]; simp⟩) (fun m hm => ?_) (fun b u e => ?_) I.bare
  · have f := fc b hb
    exact ⟨f.2.2.2.1, f.2.1, f.2.2.2.2.1, f.2.2.2.2.2⟩
  · obtain ⟨o, es, ep, ho, r⟩ := hm
    exact ⟨o, es, ep, k _ o (fun z => (fc _ z).2.1 rfl) ho, r⟩
  · refine (I.hok b u e).stay (fun c v hc q => k c v ?_ q) (fun _ q => q) fun _ _ q => q
    rcases hc with z | z
    · rw [z]; exact nc b u e
    · exact nc c _ z
theorem Inv.turnLaidL {X : Cx} {pins : List (Addr × Obj)} {σ : St} {H : Hp} {s : Shared} {h' : Heap} {t' : Nat} {ch : List Addr} {t : Addr} {o : HO} (I : Inv X pins σ H s) (k : ∀ b u, b ∉ ch → s.heap.get? b = some u → h'.get? b = some u) (fc : ∀ c ∈ ch, FpOk X pins H c)
    (hn : H t = none) (ht : s.heap.get? t = none) (new : ObjOk X.prog X.w (upd H t o) h' t o) : Inv X pins σ (upd H t o) { s with heap := h', toks := t' } := by
  have nt : ∀ b u, H b = some u → b ≠ t := fun b u z y => by rw [y, hn] at z; cases z
  have nc : ∀ b u, H b = some u → b ∉ ch := fun b u z y => by rw [(fc b y).1] at z; cases z
  refine I.step (g' := s.gens) (d' := s.drawn) (ch := ch) (fun b hb => ?_) (fun b u _ _ hc z _ => k b u hc z) (fun b u _ _ hc z _ => ⟨u.slots, k b u hc z⟩) (fun b u hc z y => ?_)
    (fun b u hc z => ⟨u, k b u hc z⟩) (fun b xs z => ?_) (fun b u v z => ?_) (fun b ps z => ⟨#[], ?_⟩) (fun m hm => ?_) (fun b u z => ?_) I.bare
  · have f := fc b hb
    exact ⟨f.2.2.2.1, f.2.1, f.2.2.2.2.1, f.2.2.2.2.2⟩
  · rw [upd_ne (by rintro rfl; rw [ht] at z; cases z)]; exact y
  · rw [upd_ne (nt _ _ z)]; exact z
  · rw [upd_ne (nt _ _ z)]; exact z
  · rw [upd_ne (nt _ _ z), z]; simp
  · obtain ⟨u, es, ep, hu, r⟩ := hm
    exact ⟨u, es, ep, k _ u (fun z => (fc _ z).2.1 rfl) hu, r⟩
  · by_cases hb : b = t
    · subst hb
      rw [upd_same] at z
      cases z
      exact new
    · rw [upd_ne hb] at z
      refine (I.hok b u z).stay (fun c v hc q => ?_) (fun c q => by rw [upd_ne (nt _ _ q)]; exact q) fun c xs q => by rw [upd_ne (nt _ _ q)]; exact q
      rcases hc with y | y
      · subst y; exact k c v (nc _ _ z) q
      · exact k c v (nc _ _ y) q
section
variable {X : Cx} {es : List Expr} {y1 : Nat} {tp : Pos}
end
def CZ (xs ys : List V) (at_ : Hp → Prop) (js : List (Option Nat)) (g : TG) (tl : TE) (σ : St) (H1 : Hp) (Q : VK) : Prop := ∀ D, H1 D = none → ∃ Pv : Nat → List V → St → Hp → Prop, Pv 0 [] (cσ js σ) (upd H1 D (.lst [])) ∧ (∀ i zs σc H, i ≤ xs.length → Pv i zs σc H → at_ H) ∧
  (∀ i zs σc H x y t, xs[i]? = some x → ys[i]? = some y → Pv i zs σc H → H t = none → g (.ref t) σc (upd H t (.tup [x, y])) fun σ2 H2 => tl σ2 H2 fun v H3 => H3 D = some (.lst zs) ∧ zs.length < sizeLine ∧ Pv (i + 1) (zs ++ [v]) σ2 (upd H3 D (.lst (zs ++ [v])))) ∧
  ∀ zs σc H, Pv xs.length zs σc H → H D = some (.lst zs) ∧ Q (.ref D) H
def tCoZ (K : PySem.W.Frag) (js : List (Option Nat)) (te te2 : TE) (g : TG) (tl : TE) : TE := fun σ H Q => te σ H fun v H1 => te2 σ H1 fun v2 H2 => ∃ l, v = .ref l ∧ ∃ m, v2 = .ref m ∧ ∃ xs ys, SqT K H2 l xs ∧ SqL K H2 m ys ∧ xs.length = ys.length ∧ CZ xs ys (fun H => SqT K H l xs ∧ SqL K H m ys) js g tl σ H2 Q
section
variable {X : Cx} {es : List Expr} {y1 : Nat} {tp : Pos} {a b elt : Expr} {te te2 tl : TE} {g : TG} {p pos pos' : Pos} {scope : Scope} {js : List (Option Nat)}
end
end L2
namespace Mt
def l1 (a : Rat) : List Rat := trim [1, -a]
def l2 (d : Rat) : List Rat := trim [0, 0, d]
def nxt (l d : Rat) (f g : List Rat) : List Rat := psub (pmul (l1 l) f) (pmul (l2 d) g)
def en (L D : Nat → Rat) (a b : List Rat) : Nat → List Rat
  | 0 => a
  | 1 => b
  | n + 2 => nxt (L (n + 1)) (D n) (en L D a b (n + 1)) (en L D a b n)
def sh (f : List Rat) (i k : Nat) : Rat := if i ≤ k then cf f (k - i) else 0
theorem mc_ext_left {f f' : List Rat} (e : ∀ n, cf f n = cf f' n) (g : List Rat) (n : Nat) : mc f g n = mc f' g n := by
  rw [mc_comm f g, mc_comm f' g, mc_ext g e]
theorem NZ.le {f : List Rat} (h : NZ f) {n : Nat} (z : ∀ k, n ≤ k → cf f k = 0) : f.length ≤ n := by
  rcases h with rfl | h
  · simp
  · rcases Nat.lt_or_ge n f.length with y | y
    · exact absurd (z _ (by omega)) h
    · exact y
abbrev A0 : Nat := 1000001 * B0
def Gp (n : Nat) (f : List Rat) : Prop := ∀ k, Lat (B0 ^ n) (A0 ^ n) (cf f k)
theorem Gp.nil {n : Nat} : Gp n [] := fun k => by rw [cf_nil]; exact Lat.zero
theorem Gp.sh {n : Nat} {f : List Rat} (h : Gp n f) (i k : Nat) : Lat (B0 ^ n) (A0 ^ n) (sh f i k) := by
  unfold Mt.sh
  split
  · exact h _
  · exact Lat.zero
theorem Gp.ln {n : Nat} {f : List Rat} (h : Gp n f) (hn : n ≤ 9) : Ln 320 320 f := by
  refine ⟨B0 ^ n, A0 ^ n, Nat.pow_pos (by decide), ?_, ?_, h⟩
  · exact Nat.le_trans (Nat.pow_le_pow_right (by decide) hn) (by decide +kernel)
  · exact Nat.le_trans (Nat.pow_le_pow_right (by decide) hn) (by decide +kernel)
def tp (L D : List Rat) (n : Nat) : List Rat := en (cf L) (cf D) [] [1] n
def bt (L D : List Rat) (n : Nat) : List Rat := en (cf L) (cf D) [1] (l1 (cf L 0)) n
end Mt
namespace L2
open PySem PySem.Spec PyProof.Rows
def Pls (K : PySem.W.Frag) (H : Hp) (fs : List (List Rat)) (xs : List V) : Prop := xs.length = fs.length ∧ ∀ (j : Nat) (f : List Rat), fs[j]? = some f → ∃ p, xs[j]? = some (V.ref p) ∧ Pl K H p f
theorem Pls.nil {K : PySem.W.Frag} {H : Hp} : Pls K H [] [] := ⟨rfl, fun j f h => by simp at h⟩
theorem Pls.same {K : PySem.W.Frag} {H H' : Hp} {fs : List (List Rat)} {xs : List V} (h : Pls K H fs xs) (e : Same H H') : Pls K H' fs xs := ⟨h.1, fun j f z => let ⟨p, e1, q⟩ := h.2 j f z; ⟨p, e1, q.same e⟩⟩
theorem Pls.updL {K : PySem.W.Frag} {H : Hp} {D : Addr} {ys : List V} {o : HO} {fs : List (List Rat)} {xs : List V} (hD : H D = some (.lst ys)) (h : Pls K H fs xs) : Pls K (upd H D o) fs xs := ⟨h.1, fun j f z => let ⟨p, e1, q⟩ := h.2 j f z; ⟨p, e1, q.updL hD⟩⟩
theorem Pls.snoc {K : PySem.W.Frag} {H : Hp} {fs : List (List Rat)} {xs : List V} {p : Addr} {f : List Rat} (h : Pls K H fs xs) (k : Pl K H p f) : Pls K H (fs ++ [f]) (xs ++ [.ref p]) := by
  refine ⟨by simp [h.1], fun j g z => ?_⟩
  rcases Nat.lt_or_ge j fs.length with l | l
  · rw [List.getElem?_append_left l] at z
    obtain ⟨q, e, hq⟩ := h.2 j g z
    exact ⟨q, by rw [List.getElem?_append_left (by rw [h.1]; exact l)]; exact e, hq⟩
  · rw [List.getElem?_append_right l] at z
    have j0 : j = fs.length := by
      rcases Nat.lt_or_ge (j - fs.length) 1 with y | y
      · omega
      · rw [List.getElem?_eq_none (by simpa using y)] at z; cases z
    subst j0
    simp at z
    subst z
    exact ⟨p, by rw [← h.1]; simp, k⟩
theorem Pls.cons {K : PySem.W.Frag} {H : Hp} {fs : List (List Rat)} {xs : List V} {p : Addr} {f : List Rat} (k : Pl K H p f) (h : Pls K H fs xs) : Pls K H (f :: fs) (.ref p :: xs) := by
  refine ⟨by simp [h.1], fun j g z => ?_⟩
  rcases j with _ | j
  · simp at z; subst z; exact ⟨p, rfl, k⟩
  · simp at z; exact h.2 j g z
theorem Pls.at {K : PySem.W.Frag} {H : Hp} {m : Nat} {F : Nat → List Rat} {xs : List V} (h : Pls K H ((List.range m).map F) xs) {j : Nat} (hj : j < m) : ∃ p, xs[j]? = some (.ref p) ∧ Pl K H p (F j) := h.2 j (F j) (by simp [hj])
theorem Pls.len {K : PySem.W.Frag} {H : Hp} {m : Nat} {F : Nat → List Rat} {xs : List V} (h : Pls K H ((List.range m).map F) xs) : xs.length = m := by rw [h.1]; simp
theorem Pls.more {K : PySem.W.Frag} {H : Hp} {m : Nat} {F : Nat → List Rat} {xs : List V} {p : Addr} (h : Pls K H ((List.range m).map F) xs) (k : Pl K H p (F m)) : Pls K H ((List.range (m + 1)).map F) (xs ++ [.ref p]) := by
  rw [List.range_succ, List.map_append]; exact h.snoc k
end L2
namespace Mt
def wr (L D : List Rat) (n k : Nat) : Rat := mc (tp L D (n + 1)) (bt L D n) k - mc (tp L D n) (bt L D (n + 1)) k
end Mt
namespace L2
open PySem PySem.Spec PyProof.Rows
theorem CO.els {n : Nat} {src : Nat → Hp → V → Prop} {st : Hp → Prop} {js : List (Option Nat)} {tl : TE} {σ : St} {H1 : Hp} {Q : VK} (G : Nat → Hp → V → Prop) (gs : ∀ i H H' x, Same H H' → G i H x → G i H' x)
    (gu : ∀ i H D ys o x, H D = some (.lst ys) → G i H x → G i (upd H D o) x) (hn : n ≤ 1000) (hst : ∀ H, Same H1 H → st H)
    (hel : ∀ i H x (R : VK), i < n → Same H1 H → src i H x → (∀ r H3, Same H H3 → G i H3 r → R r H3) → tl (some x :: cσ js σ) H R)
    (hq : ∀ D H (xs : List V), Same H1 H → H1 D = none → H D = some (.lst xs) → xs.length = n → (∀ (j : Nat) (x : V), xs[j]? = some x → G j H x) → Q (.ref D) H) : CO n src st (none :: js) (gName 0) tl σ H1 Q := by
  intro D hD
  refine ⟨fun i ys σc H => (∃ r, σc = r :: cσ js σ) ∧ Same H1 H ∧ H D = some (.lst ys) ∧ ys.length = i ∧ ∀ (j : Nat) (x : V), ys[j]? = some x → G j H x, ⟨⟨none, rfl⟩, same_upd hD, upd_same, rfl, fun j x h => by simp at h⟩, fun i ys σc H _ h => hst H h.2.1, ?_, ?_⟩
  · rintro i ys σc H x hi ⟨⟨r, rfl⟩, sm, hd, ly, hf⟩ hx
    refine hel i H x _ hi sm hx fun p H3 s3 hy => ?_
    refine ⟨s3 _ _ hd, small1000 (by omega), ⟨_, rfl⟩, (sm.trans s3).updL hD, upd_same, by simp [ly], fun j x z => ?_⟩
    refine gu j H3 D ys _ x (s3 _ _ hd) ?_
    rcases Nat.lt_or_ge j ys.length with l | l
    · rw [List.getElem?_append_left l] at z
      exact gs j H H3 x s3 (hf j x z)
    · rw [List.getElem?_append_right l] at z
      have j0 : j = i := by
        rcases Nat.lt_or_ge (j - ys.length) 1 with y | y
        · omega
        · rw [List.getElem?_eq_none (by simpa using y)] at z; cases z
      subst j0
      rw [ly, Nat.sub_self] at z
      simp at z
      subst z
      exact hy
  · rintro ys σc H ⟨_, sm, hd, ly, hf⟩
    exact ⟨hd, hq D H ys sm hD hd ly hf⟩
end L2
namespace L2
open PySem PySem.Spec PyProof.Rows
section
variable {prog : Program} {w : World} {A : Around} {E : Value → Shared → Prop} {s : Shared}
end
def ExcAt (e0 : Addr) (H : Hp) : Prop := ∃ cls dv, H e0 = some (excD e0 cls dv)
section
variable {X : Cx} {tg : Expr}
def tCoRH (e0 : Addr) (js : List (Option Nat)) (te : TE) (g : TG) (tl : TE) : TE := fun σ H Q => te σ H fun v H1 => ∃ j : Int, v = .int j ∧ -(2 ^ 62) ≤ j ∧ j < 2 ^ 62 ∧ CO j.toNat (fun i _ x => x = .int i) (ExcAt e0) js g tl σ H1 Q
end
section
variable {X : Cx} {CX : CXT} {k : Nat} {f : Addr} {fd : FuncData} {ps : List Str}  {dvs : List V} {ds : List Value} {E : XK} {x : Str} {p pos : Pos} {e : Expr} {es : List Expr} {t : TA}
end
section
variable {P : Program} {w : World} {K : PySem.W.Frag} {mg : Str → Option Value} {base : Heap} {x qual : Str} {st : Stmt} {f : Addr} {fd : FuncData} {N ps : List Str} {k : Nat} {sp : Addr → Sp}
end
def tHE (K : PySem.W.Frag) (c : Value) (i : Nat) (ts : Addr → TS) (th : TH) : TH := fun cls dv D σ H =>
  (PySem.W.exmOne K cls c = some true ∧ ∀ e, H e = none → ts e (D.gone i) (σ.set i (some (.ref e))) (upd H e (excD e cls dv))) ∨ (PySem.W.exmOne K cls c = some false ∧ th cls dv D σ H)
end L2
namespace L2
open PySem PySem.Spec PyProof.Rows
def FZ (xs ys : List V) (at_ : Hp → Prop) (g : TG) (tb : TS) (D : Ends) (σ : St) (H : Hp) : Prop := ∃ Pv : Nat → St → Hp → Prop, Pv 0 σ H ∧ (∀ i σ H, i ≤ xs.length → Pv i σ H → at_ H) ∧
  (∀ i x y σ H t, xs[i]? = some x → ys[i]? = some y → Pv i σ H → H t = none → g (.ref t) σ (upd H t (.tup [x, y])) fun σ2 H2 => tb { D with nx := Pv (i + 1), ct := Pv (i + 1), bk := D.nx } σ2 H2) ∧ ∀ σ H, Pv xs.length σ H → D.nx σ H
def tForZ (K : PySem.W.Frag) (te te2 : TE) (g : TG) (tb : TS) : TS := fun D σ H => te σ H fun v H1 => te2 σ H1 fun v2 H2 => ∃ l, v = .ref l ∧ ∃ m, v2 = .ref m ∧ ∃ xs ys, SqT K H2 l xs ∧ SqL K H2 m ys ∧ xs.length ≤ ys.length ∧ FZ xs ys (fun H => SqT K H l xs ∧ SqL K H m ys) g tb D σ H2
section
variable {X : Cx} {es : List Expr} {y1 : Nat} {tp : Pos} {a b : Expr} {te te2 : TE} {g : TG} {tb : TS} {body : List Stmt} {p pos pos' : Pos}
end
end L2
namespace L2
open PySem PySem.Spec PyProof.Rows
def Fls (K : PySem.W.Frag) (H : Hp) (gs : List (List Rat)) (xs : List V) : Prop := xs.length = gs.length ∧ ∀ (j : Nat) (g : List Rat), gs[j]? = some g → ∃ p ys, xs[j]? = some (V.ref p) ∧ H p = some (.lst ys) ∧ Frs K H g ys
theorem Fls.same {K : PySem.W.Frag} {H H' : Hp} {gs : List (List Rat)} {xs : List V} (h : Fls K H gs xs) (e : Same H H') : Fls K H' gs xs := ⟨h.1, fun j g z => let ⟨p, ys, e1, e2, q⟩ := h.2 j g z; ⟨p, ys, e1, e _ _ e2, q.same e⟩⟩
end L2
namespace L2
open PySem PySem.Spec PyProof.Rows Builtin
section
variable {prog : Program} {w : World} {A : Around}
end
section
variable {prog : Program} {w : World} {A : Around} {E : Value → Shared → Prop} {s : Shared}
end
section
variable {prog : Program} {w : World} {A : Around} {s : Shared} {R : Result → Shared → Prop} {r l : Addr} {xs : Array Value}
end
section
variable {prog : Program} {w : World} {A : Around} {s : Shared} {R : Result → Shared → Prop}
variable {it : Addr} {fp wr : List Addr} {G : Array GenState → Array GenState → Prop} {n : Nat} {P : Nat → Value → Prop} {St : Nat → Shared → Prop}
end
section
variable {prog : Program} {w : World} {A : Around} {E : Value → Shared → Prop} {s : Shared}
variable {it : Addr} {fp wr : List Addr} {G : Array GenState → Array GenState → Prop} {n : Nat} {P : Nat → Value → Prop} {St : Nat → Shared → Prop}
end
section
variable {prog : Program} {w : World} {A : Around} {E : Value → Shared → Prop} {s : Shared} {r l : Addr} {xs : Array Value}
end
section
variable {X : Cx}
def tListRev (K : PySem.W.Frag) (te : TE) : TE := fun σ H Q => te σ H fun x H1 => ∃ a xs, x = .ref a ∧ (SqT K H1 a xs ∨ SqL K H1 a xs) ∧ ∀ l, H1 l = none → Q (.ref l) (upd H1 l (.lst xs.reverse))
end
end L2
namespace Mt
def dot (ms f : List Rat) : Rat := Su (fun n => cf f n * cf ms n) f.length
theorem Su_more (F : Nat → Rat) {n : Nat} (h : ∀ i, n ≤ i → F i = 0) : ∀ k, Su F (n + k) = Su F n
  | 0 => rfl
  | k + 1 => by rw [← Nat.add_assoc, Su, Su_more F h k, h _ (by omega)]; grind
end Mt
namespace Mt
def x1 (l : Rat) : List Rat := trim [-l, 1]
def nx2 (l d : Rat) (f g : List Rat) : List Rat := psub (pmul (x1 l) f) (pscale g d)
def rpf (L D : Nat → Rat) : Nat → List Rat
  | 0 => [1]
  | 1 => nx2 (L 0) 0 [1] []
  | n + 2 => nx2 (L (n + 1)) (D n) (rpf L D (n + 1)) (rpf L D n)
def rp (L D : List Rat) (n : Nat) : List Rat := rpf (cf L) (cf D) n
theorem mc_x1 (l : Rat) (f : List Rat) (k : Nat) : mc (x1 l) f k = sh f 1 k - l * cf f k := by
  rw [x1, mc_ext_left (f' := [-l, 1]) (fun n => cf_trim _ n)]
  rcases k with _ | k
  · simp only [mc, sh]; grind
  · rcases k with _ | k
    · simp only [mc, sh]; grind
    · simp only [mc, sh, Nat.add_sub_cancel]
      rw [if_pos (by omega)]; grind
theorem cf_nx2 (l d : Rat) (f g : List Rat) (k : Nat) : cf (nx2 l d f g) k = sh f 1 k - l * cf f k - d * cf g k := by
  rw [nx2, cf_psub, cf_pmul, cf_pscale, mc_x1]; grind
theorem NZ_nx2 (l d : Rat) (f g : List Rat) : NZ (nx2 l d f g) := NZ_psub _ _
theorem x1_is (a : Rat) : x1 a = [-a, 1] := trim_NZ (.inr (by show cf [-a, 1] 1 ≠ 0; rw [cf_succ, cf_zero]; decide))
end Mt
namespace Mt
section
variable (L D : List Rat) (T : Nat)
abbrev mu (n : Nat) : Rat := sm (cf L) (cf D) T 0 n 0
variable {L D T}
theorem Su_sh (f : List Rat) (F : Nat → Rat) : ∀ N, Su (fun k => sh f 1 k * F k) (N + 1) = Su (fun k => cf f k * F (k + 1)) N
  | 0 => by rw [Su, Su, Su, sh, if_neg (by omega)]; grind
  | N + 1 => by rw [Su, Su_sh f F N, Su, sh, if_pos (by omega), Nat.add_sub_cancel]
end
end Mt
namespace Mt
end Mt
namespace L2
open PySem PySem.Spec PyProof.Rows
section
variable {X : Cx} {k : Nat} {sp : Sp} {ps : List Str} {x : Str} {p pos : Pos}
theorem call_sum (hc : X.calm = true) : CallR X (.builtin "sum") (fun xs H Q => ∃ p, ∃ ns : List Int, xs = [.ref p] ∧ SqL X.K H p (ns.map V.int) ∧ Q (.int ns.sum) H) := by
  rintro pins s σ H xs us Q I r ⟨p, ns, rfl, hp, q⟩
  obtain ⟨u, rfl, ru⟩ := vals1 r
  obtain rfl : u = Value.ref p := ru
  obtain ⟨its, hv, pl, hz⟩ := I.list hp
  have hi : IntsAre its ns := intsAre_of hv
  obtain ⟨xs, hx⟩ := hi.allInts.items
  have hl' : s.heap.IsList p (intItems xs) := hx ▸ pl.isList
  refine sum_intListG (I.ok.hd hc) hl' fun h' tk t' hk => ?_
  have e1 : ns = xs.toList.map (·.1) := by
    rw [← nums_intItems, ← hx]
    exact (show numsOf its.toArray.toList = ns from hi.numsOf).symm
  have e2 : preSum (numAt xs) xs.size = ns.sum := by
    rw [preSum_eq, List.take_of_length_le (by simp), e1]
  rw [e2]
  exact ⟨.int ns.sum, H, I.kept hk, ⟨t', rfl⟩, q⟩
end
end L2
namespace L2
open PySem PySem.Spec PyProof.Rows Builtin
section
variable {X : Cx}
def rCatA (K : PySem.W.Frag) : R2 := fun x y H Q => ∃ a b xs ys, x = .ref a ∧ y = .ref b ∧ SqT K H a xs ∧ SqT K H b ys ∧ xs.length + ys.length ≤ sizeLine ∧
  (xs = [] → Q (.ref b) H) ∧ (xs ≠ [] → ys = [] → Q (.ref a) H) ∧ (xs ≠ [] → ys ≠ [] → ∀ p, H p = none → Q (.ref p) (upd H p (.tup (xs ++ ys))))
theorem op_catA : OpR X (binaryOp .Add) (rCatA X.K) := by
  intro pins s σ H x y v u Q I rx ry h
  obtain ⟨a, b, xs, ys, rfl, rfl, ha, hb, hz, q0, q1, q2⟩ := h
  by_cases hx : xs = []
  · cases rx
    cases ry
    obtain ⟨its, r1, p1, _⟩ := I.tuple ha
    obtain ⟨its2, r2, p2, _⟩ := I.tuple hb
    obtain ⟨⟨cls, dd, data, sl⟩, ho, hc, n, hd⟩ := id p1
    obtain ⟨⟨cls2, dd2, data2, sl2⟩, ho2, hc2, n2, hd2⟩ := id p2
    simp only at hc hd hc2 hd2
    subst hc hd hc2 hd2
    have e0 : its = [] := r1.nil_iff.mpr hx
    exact concat_meets ⟨_, ho, rfl⟩ ⟨_, ho2, rfl⟩ noFill_tuple_add seq_tuple_add PySem.F.slot_tuple_add PySem.F.entry_tuple_add (PySem.F.args_tuple_add_2 _ _)
      (PyProof.Rows.tuple_addW0 a b its.toArray its2.toArray n n2 dd dd2 sl sl2 (by simp [e0])) ⟨ho, ho2, ⟨.ref b, H, I, rfl, q0 hx⟩⟩
  · exact op_catT pins s σ H (.ref a) (.ref b) v u Q I rx ry ⟨a, b, xs, ys, rfl, rfl, ha, hb, hx, hz, q1 hx, q2 hx⟩
end
end L2
namespace Mt
theorem lat_dotG {A B C E : Nat} {ms f : List Rat} (hf : ∀ n, Lat A B (cf f n)) (hm : ∀ n, Lat C E (cf ms n)) : ∀ i, Lat (A * C) (i * (B * E)) (Su (fun n => cf f n * cf ms n) i)
  | 0 => Lat.zero
  | i + 1 => by
    rw [Su, Nat.add_mul, Nat.one_mul]
    exact (lat_dotG hf hm i).add ((hf i).mul (hm i))
end Mt
namespace L2
theorem Ln.dot {b c : Nat} {f ms : List Rat} (h : Mt.Ln b b f) (k : Mt.Ln c c ms) {i : Nat} (hi : i ≤ 64) : Sz (b + c + 8) (Mt.Su (fun n => Mt.cf f n * Mt.cf ms n) i) := by
  obtain ⟨D, N, h1, h2, h3, h4⟩ := h.ex
  obtain ⟨E, M, k1, k2, k3, k4⟩ := k.ex
  have l := Mt.lat_dotG h4 k4 i
  have e := l.dvd (by have := Nat.mul_pos h1 k1; omega)
  have d1 := Nat.le_of_dvd (Nat.mul_pos h1 k1) e.1
  have d2 : D * E ≤ 2 ^ (b + c) := by rw [Nat.pow_add]; exact Nat.mul_le_mul h2 k2
  have n2 : i * (N * M) ≤ 2 ^ (b + c + 6) := by
    rw [Nat.pow_add, Nat.pow_add, Nat.mul_comm i]
    exact Nat.mul_le_mul (Nat.mul_le_mul h3 k3) hi
  have p1 : 2 ^ (b + c) < 2 ^ (b + c + 8) := Nat.pow_lt_pow_right (by decide) (by omega)
  have p2 : 2 ^ (b + c + 6) < 2 ^ (b + c + 8) := Nat.pow_lt_pow_right (by decide) (by omega)
  exact ⟨show (_ : Nat) < _ by omega, show (_ : Nat) < _ by show ((_ : Nat) : Int).natAbs < _; omega⟩
end L2
namespace L2
open PySem PySem.Spec PyProof.Rows
section
variable {X : Cx} {tg : Expr}
def tForVL (K : PySem.W.Frag) (te : TE) (g : TG) (tb : TS) : TS := fun D σ H => te σ H fun v H1 => ∃ a xs, v = .ref a ∧ SqL K H1 a xs ∧ FL xs.reverse (fun H => SqL K H a xs) g tb D σ H1
end
def ItzL (K : PySem.W.Frag) (l m : Addr) : It :=
  ⟨fun i H => ∃ xs ys x y, SqL K H l xs ∧ SqL K H m ys ∧ xs[i]? = some x ∧ ys[i]? = some y, fun i H v H' => ∃ p, v = .ref p ∧ H p = none ∧ ∀ xs ys x y, SqL K H l xs → SqL K H m ys → xs[i]? = some x → ys[i]? = some y → H' = upd H p (.tup [x, y]), fun i H => ∃ xs ys, SqL K H l xs ∧ SqL K H m ys ∧ xs.length ≤ i⟩
theorem turn_zl {P : Program} {w : World} {K : PySem.W.Frag} {es : List Expr} {y1 : Nat} {tp : Pos} (l m z a b p q : Addr) (D : ZipApart z a b p q l m) (zab : z ≠ a) :
    Turn P w K (.Tuple es y1 tp) (ItzL K l m) [z, a, b, p, q] z (fun i h => IsZip h z a b .none ∧ IsPair h a (.ref p) (.ref q) ∧ (∃ o1 o2, IsPair h b o1 o2) ∧ h.IsListIter p l i ∧ h.IsListIter q m i) where
  mem := by simp
  obj := fun i h st c hb => by
    obtain ⟨yz, ya, ⟨o1, o2, yb⟩, ⟨op, ep, _, dp⟩, ⟨oq, eq, _, dq⟩⟩ := st
    simp only [List.mem_cons, List.not_mem_nil, or_false] at hb
    rcases hb with rfl | rfl | rfl | rfl | rfl
    · exact ⟨_, yz, fun v q => by cases (show Data.fields _ = Data.cell v from q)⟩
    · exact ⟨_, ya, fun v q => by cases (show Data.seq _ _ = Data.cell v from q)⟩
    · exact ⟨_, yb, fun v q => by cases (show Data.seq _ _ = Data.cell v from q)⟩
    · exact ⟨op, ep, fun v q => by rw [dp] at q; cases q⟩
    · exact ⟨oq, eq, fun v q => by rw [dq] at q; cases q⟩
  keep := fun i h h' st k => by
    obtain ⟨yz, ya, ⟨o1, o2, yb⟩, ⟨op, ep, rp⟩, ⟨oq, eq, rq⟩⟩ := st
    exact ⟨k z (by simp) _ yz, k a (by simp) _ ya, ⟨o1, o2, k b (by simp) _ yb⟩, ⟨op, k p (by simp) _ ep, rp⟩, ⟨oq, k q (by simp) _ eq, rq⟩⟩
  item := by
    intro X hP hw hK hc i pins s σ H E I hf st hg
    subst hP hw hK
    obtain ⟨xs, ys, x, y, hx, hy, ex, ey⟩ := hg
    obtain ⟨its, rv, pt, hz⟩ := I.list hx
    obtain ⟨jts, rw', pl, hz2⟩ := I.list hy
    obtain ⟨u, hu, ru⟩ := rv.get ex
    obtain ⟨v, hv, rv2⟩ := rw'.get ey
    obtain ⟨yz, ya, ⟨o1, o2, yb⟩, yp, yq⟩ := st
    refine wpAny_pyNext_zip_item D yz ya yb yp yq pt.isList pl.isList (x := u) (y := v) (by simpa using hu) (by simpa using hv) fun h1 yo yb1 yp1 yq1 yt _ k1 => ⟨_, rfl, ?_⟩
    refine wpAny_letOwnedTupleGo_zip yo fun h2 yz2 b2 => ?_
    have b2 : Heap.SameBut z h1 h2 := b2
    have lt : ∀ {c o}, s.heap.get? c = some o → c ≠ s.heap.objs.size := fun e => Nat.ne_of_lt (Heap.lt_size e)
    have tz : z ≠ s.heap.objs.size := lt yz
    have ta : a ≠ s.heap.objs.size := lt ya
    have tb : b ≠ s.heap.objs.size := lt yb
    have tp' : p ≠ s.heap.objs.size := by obtain ⟨o, e, _⟩ := yp; exact lt e
    have tq : q ≠ s.heap.objs.size := by obtain ⟨o, e, _⟩ := yq; exact lt e
    have fr : H s.heap.objs.size = none := I.hok.fresh (Nat.le_refl _)
    have yt2 : h2.get? s.heap.objs.size = some { cls := .type "tuple", data := .seq #[u, v] } := b2.extBut _ _ (Ne.symm tz) yt
    have I2 : Inv X pins σ (upd H s.heap.objs.size (.tup [x, y])) { s with heap := h2, toks := s.toks } :=
      I.turnLaidL (ch := [z, a, b, p, q]) (fun c o nc e => by
        simp only [List.mem_cons, List.not_mem_nil, or_false, not_or] at nc
        exact b2.extBut c o nc.1 (k1 c o nc.1 nc.2.2.1 nc.2.2.2.1 nc.2.2.2.2 e)) (fun c hc => hf c hc) fr (Heap.get?_none_of_le (Nat.le_refl _))
        ⟨sz_le 2 (by decide), [u, v], .cons ru (.cons rv2 .nil), ⟨_, yt2, rfl, _, rfl⟩⟩
    refine ⟨.ref s.heap.objs.size, _, I2, rfl, ⟨_, rfl, fr, fun xs' ys' x' y' hx' hy' ex' ey' => ?_⟩, ⟨yz2, b2.extBut _ _ D.TIz (k1 _ _ D.TIz D.TITO D.TIi1 D.TIi2 ya), ⟨_, _, b2.extBut _ _ D.TOz yb1⟩, yp1.extBut b2.extBut D.i1z, yq1.extBut b2.extBut D.i2z⟩, fun c hc => ?_⟩
    · have e1 := I.list_inj hx' hx
      have e2 := I.list_inj hy' hy
      subst e1 e2
      rw [ex] at ex'
      rw [ey] at ey'
      cases ex'
      cases ey'
      rfl
    · have h0 := (hf c hc).1
      simp only [List.mem_cons, List.not_mem_nil, or_false] at hc
      rcases hc with rfl | rfl | rfl | rfl | rfl
      · rw [upd_ne tz]; exact h0
      · rw [upd_ne ta]; exact h0
      · rw [upd_ne tb]; exact h0
      · rw [upd_ne tp']; exact h0
      · rw [upd_ne tq]; exact h0
  done := by
    intro X hP hw hK hc i pins s σ H E I hf st hg
    subst hP hw hK
    obtain ⟨xs, ys, hx, hy, hl⟩ := hg
    obtain ⟨jts, rw', pl, hz2⟩ := I.list hy
    obtain ⟨its, rv, pt, hz⟩ := I.list hx
    obtain ⟨yz, ya, ⟨o1, o2, yb⟩, yp, yq⟩ := st
    have hn := rv.length
    exact wpAny_pyNext_zip_end (I.ok.hd hc) D yz ya yb yp yq pt.isList pl.isList (.inl (by simp; omega)) fun h' kp => ⟨rfl, I.turnedL (ch := [z, a, b, p, q]) (t' := s.toks) (fun c o nc e => by
      simp only [List.mem_cons, List.not_mem_nil, or_false, not_or] at nc
      exact kp c o nc.1 nc.2.2.1 nc.2.2.2.1 nc.2.2.2.2 e) (fun c hc => hf c hc)⟩
  self := fun _ _ _ _ _ st h => wpAny_pyIter_zip st.1 h
section
variable {X : Cx} {es : List Expr} {y1 : Nat} {tp : Pos}
def iZl (K : PySem.W.Frag) (ta : TA) : TI := fun σ H R => ta σ H fun vs H1 => ∃ l m, vs = [.ref l, .ref m] ∧ (∃ xs, SqL K H1 l xs) ∧ (∃ ys, SqL K H1 m ys) ∧ R (ItzL K l m) H1
theorem pi_zl {a b : Expr} {ta : TA} {p pos : Pos} (hg : Gl X "zip") (hm : X.mg "zip" = none) (ha : PA X [a, b] ta) (hs : starEach [a, b] X.env = [(false, eval a X.env), (false, eval b X.env)] := by rfl) (hs2 : starEach [b] X.env = [(false, eval b X.env)] := by rfl) :
    PI X (.Tuple es y1 tp) (.Call (.Name "zip" p) [a, b] [] pos) (iZl X.K ta) := by
  intro pins s σ H R I h
  refine Call_ (ld_blt I hg hm (show bootBuiltins "zip" = some (.type "zip") by decide +kernel) (PyProof.Rows.callWith_type1 (thn (ha pos pins s σ H _ I h) fun us s1 ⟨vs, H1, I1, r1, q1⟩ => ?_) (by rw [hs, hs2]) (by rw [hs2]; rfl)))
  obtain ⟨l, m, e, ⟨xs, hx⟩, ⟨ys, hy⟩, q⟩ := q1
  subst e
  obtain ⟨u, v, rfl, ru, rv⟩ := vals2 r1
  cases ru
  cases rv
  obtain ⟨its, _, yt, _⟩ := I1.list hx
  obtain ⟨jts, _, yl, _⟩ := I1.list hy
  refine call_zip_2 yt.isList yl.isList fun h' yz ya yb yp yq _ kp => wpAny_pyIter_zip yz ?_
  have ll : l < s1.heap.objs.size := by obtain ⟨o, _, e, _⟩ := yt; exact Heap.lt_size e
  have lm : m < s1.heap.objs.size := by obtain ⟨o, _, e, _⟩ := yl; exact Heap.lt_size e
  have D : ZipApart (s1.heap.objs.size + 4) (s1.heap.objs.size + 2) (s1.heap.objs.size + 3) s1.heap.objs.size (s1.heap.objs.size + 1) l m := by
    have hh : ∀ n l m : Nat, l < n → m < n → ZipApart (n + 4) (n + 2) (n + 3) n (n + 1) l m := fun n l m h1 h2 => by
      constructor <;> (show (_ : Nat) ≠ (_ : Nat); omega)
    exact hh _ _ _ ll lm
  refine ⟨s1.heap.objs.size + 4, [s1.heap.objs.size + 4, s1.heap.objs.size + 2, s1.heap.objs.size + 3, s1.heap.objs.size, s1.heap.objs.size + 1], _, _, H1, rfl, I1.kept (t' := s1.toks) kp, turn_zl l m _ _ _ _ _ D (Ne.symm D.TIz), ⟨yz, ya, ⟨_, _, yb⟩, yp, yq⟩, fun c hc => ?_, q⟩
  have hle : s1.heap.objs.size ≤ c := by
    simp only [List.mem_cons, List.not_mem_nil, or_false] at hc
    rcases hc with rfl | rfl | rfl | rfl | rfl <;> omega
  exact I1.fpOk hle (I1.hok.fresh hle)
end
def tForZL (K : PySem.W.Frag) (te te2 : TE) (g : TG) (tb : TS) : TS := fun D σ H => te σ H fun v H1 => te2 σ H1 fun v2 H2 => ∃ l, v = .ref l ∧ ∃ m, v2 = .ref m ∧ ∃ xs ys, SqL K H2 l xs ∧ SqL K H2 m ys ∧ xs.length ≤ ys.length ∧ FZ xs ys (fun H => SqL K H l xs ∧ SqL K H m ys) g tb D σ H2
section
variable {X : Cx} {es : List Expr} {y1 : Nat} {tp : Pos} {a b : Expr} {te te2 : TE} {g : TG} {tb : TS} {body : List Stmt} {p pos pos' : Pos}
end
end L2
namespace L2
open PySem PySem.Spec PyProof.Rows
section
variable {X : Cx}
noncomputable def isFr (K : PySem.W.Frag) (H : Hp) (q : Rat) (u : Value) : Bool := @decide (∃ p, u = .ref p ∧ Fq K H p q) (Classical.propDecidable _)
theorem isFr_is {pins : List (Addr × Obj)} {s : Shared} {σ : St} {H : Hp} {p : Addr} {q a : Rat} (I : Inv X pins σ H s) (h : Fq X.K H p a) : isFr X.K H q (.ref p) = decide (a = q) := by
  unfold isFr
  by_cases e : a = q
  · subst e
    rw [@decide_eq_true _ (Classical.propDecidable _) (show ∃ p', (Value.ref p) = .ref p' ∧ Fq X.K H p' a from ⟨p, rfl, h⟩), decide_eq_true rfl]
  · rw [decide_eq_false (show ¬ a = q from e)]
    refine @decide_eq_false _ (Classical.propDecidable _) ?_
    rintro ⟨p', e', h'⟩
    cases e'
    have := I.tuple_inj h h'
    injection this with z1 z2
    injection z1 with z1
    injection z2 with z2 _
    injection z2 with z2
    exact e (Rat.ext z1 (by omega))
theorem frs_eqAt {pins : List (Addr × Obj)} {s : Shared} {σ : St} {H : Hp} {p : Addr} {q : Rat} {f : List Rat} {xs : List V} {its : List Value} (I : Inv X pins σ H s) (A : Around) (hu : A.units + 2 < cLine) (hp : Fq X.K H p q) (hf : Frs X.K H f xs) (r : Vals xs its) :
    ∀ y, y ∈ its → SeqAt.EqAt A s y (.ref p) (isFr X.K H q y) := by
  induction f generalizing xs its with
  | nil =>
    have := hf.len
    cases r with
    | nil => intro y hy; cases hy
    | cons _ _ => simp at this
  | cons a f ih =>
    obtain ⟨pa, ys, rfl, ha, hf'⟩ := hf.uncons
    cases r with
    | cons r1 r2 =>
      intro y hy
      rcases List.mem_cons.mp hy with rfl | hy
      · cases r1
        rw [isFr_is I ha, ← frD_eqb]
        exact eq_at I 1 A _ _ _ _ _ _ (by rw [frD_dep]; decide) (by omega) (frD_sim a q) (rep_fr ha) (rep_fr hp) rfl rfl
      · exact ih hf' r2 y hy
theorem any_frs {pins : List (Addr × Obj)} {s : Shared} {σ : St} {H : Hp} {q : Rat} {f : List Rat} {xs : List V} {its : List Value} (I : Inv X pins σ H s) (hf : Frs X.K H f xs) (r : Vals xs its) : its.any (isFr X.K H q) = decide (q ∈ f) := by
  induction f generalizing xs its with
  | nil =>
    have := hf.len
    cases r with
    | nil => simp
    | cons _ _ => simp at this
  | cons a f ih =>
    obtain ⟨pa, ys, rfl, ha, hf'⟩ := hf.uncons
    cases r with
    | cons r1 r2 =>
      cases r1
      rw [List.any_cons, isFr_is I ha, ih hf' r2]
      by_cases e : a = q
      · subst e; simp
      · have : ¬ q = a := fun z => e z.symm
        simp [e, this]
def rInF (K : PySem.W.Frag) (neg : Bool) : R2 := fun x y H Q => ∃ p l xs f q, x = .ref p ∧ y = .ref l ∧ SqL K H l xs ∧ Frs K H f xs ∧ Fq K H p q ∧ Q (.bl (if neg then !decide (q ∈ f) else decide (q ∈ f))) H
theorem op_inF (hu : X.A.units + 64 < cLine) : OpR X (compareOp .In) (rInF X.K false) := by
  intro pins s σ H x y v u Q I rx ry h
  obtain ⟨p, l, xs, f, q, rfl, rfl, hl, hf, hp, k⟩ := h
  cases rx
  cases ry
  obtain ⟨its, r, pl, hz⟩ := I.list hl
  refine SeqAt.in_listAt (isFr X.K H q) pl.isList (fun w hw => frs_eqAt I _ (by show X.A.units + 1 + 2 < cLine; omega) hp hf r w (by simpa using hw)) ⟨.bl _, H, I, rfl, ?_⟩
  rw [show its.toArray.any (isFr X.K H q) = its.any (isFr X.K H q) by simp, any_frs I hf r]
  exact k
end
end L2
namespace Mt
section
variable {L D : List Rat} {T : Nat}
theorem cf_drop (f : List Rat) (h k : Nat) : cf (f.drop h) k = cf f (k + h) := by
  unfold cf
  rw [List.getD_eq_getElem?_getD, List.getElem?_drop, List.getD_eq_getElem?_getD, Nat.add_comm]
end
end Mt
namespace Mt
theorem php : ∀ (N M : Nat) (F : Nat → Nat), (∀ x, x < M → F x < N) → N < M → ∃ x y, x < y ∧ y < M ∧ F x = F y
  | 0, M, F, h, l => absurd (h 0 l) (by omega)
  | N + 1, M, F, h, l => by
    by_cases e : ∃ x, x < M - 1 ∧ F x = F (M - 1)
    · obtain ⟨x, hx, ex⟩ := e
      exact ⟨x, M - 1, hx, by omega, ex⟩
    have ne : ∀ x, x < M - 1 → F x ≠ F (M - 1) := fun x hx z => e ⟨x, hx, z⟩
    obtain ⟨x, y, h1, h2, h3⟩ := php N (M - 1) (fun x => if F (M - 1) < F x then F x - 1 else F x) (fun x hx => by
      have := h x (by omega)
      have := h (M - 1) (by omega)
      have := ne x hx
      split <;> omega) (by omega)
    refine ⟨x, y, h1, by omega, ?_⟩
    have := ne x (by omega)
    have := ne y (by omega)
    split at h3 <;> split at h3 <;> omega
def dg (b j x : Nat) : Nat := x / b ^ j % b
theorem dg_succ (b j x : Nat) : dg b (j + 1) x = dg b j (x / b) := by
  rw [dg, dg, Nat.pow_succ, Nat.mul_comm, Nat.div_div_eq_div_mul]
theorem dg_inj {b : Nat} (hb : 0 < b) : ∀ (n x y : Nat), x < b ^ n → y < b ^ n → (∀ j, j < n → dg b j x = dg b j y) → x = y
  | 0, x, y, hx, hy, _ => by simp at hx hy; omega
  | n + 1, x, y, hx, hy, h => by
    have e : x / b = y / b := dg_inj hb n (x / b) (y / b) (Nat.div_lt_of_lt_mul (by rw [Nat.mul_comm, ← Nat.pow_succ]; exact hx)) (Nat.div_lt_of_lt_mul (by rw [Nat.mul_comm, ← Nat.pow_succ]; exact hy)) fun j hj => by
      rw [← dg_succ, ← dg_succ]; exact h (j + 1) (by omega)
    have e0 := h 0 (by omega)
    simp only [dg, Nat.pow_zero, Nat.div_one] at e0
    have a := Nat.div_add_mod x b
    have c := Nat.div_add_mod y b
    rw [e, e0] at a
    omega
def enc (W : Nat) (y : Nat → Nat) : Nat → Nat
  | 0 => 0
  | h + 1 => enc W y h + y h * W ^ h
theorem enc_lt {W : Nat} {y : Nat → Nat} : ∀ {h : Nat}, (∀ i, i < h → y i < W) → enc W y h < W ^ h
  | 0, _ => by simp [enc]
  | h + 1, k => by
    have a := enc_lt (W := W) (y := y) (h := h) fun i hi => k i (by omega)
    have b : (y h + 1) * W ^ h ≤ W * W ^ h := Nat.mul_le_mul_right _ (k h (by omega))
    rw [Nat.add_mul, Nat.one_mul] at b
    rw [enc, Nat.pow_succ, Nat.mul_comm _ W]
    omega
theorem enc_inj {W : Nat} {y z : Nat → Nat} : ∀ {h : Nat}, (∀ i, i < h → y i < W) → (∀ i, i < h → z i < W) → enc W y h = enc W z h → ∀ i, i < h → y i = z i
  | 0, _, _, _, i, hi => absurd hi (by omega)
  | h + 1, ky, kz, e, i, hi => by
    have ay := enc_lt (W := W) (y := y) (h := h) fun i hi => ky i (by omega)
    have az := enc_lt (W := W) (y := z) (h := h) fun i hi => kz i (by omega)
    rw [enc, enc] at e
    have W0 : 0 < W ^ h := by omega
    have ey : (enc W y h + y h * W ^ h) / W ^ h = y h := by rw [Nat.add_mul_div_right _ _ W0, Nat.div_eq_of_lt ay, Nat.zero_add]
    have ez : (enc W z h + z h * W ^ h) / W ^ h = z h := by rw [Nat.add_mul_div_right _ _ W0, Nat.div_eq_of_lt az, Nat.zero_add]
    rw [e, ez] at ey
    rcases Nat.lt_or_ge i h with l | l
    · refine enc_inj (fun i hi => ky i (by omega)) (fun i hi => kz i (by omega)) ?_ i l
      rw [ey] at e
      omega
    · obtain rfl : i = h := by omega
      exact ey.symm
def sI (f : Nat → Int) : Nat → Int
  | 0 => 0
  | n + 1 => sI f n + f n
theorem sI_sub (f g : Nat → Int) : ∀ n, sI (fun j => f j - g j) n = sI f n - sI g n
  | 0 => rfl
  | n + 1 => by rw [sI, sI, sI, sI_sub f g n]; omega
theorem sI_bd {f : Nat → Int} {N : Nat} (h : ∀ j, (f j).natAbs ≤ N) : ∀ n, (sI f n).natAbs ≤ n * N
  | 0 => by simp [sI]
  | n + 1 => by
    have a := sI_bd h n
    have b := h n
    rw [sI, Nat.add_mul, Nat.one_mul]
    omega
theorem siegel {a : Nat → Nat → Int} {A h n : Nat} (hA : 0 < A) (ha : ∀ i j, (a i j).natAbs ≤ A) (hn : h < n) :
    ∃ c : Nat → Int, (∃ j, j < n ∧ c j ≠ 0) ∧ (∀ j, (c j).natAbs ≤ (2 * n * A) ^ h) ∧ ∀ i, i < h → sI (fun j => a i j * c j) n = 0 := by
  obtain ⟨B, eB⟩ : ∃ B, B = (2 * n * A) ^ h := ⟨_, rfl⟩
  have nA : 1 ≤ n * A := Nat.mul_pos (by omega) hA
  obtain ⟨C, eC⟩ : ∃ C, C = n * (A * B) := ⟨_, rfl⟩
  have dl : ∀ j x, dg (B + 1) j x ≤ B := fun j x => Nat.le_of_lt_succ (Nat.mod_lt _ (by omega))
  have yb : ∀ i x, (sI (fun j => a i j * (dg (B + 1) j x : Int)) n).natAbs ≤ C := fun i x => by
    rw [eC]
    refine sI_bd (fun j => ?_) n
    rw [Int.natAbs_mul, Int.natAbs_natCast]
    exact Nat.mul_le_mul (ha i j) (dl j x)
  have lt : (2 * C + 1) ^ h < (B + 1) ^ n := by
    have l1 : 2 * C + 1 ≤ 2 * n * A * (B + 1) := by
      rw [eC, Nat.mul_add, Nat.mul_one, ← Nat.mul_assoc, ← Nat.mul_assoc]
      have : 2 * n * A = 2 * (n * A) := Nat.mul_assoc ..
      omega
    refine Nat.lt_of_le_of_lt (Nat.pow_le_pow_left l1 h) ?_
    rw [Nat.mul_pow, ← eB]
    refine Nat.lt_of_lt_of_le (Nat.mul_lt_mul_of_pos_right (Nat.lt_succ_self B) (Nat.pow_pos (by omega))) ?_
    rw [← Nat.pow_add_one']
    exact Nat.pow_le_pow_right (by omega) hn
  have wl : ∀ x i, ((sI (fun j => a i j * (dg (B + 1) j x : Int)) n) + C).toNat < 2 * C + 1 := fun x i => by
    have := yb i x
    omega
  obtain ⟨x, y, xy, yM, e⟩ := php ((2 * C + 1) ^ h) ((B + 1) ^ n) (fun x => enc (2 * C + 1) (fun i => ((sI (fun j => a i j * (dg (B + 1) j x : Int)) n) + C).toNat) h) (fun x _ => enc_lt fun i _ => wl x i) lt
  have eq := enc_inj (fun i _ => wl x i) (fun i _ => wl y i) e
  refine ⟨fun j => (dg (B + 1) j x : Int) - (dg (B + 1) j y : Int), ?_, fun j => ?_, fun i hi => ?_⟩
  · apply Classical.byContradiction
    intro z
    have : x = y := dg_inj (b := B + 1) (by omega) n x y (by omega) yM fun j hj => by
      apply Classical.byContradiction
      intro ne
      exact z ⟨j, hj, by show (dg (B + 1) j x : Int) - (dg (B + 1) j y : Int) ≠ 0; omega⟩
    omega
  · rw [← eB]
    show ((dg (B + 1) j x : Int) - (dg (B + 1) j y : Int)).natAbs ≤ B
    have := dl j x
    have := dl j y
    omega
  · have e1 := eq i hi
    have b1 := yb i x
    have b2 := yb i y
    have : sI (fun j => a i j * ((dg (B + 1) j x : Int) - (dg (B + 1) j y : Int))) n = sI (fun j => a i j * (dg (B + 1) j x : Int)) n - sI (fun j => a i j * (dg (B + 1) j y : Int)) n := by
      rw [← sI_sub]
      congr 1
      funext j
      rw [Int.mul_sub]
    rw [this]
    omega
theorem Su_swap (F : Nat → Nat → Rat) (m : Nat) : ∀ n, Su (fun i => Su (fun j => F i j) m) n = Su (fun j => Su (fun i => F i j) n) m
  | 0 => by rw [Su]; exact (Su_zero m).symm
  | n + 1 => by
    rw [Su, Su_swap F m n, ← Su_add]
    exact Su_congr fun j _ => by rw [Su]
def lf (ms p : List Rat) (l : Nat) : Rat := Su (fun n => cf p n * cf ms (n + l)) p.length
theorem lf_dot (ms p : List Rat) (l : Nat) : dot (ms.drop l) p = lf ms p l := Su_congr fun n _ => by rw [cf_drop]
theorem lf_up (ms p : List Rat) (l : Nat) {N : Nat} (h : p.length ≤ N) : Su (fun n => cf p n * cf ms (n + l)) N = lf ms p l := by
  obtain ⟨k, rfl⟩ : ∃ k, N = p.length + k := ⟨N - p.length, by omega⟩
  exact Su_more _ (fun i hi => by rw [cf_ge hi, Rat.zero_mul]) k
theorem lf_nx2 (ms f g : List Rat) (a b : Rat) (l : Nat) : lf ms (nx2 a b f g) l = lf ms f (l + 1) - a * lf ms f l - b * lf ms g l := by
  obtain ⟨N, h1, h2, h3⟩ : ∃ N, (nx2 a b f g).length ≤ N + 1 ∧ f.length ≤ N ∧ g.length ≤ N := ⟨(nx2 a b f g).length + f.length + g.length, by omega, by omega, by omega⟩
  rw [← lf_up ms _ l h1, ← lf_up ms f (l + 1) h2, ← lf_up ms f l (show f.length ≤ N + 1 by omega), ← lf_up ms g l (show g.length ≤ N + 1 by omega)]
  have e : ∀ n, cf (nx2 a b f g) n * cf ms (n + l) = (sh f 1 n * cf ms (n + l) + cf f n * cf ms (n + l) * (-a)) + cf g n * cf ms (n + l) * (-b) := fun n => by rw [cf_nx2]; grind
  rw [Su_congr fun n _ => e n, Su_add, Su_add, Su_mul, Su_mul, Su_sh f (fun n => cf ms (n + l)) N]
  have e2 : Su (fun k => cf f k * cf ms (k + 1 + l)) N = Su (fun k => cf f k * cf ms (k + (l + 1))) N := Su_congr fun k _ => by rw [show k + 1 + l = k + (l + 1) by omega]
  rw [e2]
  grind
structure Mo (ms p : List Rat) (i : Nat) : Prop where
  len : p.length = i + 1
  top : cf p i = 1
  orth : ∀ l, l < i → lf ms p l = 0
theorem Mo.su {ms p : List Rat} {i : Nat} (h : Mo ms p i) (l : Nat) {d : Nat} (hd : i < d) : Su (fun n => cf p n * cf ms (n + l)) d = lf ms p l := lf_up ms p l (by rw [h.len]; omega)
theorem only {ms : List Rat} {p : Nat → List Rat} {i : Nat} (hp : ∀ j, j < i → Mo ms (p j) j) (nz : ∀ j, j < i → lf ms (p j) j ≠ 0) {q : Nat → Rat}
    (hq : ∀ l, l < i → Su (fun n => q n * cf ms (n + l)) i = 0) : ∀ t n, n < i → i ≤ n + t → q n = 0
  | 0, n, h1, h2 => absurd h1 (by omega)
  | t + 1, d, h1, h2 => by
    rcases Nat.lt_or_ge d (i - t) with z | z
    · have ab : ∀ n, n < i → d < n → q n = 0 := fun n h3 h4 => only hp nz hq t n h3 (by omega)
      have e1 : Su (fun l => Su (fun n => cf (p d) l * (q n * cf ms (n + l))) i) (d + 1) = 0 := by
        rw [Su_congr (g := fun _ => 0) fun l hl => ?_, Su_zero]
        rw [Su_congr (g := fun n => q n * cf ms (n + l) * cf (p d) l) fun n _ => Rat.mul_comm .., Su_mul, hq l (by omega), Rat.zero_mul]
      rw [← Su_swap] at e1
      have e2 : ∀ n, n < i → Su (fun l => cf (p d) l * (q n * cf ms (n + l))) (d + 1) = q n * lf ms (p d) n := fun n _ => by
        rw [← (hp d h1).su n (show d < d + 1 by omega), Rat.mul_comm (q n), ← Su_mul]
        exact Su_congr fun l _ => by rw [Nat.add_comm n l]; grind
      rw [Su_congr e2] at e1
      have e3 : ∀ n, n < i → q n * lf ms (p d) n = q n * lf ms (p d) n * (if d = n then 1 else 0) := fun n hn => by
        by_cases y : d = n
        · rw [if_pos y, Rat.mul_one]
        rw [if_neg y, Rat.mul_zero]
        rcases Nat.lt_or_ge n d with x | x
        · rw [(hp d h1).orth n x, Rat.mul_zero]
        · rw [ab n hn (by omega), Rat.zero_mul]
      rw [Su_congr e3, Su_one (fun n => q n * lf ms (p d) n) d i h1] at e1
      exact (Rat.mul_eq_zero.mp e1).resolve_right (nz d h1)
    · exact only hp nz hq t d h1 (by omega)
theorem Mo.uniq {ms : List Rat} {p : Nat → List Rat} {i : Nat} (hp : ∀ j, j < i → Mo ms (p j) j) (nz : ∀ j, j < i → lf ms (p j) j ≠ 0) {r : List Rat} (hr : Mo ms r i)
    {c : Nat → Rat} (hc : ∀ l, l < i → Su (fun n => c n * cf ms (n + l)) (i + 1) = 0) {n : Nat} (hn : n ≤ i) : cf r n * c i = c n := by
  have h := only hp nz (q := fun n => c n - cf r n * c i) (fun l hl => by
    have e1 := hc l hl
    have e2 := hr.orth l hl
    rw [← hr.su l (show i < i + 1 by omega)] at e2
    have e : Su (fun n => (c n - cf r n * c i) * cf ms (n + l)) (i + 1) = 0 := by
      rw [Su_congr (g := fun n => c n * cf ms (n + l) + cf r n * cf ms (n + l) * (-c i)) fun n _ => by grind, Su_add, Su_mul, e1, e2]
      grind
    rw [Su, hr.top] at e
    grind) i
  rcases Nat.lt_or_ge n i with z | z
  · have := h n z (by omega)
    grind
  · obtain rfl : n = i := by omega
    rw [hr.top, Rat.one_mul]
theorem su_sI {f : Nat → Rat} {g : Nat → Int} : ∀ {m : Nat}, (∀ h, h < m → f h = g h) → Su f m = (sI g m : Int)
  | 0, _ => rfl
  | m + 1, h => by rw [Su, sI, su_sI fun i hi => h i (by omega), h m (by omega), Rat.intCast_add]
theorem Mo.small {ms : List Rat} {p : Nat → List Rat} {i A : Nat} {d0 : Int} {M : Nat → Int} (hp : ∀ j, j < i → Mo ms (p j) j) (nz : ∀ j, j < i → lf ms (p j) j ≠ 0) {r : List Rat} (hr : Mo ms r i)
    (hd : d0 ≠ 0) (hA : 0 < A) (hM : ∀ n, cf ms n * (d0 : Rat) = (M n : Rat)) (bM : ∀ n, (M n).natAbs ≤ A) :
    ∃ c : Nat → Int, c i ≠ 0 ∧ (∀ n, (c n).natAbs ≤ (2 * (i + 1) * A) ^ i) ∧ (∀ n, n ≤ i → cf r n * (c i : Rat) = (c n : Rat)) ∧ ∀ l, lf ms r l * ((c i * d0 : Int) : Rat) = (sI (fun n => M (n + l) * c n) (i + 1) : Int) := by
  have d0' : (d0 : Rat) ≠ 0 := fun z => hd (by exact_mod_cast z)
  obtain ⟨c, ⟨j, hj, cj⟩, cb, ce⟩ := siegel (a := fun l n => M (n + l)) (h := i) (n := i + 1) hA (fun _ _ => bM _) (by omega)
  have key : ∀ l, Su (fun n => (c n : Rat) * cf ms (n + l)) (i + 1) * (d0 : Rat) = (sI (fun n => M (n + l) * c n) (i + 1) : Int) := fun l => by
    rw [← Su_mul]
    refine su_sI fun n _ => ?_
    rw [Rat.intCast_mul, ← hM]
    grind
  have un := fun n (hn : n ≤ i) => Mo.uniq hp nz hr (c := fun n => (c n : Rat)) (fun l hl => by
    have := key l
    rw [ce l hl] at this
    exact (Rat.mul_eq_zero.mp this).resolve_right d0') hn
  refine ⟨c, fun z => cj ?_, cb, un, fun l => ?_⟩
  · have := un j (by omega)
    rw [z] at this
    have t : ((c j : Int) : Rat) = 0 := by rw [← this]; show cf r j * (0 : Rat) = 0; rw [Rat.mul_zero]
    exact_mod_cast t
  · rw [← key l, ← hr.su l (show i < i + 1 by omega), Rat.intCast_mul, ← Rat.mul_assoc, ← Su_mul]
    congr 1
    refine Su_congr fun n hn => ?_
    rw [← un n (by omega)]
    grind
structure Bf (ms g : List Rat) (i : Nat) (s q : Rat) : Prop where
  none : i = 0 → g = [] ∧ s = 0
  some : ∀ j, i = j + 1 → Mo ms g j ∧ lf ms g j = q ∧ s * q = lf ms g i
theorem Bf.len {ms g : List Rat} {i : Nat} {s q : Rat} (h : Bf ms g i s q) : g.length ≤ i := by
  rcases i with _ | j
  · rw [(h.none rfl).1]; exact Nat.le_refl _
  · rw [(h.some j rfl).1.len]; exact Nat.le_refl _
theorem Mo.step {ms f g : List Rat} {i : Nat} {s t q u : Rat} (hf : Mo ms f i) (hg : Bf ms g i s q) (q0 : q ≠ 0) (hu : lf ms f i = u) (ht : t * u = lf ms f (i + 1)) : Mo ms (nx2 (t - s) (u / q) f g) (i + 1) := by
  have gz : ∀ k, i ≤ k → cf g k = 0 := fun k hk => cf_ge (by have := hg.len; omega)
  have fz : ∀ k, i < k → cf f k = 0 := fun k hk => cf_ge (by rw [hf.len]; omega)
  have top : cf (nx2 (t - s) (u / q) f g) (i + 1) = 1 := by
    rw [cf_nx2, sh, if_pos (by omega), Nat.add_sub_cancel, hf.top, fz _ (by omega), gz _ (by omega)]; grind
  refine ⟨?_, top, fun l hl => ?_⟩
  · have a : (nx2 (t - s) (u / q) f g).length ≤ i + 2 := (NZ_nx2 _ _ _ _).le fun k hk => by
      rw [cf_nx2, sh, if_pos (by omega), fz _ (by omega), fz _ (by omega), gz _ (by omega)]; grind
    rcases Nat.lt_or_ge (i + 1) (nx2 (t - s) (u / q) f g).length with z | z
    · omega
    · rw [cf_ge z] at top
      exact absurd top (by decide)
  · rw [lf_nx2]
    rcases Nat.lt_or_ge l i with z | z
    · obtain ⟨j, rfl⟩ : ∃ j, i = j + 1 := ⟨i - 1, by omega⟩
      obtain ⟨mg, eq, _⟩ := hg.some j rfl
      rw [hf.orth l z]
      rcases Nat.lt_or_ge l j with y | y
      · rw [hf.orth (l + 1) (by omega), mg.orth l y]; grind
      · obtain rfl : l = j := by omega
        rw [hu, eq, Rat.div_def, Rat.mul_assoc, Rat.inv_mul_cancel q q0]; grind
    · obtain rfl : l = i := by omega
      rw [hu, ← ht]
      rcases l with _ | j
      · obtain ⟨rfl, rfl⟩ := hg.none rfl
        have : lf ms [] 0 = 0 := rfl
        rw [this]; grind
      · obtain ⟨mg, eq, es⟩ := hg.some j rfl
        rw [← es, Rat.div_def]
        have : u * q⁻¹ * (s * q) = u * s * (q⁻¹ * q) := by grind
        rw [this, Rat.inv_mul_cancel q q0]; grind
theorem Mo.one {ms : List Rat} : Mo ms [1] 0 := ⟨rfl, rfl, fun l hl => absurd hl (by omega)⟩
def vl (x : Rat) : List Rat → Rat
  | [] => 0
  | a :: f => a + x * vl x f
def dv (x : Rat) : List Rat → List Rat
  | [] => []
  | _ :: f => match f with | [] => [] | b :: g => vl x (b :: g) :: dv x (b :: g)
theorem dv_len (x : Rat) : ∀ f : List Rat, (dv x f).length = f.length - 1
  | [] => rfl
  | [_] => rfl
  | _ :: b :: g => by
    show (dv x (b :: g)).length + 1 = _
    rw [dv_len x (b :: g)]; simp
theorem dv_vl (x y : Rat) : ∀ f : List Rat, vl y f = vl x f + (y - x) * vl y (dv x f)
  | [] => by show (0 : Rat) = 0 + (y - x) * 0; grind
  | [a] => by show a + y * 0 = a + x * 0 + (y - x) * 0; grind
  | a :: b :: g => by
    have h := dv_vl x y (b :: g)
    show a + y * vl y (b :: g) = a + x * vl x (b :: g) + (y - x) * (vl x (b :: g) + y * vl y (dv x (b :: g)))
    grind
theorem dv_top (x : Rat) : ∀ (f : List Rat) (n : Nat), f.length = n + 2 → cf (dv x f) n = cf f (n + 1)
  | [], n, h => by simp at h
  | [_], n, h => by simp at h
  | [a, b], n, h => by
    obtain rfl : n = 0 := by simpa using h.symm
    show vl x [b] = b
    show b + x * 0 = b
    grind
  | a :: b :: c :: g, n, h => by
    obtain ⟨m, rfl⟩ : ∃ m, n = m + 1 := ⟨n - 1, by simp at h; omega⟩
    have := dv_top x (b :: c :: g) m (by simpa using h)
    show cf (vl x (b :: c :: g) :: dv x (b :: c :: g)) (m + 1) = cf (a :: b :: c :: g) (m + 1 + 1)
    rw [cf_succ, cf_succ, this]
theorem roots : ∀ (n : Nat) (f : List Rat), f.length = n + 1 → cf f n ≠ 0 → ∀ xs : List Rat, xs.Nodup → n < xs.length → ∃ x ∈ xs, vl x f ≠ 0
  | 0, f, h, z, xs, _, l => by
    obtain ⟨a, rfl⟩ : ∃ a, f = [a] := List.length_eq_one_iff.mp h
    obtain ⟨x, ys, rfl⟩ : ∃ x ys, xs = x :: ys := List.exists_cons_of_length_pos l
    refine ⟨x, List.mem_cons_self, ?_⟩
    have : cf [a] 0 = a := rfl
    rw [this] at z
    show a + x * 0 ≠ 0
    grind
  | n + 1, f, h, z, xs, nd, l => by
    obtain ⟨x, ys, rfl⟩ : ∃ x ys, xs = x :: ys := List.exists_cons_of_length_pos (by omega)
    by_cases hx : vl x f = 0
    · obtain ⟨y, hy, e⟩ := roots n (dv x f) (by rw [dv_len]; omega) (by rw [dv_top x f n h]; exact z) ys (List.nodup_cons.mp nd).2 (by simpa using l)
      refine ⟨y, List.mem_cons_of_mem _ hy, ?_⟩
      rw [dv_vl x y f, hx]
      intro w
      have ne : y - x ≠ 0 := fun w' => by
        have : y = x := by grind
        exact (List.nodup_cons.mp nd).1 (this ▸ hy)
      have : (y - x) * vl y (dv x f) = 0 := by grind
      exact (Rat.mul_eq_zero.mp this).elim ne e
    · exact ⟨x, List.mem_cons_self, hx⟩
def pw (x : Rat) : Nat → Rat
  | 0 => 1
  | n + 1 => pw x n * x
theorem pw_add (x : Rat) (m : Nat) : ∀ n, pw x (n + m) = pw x n * pw x m
  | 0 => by rw [Nat.zero_add, pw, Rat.one_mul]
  | n + 1 => by rw [Nat.add_right_comm, pw, pw, pw_add x m n]; grind
theorem Su_front (F : Nat → Rat) : ∀ n, Su F (n + 1) = F 0 + Su (fun k => F (k + 1)) n
  | 0 => by rw [Su, Su, Su]; grind
  | n + 1 => by rw [Su, Su_front F n, Su]; grind
theorem vl_su (x : Rat) : ∀ f : List Rat, vl x f = Su (fun n => cf f n * pw x n) f.length
  | [] => rfl
  | a :: f => by
    rw [vl, vl_su x f, List.length_cons, Su_front, cf_zero, pw, Rat.mul_one, Rat.mul_comm, ← Su_mul]
    congr 1
    exact Su_congr fun n _ => by rw [cf_succ, pw]; grind
def spM (ws xs : List Rat) (m n : Nat) : Rat := Su (fun t => cf ws t * pw (cf xs t) n) m
theorem lf_spots {ms ws xs p : List Rat} {m N l : Nat} (h : ∀ n, n < N → cf ms n = spM ws xs m n) (hl : p.length + l ≤ N) : lf ms p l = Su (fun t => cf ws t * pw (cf xs t) l * vl (cf xs t) p) m := by
  rw [lf, Su_congr (g := fun n => Su (fun t => cf p n * (cf ws t * pw (cf xs t) (n + l))) m) fun n hn => ?_, Su_swap]
  · refine Su_congr fun t _ => ?_
    rw [vl_su, Rat.mul_comm, ← Su_mul]
    exact Su_congr fun n _ => by rw [pw_add]; grind
  · rw [h (n + l) (by omega), spM, Rat.mul_comm, ← Su_mul]
    exact Su_congr fun t _ => Rat.mul_comm ..
theorem sq_nn (v : Rat) : 0 ≤ v * v := by
  rcases Rat.le_total (a := 0) (b := v) with h | h
  · exact Rat.mul_nonneg h h
  · have h2 : 0 ≤ -v := by grind
    have := Rat.mul_nonneg h2 h2
    grind
theorem Su_nn {F : Nat → Rat} : ∀ {m : Nat}, (∀ t, t < m → 0 ≤ F t) → 0 ≤ Su F m
  | 0, _ => by rw [Su]; exact Rat.le_refl
  | m + 1, h => by
    rw [Su]
    have a := Su_nn (F := F) (m := m) fun t ht => h t (by omega)
    have b := h m (by omega)
    grind
theorem Su_nn0 {F : Nat → Rat} : ∀ {m : Nat}, (∀ t, t < m → 0 ≤ F t) → Su F m = 0 → ∀ t, t < m → F t = 0
  | 0, _, _, t, ht => absurd ht (by omega)
  | m + 1, h, e, t, ht => by
    rw [Su] at e
    have a := Su_nn (F := F) (m := m) fun t ht => h t (by omega)
    have b := h m (by omega)
    rcases Nat.lt_or_ge t m with z | z
    · exact Su_nn0 (fun t ht => h t (by omega)) (by grind) t z
    · obtain rfl : t = m := by omega
      grind
theorem spots_nz {ms ws xs p : List Rat} {m N i : Nat} (h : ∀ n, n < N → cf ms n = spM ws xs m n) (hw : ∀ t, t < m → 0 < cf ws t) (nd : xs.Nodup) (lx : xs.length = m) (him : i < m) (hN : 2 * i + 1 ≤ N) (hp : Mo ms p i) : lf ms p i ≠ 0 := by
  intro z
  have all : ∀ l, l < i + 1 → lf ms p l = 0 := fun l hl => by
    rcases Nat.lt_or_ge l i with y | y
    · exact hp.orth l y
    · obtain rfl : l = i := by omega
      exact z
  have e : Su (fun l => cf p l * lf ms p l) (i + 1) = 0 := by
    rw [Su_congr (g := fun _ => 0) fun l hl => by rw [all l hl, Rat.mul_zero], Su_zero]
  have lp := hp.len
  rw [Su_congr (g := fun l => Su (fun t => cf p l * (cf ws t * pw (cf xs t) l * vl (cf xs t) p)) m) fun l hl => by
    rw [lf_spots h (by omega), Rat.mul_comm, ← Su_mul]
    exact Su_congr fun t _ => Rat.mul_comm .., Su_swap] at e
  rw [Su_congr (g := fun t => cf ws t * (vl (cf xs t) p * vl (cf xs t) p)) fun t _ => by
    rw [Su_congr (g := fun l => cf p l * pw (cf xs t) l * (cf ws t * vl (cf xs t) p)) fun l _ => by grind, Su_mul, ← lp, ← vl_su]
    grind] at e
  have v0 := Su_nn0 (fun t ht => Rat.mul_nonneg (Rat.le_of_lt (hw t ht)) (sq_nn _)) e
  obtain ⟨x, hx, nx⟩ := roots i p lp (by rw [hp.top]; decide) xs nd (by omega)
  obtain ⟨t, ht, rfl⟩ := List.getElem_of_mem hx
  have := v0 t (by omega)
  have cx : cf xs t = xs[t] := by
    unfold cf
    rw [List.getD_eq_getElem?_getD, List.getElem?_eq_getElem ht]
    rfl
  rw [cx] at this
  rcases Rat.mul_eq_zero.mp this with y | y
  · have := hw t (by omega)
    grind
  · exact nx ((Rat.mul_eq_zero.mp y).elim id id)
def du (xs : List Rat) : Nat → List Rat
  | 0 => [1]
  | j + 1 => (List.range (j + 2)).map fun n => sh (du xs j) 1 n - cf xs j * cf (du xs j) n
theorem du_len (xs : List Rat) : ∀ j, (du xs j).length = j + 1
  | 0 => rfl
  | _ + 1 => by simp [du]
theorem du_cf (xs : List Rat) (j n : Nat) : cf (du xs (j + 1)) n = sh (du xs j) 1 n - cf xs j * cf (du xs j) n := by
  rw [du, cf_map_range]
  split
  · rfl
  · rw [sh, if_pos (by omega), cf_ge (l := du xs j) (by rw [du_len]; omega), cf_ge (l := du xs j) (by rw [du_len]; omega)]; grind
theorem du_top (xs : List Rat) : ∀ j, cf (du xs j) j = 1
  | 0 => rfl
  | j + 1 => by rw [du_cf, sh, if_pos (by omega), Nat.add_sub_cancel, du_top xs j, cf_ge (l := du xs j) (by rw [du_len]; omega)]; grind
theorem vl_up (x : Rat) (f : List Rat) {N : Nat} (h : f.length ≤ N) : Su (fun n => cf f n * pw x n) N = vl x f := by
  obtain ⟨k, rfl⟩ : ∃ k, N = f.length + k := ⟨N - f.length, by omega⟩
  rw [vl_su]
  exact Su_more _ (fun i hi => by rw [cf_ge hi, Rat.zero_mul]) k
theorem du_vl (xs : List Rat) (x : Rat) (j : Nat) : vl x (du xs (j + 1)) = (x - cf xs j) * vl x (du xs j) := by
  rw [← vl_up x _ (show (du xs (j + 1)).length ≤ j + 1 + 1 by rw [du_len]; omega)]
  rw [Su_congr (g := fun n => sh (du xs j) 1 n * pw x n + cf (du xs j) n * pw x n * (-cf xs j)) fun n _ => by rw [du_cf]; grind, Su_add, Su_mul, Su_sh, vl_up x _ (by rw [du_len]; omega)]
  rw [Su_congr (g := fun k => cf (du xs j) k * pw x k * x) fun n _ => by rw [pw]; grind, Su_mul, vl_up x _ (by rw [du_len]; omega)]
  grind
theorem du_nought (xs : List Rat) : ∀ j t, t < j → vl (cf xs t) (du xs j) = 0
  | 0, t, h => absurd h (by omega)
  | j + 1, t, h => by
    rw [du_vl]
    rcases Nat.lt_or_ge t j with z | z
    · rw [du_nought xs j t z, Rat.mul_zero]
    · obtain rfl : t = j := by omega
      rw [Rat.sub_self, Rat.zero_mul]
theorem du_lf {ms ws xs : List Rat} {m N l : Nat} (h : ∀ n, n < N → cf ms n = spM ws xs m n) (hl : m + 1 + l ≤ N) : lf ms (du xs m) l = 0 := by
  rw [lf_spots h (by rw [du_len]; omega), Su_congr (g := fun _ => 0) fun t ht => by rw [du_nought xs m t ht, Rat.mul_zero], Su_zero]
theorem du_mo {ms ws xs : List Rat} {m N : Nat} (h : ∀ n, n < N → cf ms n = spM ws xs m n) (hl : 2 * m ≤ N) : Mo ms (du xs m) m :=
  ⟨du_len xs m, du_top xs m, fun l hl' => du_lf h (by omega)⟩
theorem ext_cf {f g : List Rat} (l : f.length = g.length) (h : ∀ n, n < f.length → cf f n = cf g n) : f = g := by
  refine List.ext_getElem l fun n h1 h2 => ?_
  have a := h n h1
  unfold cf at a
  rw [List.getD_eq_getElem?_getD, List.getD_eq_getElem?_getD, List.getElem?_eq_getElem h1, List.getElem?_eq_getElem h2] at a
  exact a
theorem Mo.eq {ms : List Rat} {p : Nat → List Rat} {i : Nat} (hp : ∀ j, j < i → Mo ms (p j) j) (nz : ∀ j, j < i → lf ms (p j) j ≠ 0) {r q : List Rat} (hr : Mo ms r i) (hq : Mo ms q i) : r = q := by
  refine ext_cf (by rw [hr.len, hq.len]) fun n hn => ?_
  rw [hr.len] at hn
  have := Mo.uniq hp nz hr (c := cf q) (fun l hl => by rw [hq.su l (show i < i + 1 by omega)]; exact hq.orth l hl) (n := n) (by omega)
  rw [hq.top, Rat.mul_one] at this
  exact this
theorem pw_mul (x y : Rat) : ∀ n, pw (x * y) n = pw x n * pw y n
  | 0 => by rw [pw, pw, pw, Rat.mul_one]
  | n + 1 => by rw [pw, pw, pw, pw_mul x y n]; grind
theorem pw_int (z : Int) : ∀ n, pw (z : Rat) n = ((z ^ n : Int) : Rat)
  | 0 => by rw [pw, Int.pow_zero]; rfl
  | n + 1 => by rw [pw, pw_int z n, Int.pow_succ, Rat.intCast_mul]
theorem spM_int {ws xs : List Rat} {wi yi : Nat → Int} {S b : Int} {m n N : Nat} (hw : ∀ t, t < m → cf ws t * (S : Rat) = (wi t : Rat)) (hx : ∀ t, t < m → cf xs t * (b : Rat) = (yi t : Rat)) (hn : n ≤ N) :
    spM ws xs m n * ((S * b ^ N : Int) : Rat) = ((sI (fun t => wi t * (yi t ^ n * b ^ (N - n))) m : Int) : Rat) := by
  rw [spM, ← Su_mul]
  refine su_sI fun t ht => ?_
  have e : b ^ N = b ^ n * b ^ (N - n) := by rw [← Int.pow_add]; congr 1; omega
  rw [e, Rat.intCast_mul, Rat.intCast_mul, Rat.intCast_mul, Rat.intCast_mul, ← pw_int (yi t), ← hw t ht, ← hx t ht, pw_mul, pw_int b]
  grind
theorem sM_bd {wi yi : Nat → Int} {b : Int} (h1 : ∀ t, (wi t).natAbs ≤ 6) (h2 : ∀ t, (yi t).natAbs ≤ 123) (h3 : b.natAbs ≤ 123) {n : Nat} (hn : n ≤ 15) (m : Nat) : (sI (fun t => wi t * (yi t ^ n * b ^ (15 - n))) m).natAbs ≤ m * (6 * 123 ^ 15) := by
  refine sI_bd (fun t => ?_) m
  rw [Int.natAbs_mul, Int.natAbs_mul, Int.natAbs_pow, Int.natAbs_pow]
  refine Nat.mul_le_mul (h1 t) ?_
  have e : 123 ^ 15 = 123 ^ n * 123 ^ (15 - n) := by rw [← Nat.pow_add]; congr 1; omega
  rw [e]
  exact Nat.mul_le_mul (Nat.pow_le_pow_left (h2 t) n) (Nat.pow_le_pow_left h3 _)
theorem sI_front (F : Nat → Int) : ∀ n, sI F (n + 1) = F 0 + sI (fun k => F (k + 1)) n
  | 0 => by rw [sI, sI, sI]; omega
  | n + 1 => by rw [sI, sI_front F n, sI]; omega
theorem sI_sum : ∀ ws : List Int, sI (fun t => ws.getD t 0) ws.length = ws.sum
  | [] => rfl
  | w :: ws => by
    rw [List.length_cons, sI_front, List.sum_cons, ← sI_sum ws]
    rfl
end Mt
namespace L2
open PySem PySem.Spec PyProof.Rows
def tCoZL (K : PySem.W.Frag) (js : List (Option Nat)) (te te2 : TE) (g : TG) (tl : TE) : TE := fun σ H Q => te σ H fun v H1 => te2 σ H1 fun v2 H2 => ∃ l, v = .ref l ∧ ∃ m, v2 = .ref m ∧ ∃ xs ys, SqL K H2 l xs ∧ SqL K H2 m ys ∧ xs.length = ys.length ∧ CZ xs ys (fun H => SqL K H l xs ∧ SqL K H m ys) js g tl σ H2 Q
section
variable {X : Cx} {es : List Expr} {y1 : Nat} {tp : Pos} {a b elt : Expr} {te te2 tl : TE} {g : TG} {p pos pos' : Pos} {scope : Scope} {js : List (Option Nat)}
theorem coZL (hm : X.mg "zip" = none) (ha : PE X a te) (hb : PE X b te2) (hp : ∀ (wi : TI), PI X (.Tuple es y1 tp) (.Call (.Name "zip" p) [a, b] [] pos') wi → PCo X (.ListComp elt [⟨.Tuple es y1 tp, .Call (.Name "zip" p) [a, b] [] pos', [], 0⟩] scope pos) scope (.Call (.Name "zip" p) [a, b] [] pos') (tComp js wi (tMoG g) (tMo tl)))
    (hg : Gl X "zip" := by rfl) (hs : starEach [a, b] X.env = [(false, eval a X.env), (false, eval b X.env)] := by rfl) (hs2 : starEach [b] X.env = [(false, eval b X.env)] := by rfl) :
    PCo X (.ListComp elt [⟨.Tuple es y1 tp, .Call (.Name "zip" p) [a, b] [] pos', [], 0⟩] scope pos) scope (.Call (.Name "zip" p) [a, b] [] pos') (tCoZL X.K js te te2 g tl) := by
  refine (hp _ (pi_zl hg hm (pa_cons ha.mo (pa_cons hb.mo pa_nil (by rw [hs2]; rfl)) (by rw [hs, hs2])) hs hs2)).of fun σ H Q h => ?_
  refine ⟨_, h, fun v H1 h2 => ⟨_, h2, fun v2 H2 ⟨l, e1, m, e2, xs, ys, hx, hy, hl, c⟩ => ⟨l, m, by rw [e1, e2], ⟨xs, hx⟩, ⟨ys, hy⟩, ?_⟩⟩⟩
  intro D hD
  obtain ⟨Pv, p0, ps, pt, pd⟩ := c D hD
  refine ⟨fun i n zs σc H => n = xs.length - i ∧ i ≤ xs.length ∧ Pv i zs σc H, ⟨xs.length, by simp, Nat.zero_le _, p0⟩, ?_⟩
  rintro i n zs σc H ⟨rfl, hi, z⟩
  obtain ⟨s1, s2⟩ := ps i zs σc H hi z
  by_cases hlt : i < xs.length
  · have hx1 : xs[i]? = some xs[i] := by simp [hlt]
    have hy1 : ys[i]? = some ys[i] := by simp [show i < ys.length by omega]
    refine .inr ⟨⟨xs, ys, _, _, s1, s2, hx1, hy1⟩, fun x H' yl => ?_⟩
    obtain ⟨t, rfl, ht, hu⟩ := yl
    rw [hu xs ys _ _ s1 s2 hx1 hy1]
    exact ⟨_, pt i zs σc H _ _ t hx1 hy1 z ht, fun σ2 H2 z2 => ⟨_, z2, fun y3 H3 ⟨a1, a2, a3⟩ => ⟨a1, a2, xs.length - (i + 1), by omega, rfl, hlt, a3⟩⟩⟩
  · have e : i = xs.length := by omega
    subst e
    obtain ⟨a1, a2⟩ := pd zs σc H z
    exact .inl ⟨a1, ⟨xs, ys, s1, s2, Nat.le_refl _⟩, a2⟩
end
section
variable {X : Cx}
def rInFT (K : PySem.W.Frag) (neg : Bool) : R2 := fun x y H Q => ∃ p l xs f q, x = .ref p ∧ y = .ref l ∧ SqT K H l xs ∧ Frs K H f xs ∧ Fq K H p q ∧ Q (.bl (if neg then !decide (q ∈ f) else decide (q ∈ f))) H
theorem op_notInFT (hu : X.A.units + 64 < cLine) : OpR X (compareOp .NotIn) (rInFT X.K true) := by
  intro pins s σ H x y v u Q I rx ry h
  obtain ⟨p, l, xs, f, q, rfl, rfl, hl, hf, hp, k⟩ := h
  cases rx
  cases ry
  obtain ⟨its, r, pl, hz⟩ := I.tuple hl
  refine SeqAt.notIn_tupleAt (isFr X.K H q) pl (fun w hw => frs_eqAt I _ (by show X.A.units + 1 + 2 < cLine; omega) hp hf r w (by simpa using hw)) ⟨.bl _, H, I, rfl, ?_⟩
  rw [show its.toArray.any (isFr X.K H q) = its.any (isFr X.K H q) by simp, any_frs I hf r]
  exact k
end
end L2
namespace K25
open PySem L2
theorem cx_K {CX : CXT} {P : Program} {w : World} {K : PySem.W.Frag} {mg : Str → Option Value} {base : Heap} {N : List Str} {qual : Str} {scope : Scope} {f : Addr} {cd : Value} {A : Around} {outer : List Env} {s : Shared} {H : Hp} {E : XK} : (cxOf CX P w K mg base N qual scope f cd A outer s H E).K = K := rfl
theorem cxU_K {CX : CXT} {P : Program} {w : World} {K : PySem.W.Frag} {mg : Str → Option Value} {base : Heap} {N : List Str} {qual : Str} {scope : Scope} {f : Addr} {cd : Value} {A : Around} {outer : List Env} {s : Shared} {H : Hp} {E : XK} : (cxU CX P w K mg base N qual scope f cd A outer s H E).K = K := rfl
local macro_rules | `(tactic| walk_at "rd") => `(tactic| simp [tSeq, tIfS, tTest, tB, tOp, rI, rI0, rEq, rNe, scal, tVar, tC, tCB, tCons, tNil, tNext, tRet, tRetN, L2.start, rIxL, rIxT, rFqI, tAsg, gName, tUn, rU, tNot, tNotV, tAnd, tOr, tAndV, tOrV, tIf, tTup, tLst, tCall, tCallS, tDrop, tForR, tForT, tForL, tForE, tForV, gTup, gCons, gNil, gSub, rSetL, tRaise, tTry, tH, Ends.gone, cσ, CPow, tCoR, tCoL, tCoT, tCoX, tForX, tExcInit, tFs, sXset, tXget, tRaiseI, tJoinRev, tChain, rAll, tHno, cx_K, cxU_K, rIn, tSl, tNoPart, tPart, rAppend, tBM, tForR2, tBM0, rClear, rReverse, tPar, tVs, tCoZ, tCoRH, tHE, tListRev, tForZ, tForVL, tForZL])
def top (i : Nat) : Stmt := PySem.Challenge.pw_heightfractions_k25_barred_by_few_spots.main.body.getD i (.Pass ⟨0, 0, 0, 0⟩)
structure Tx (w : World) (K : PySem.W.Frag) (mg : Str → Option Value) (C_NOUGHT : Addr) (C_NoFraction : Addr) (C_NoMoments : Addr) (C_ONE : Addr) (C_TooFar : Addr) : Prop where
  b_abs : mg "abs" = none
  b_all : mg "all" = none
  b_bool : mg "bool" = none
  b_enumerate : mg "enumerate" = none
  b_int : mg "int" = none
  b_isinstance : mg "isinstance" = none
  b_len : mg "len" = none
  b_list : mg "list" = none
  b_max : mg "max" = none
  b_range : mg "range" = none
  b_sum : mg "sum" = none
  b_tuple : mg "tuple" = none
  b_zip : mg "zip" = none
  m_NOUGHT : mg "NOUGHT" = some (.ref C_NOUGHT)
  m_NoFraction : mg "NoFraction" = some (.ref C_NoFraction)
  m_NoMoments : mg "NoMoments" = some (.ref C_NoMoments)
  m_ONE : mg "ONE" = some (.ref C_ONE)
  m_TooFar : mg "TooFar" = some (.ref C_TooFar)
  nought : ∀ H, Fq K H C_NOUGHT 0
  one : ∀ H, Fq K H C_ONE 1
  x_TooFar : ExcC K C_TooFar
  x_NoMoments : ExcC K C_NoMoments
  x_NoFraction : ExcC K C_NoFraction
  g_MOSTM : ∃ t, mg "MOST_MOMENTS" = some (.int 16 t)
theorem bd_ten60 {g : Int} : CDivB g 1000000000000000000000000000000000000000000000000000000000000 := ⟨by decide, Bd.mono (m := 200) (by show (_ : Nat) < _; decide) (by decide)⟩
def spCell (K : PySem.W.Frag) : Sp := fun vs H Q _ => ∃ (a : Addr) (ns : List Int) (k : Int), vs = [.ref a, .int k] ∧ SqL K H a (ns.map V.int) ∧ 0 ≤ k ∧ ∀ c : Int, Q (.int c) H
def spStir : Sp := fun vs H Q _ => ∃ (c k : Int), vs = [.int c, .int k] ∧ 0 ≤ k ∧ k ≤ 1000 ∧ ∀ d : Int, 0 ≤ d → d < 1000000000000000000000000000000000000000000000000000000000000 → Q (.int d) H
def spDrawn (K : PySem.W.Frag) : Sp := fun vs H Q _ => ∃ (a : Addr) (ns : List Int) (k : Int), vs = [.ref a, .int k] ∧ SqL K H a (ns.map V.int) ∧ 0 ≤ k ∧ k ≤ 1000 ∧ ∀ d : Int, 0 ≤ d → d < 1000000000000000000000000000000000000000000000000000000000000 → Q (.int d) H
def spGcd : Sp := fun vs H Q _ => ∃ (a b : Int), vs = [.int a, .int b] ∧ Q (.int (Int.gcd a b : Nat)) H
def spWhole : Sp := fun vs H Q _ => ∃ (a : Int), vs = [.int a] ∧ Q (.bl true) H
def spLow : Sp := fun vs H Q _ => ∃ (t b : Int), vs = [.int t, .int b] ∧ 0 < b ∧ Bd 9000 b ∧ ∀ p, H p = none → Q (.ref p) (upd H p (frO (Rat.divInt t b)))
def spBin (K : PySem.W.Frag) (f : Rat → Rat → Rat) : Sp := fun vs H Q _ => ∃ (p q : Addr) (a b : Rat), vs = [.ref p, .ref q] ∧ Fq K H p a ∧ Fq K H q b ∧ Sz 4000 a ∧ Sz 4000 b ∧ ∀ r H', Same H H' → H r = none → H' r = some (frO (f a b)) → Q (.ref r) H'
def spOver (K : PySem.W.Frag) (C : Addr) : Sp := fun vs H Q E => ∃ (p q : Addr) (a b : Rat), vs = [.ref p, .ref q] ∧ Fq K H p a ∧ Fq K H q b ∧ Sz 4000 a ∧ Sz 4000 b ∧ (b = 0 → E (.ref C) none H) ∧ (b ≠ 0 → ∀ r H', Same H H' → H r = none → H' r = some (frO (a / b)) → Q (.ref r) H')
def spIsFq (K : PySem.W.Frag) : Sp := fun vs H Q _ => ∃ (p : Addr) (q : Rat), vs = [.ref p] ∧ Fq K H p q ∧ Q (.bl true) H
def spPolyOf (K : PySem.W.Frag) : Sp := fun vs H Q _ => ∃ (a : Addr) (xs : List V) (f : List Rat), vs = [.ref a] ∧ (SqL K H a xs ∨ SqT K H a xs) ∧ Frs K H f xs ∧ f.length ≤ 900 ∧ ∀ p H', Same H H' → Pl K H' p (Mt.trim f) → Q (.ref p) H'
def spNumAt (K : PySem.W.Frag) : Sp := fun vs H Q _ => ∃ (p : Addr) (f : List Rat) (n : Nat), vs = [.ref p, .int n] ∧ Pl K H p f ∧ ∀ r, Fq K H r (Mt.cf f n) → Q (.ref r) H
def spPP (K : PySem.W.Frag) (op : List Rat → List Rat → List Rat) : Sp := fun vs H Q _ => ∃ (p q : Addr) (f g : List Rat), vs = [.ref p, .ref q] ∧ Pl K H p f ∧ Pl K H q g ∧ f.length ≤ 400 ∧ g.length ≤ 400 ∧ (∀ n, Sz 3990 (Mt.cf f n)) ∧ (∀ n, Sz 3990 (Mt.cf g n)) ∧ ∀ r H', Same H H' → Pl K H' r (op f g) → Q (.ref r) H'
def spScaled (K : PySem.W.Frag) : Sp := fun vs H Q _ => ∃ (p q : Addr) (f : List Rat) (a : Rat), vs = [.ref p, .ref q] ∧ Pl K H p f ∧ Fq K H q a ∧ f.length ≤ 400 ∧ (∀ n, Sz 4000 (Mt.cf f n)) ∧ Sz 4000 a ∧ ∀ r H', Same H H' → Pl K H' r (Mt.pscale f a) → Q (.ref r) H'
def spDeg (K : PySem.W.Frag) : Sp := fun vs H Q _ => ∃ (p : Addr) (f : List Rat), vs = [.ref p] ∧ Pl K H p f ∧ Q (.int ((f.length : Int) - 1)) H
def Wt (K : PySem.W.Frag) (H : Hp) (p : Addr) (L D : List Rat) : Prop := ∃ a b, SqT K H p [.ref a, .ref b] ∧ Pl K H a L ∧ Pl K H b D
theorem Wt.same {K : PySem.W.Frag} {H H' : Hp} {p : Addr} {L D : List Rat} (h : Wt K H p L D) (s : Same H H') : Wt K H' p L D := let ⟨a, b, h0, h1, h2⟩ := h; ⟨a, b, s.seqT h0, h1.same s, h2.same s⟩
structure Ws (L D : List Rat) : Prop where
  l : ∀ q ∈ L, Mt.Wg q
  d : ∀ q ∈ D, Mt.Wg q
  n : L.length = D.length + 1
  m : D.length ≤ 7
theorem lat_sz {D N m : Nat} {q : Rat} (h : Mt.Lat D N q) (hD : 0 < D) (h1 : D < 2 ^ m) (h2 : N < 2 ^ m) : Sz m q := by
  have e := h.dvd (by omega)
  have l := Nat.le_of_dvd hD e.1
  exact ⟨show (_ : Nat) < _ by omega, show (_ : Nat) < _ by show ((q.den : Int)).natAbs < _; omega⟩
theorem gd_le {n : Nat} (h : n ≤ 32) : Mt.B0 ^ n < 2 ^ 1290 ∧ 8 * (Mt.W0 ^ n * Mt.B0 ^ n) < 2 ^ 1290 := by
  have a : Mt.B0 ^ n ≤ Mt.B0 ^ 32 := Nat.pow_le_pow_right (by decide) h
  have b : Mt.W0 ^ n ≤ Mt.W0 ^ 32 := Nat.pow_le_pow_right (by decide) h
  have c : Mt.B0 ^ 32 < 2 ^ 1290 := by decide +kernel
  have d : 8 * (Mt.W0 ^ 32 * Mt.B0 ^ 32) < 2 ^ 1290 := by decide +kernel
  exact ⟨Nat.lt_of_le_of_lt a c, Nat.lt_of_le_of_lt (Nat.mul_le_mul_left _ (Nat.mul_le_mul b a)) d⟩
theorem gd_sz {n : Nat} {q : Rat} (h : Mt.Gd n q) (hn : n ≤ 32) : Sz 1300 q := (lat_sz (m := 1290) h (Nat.pow_pos (by decide)) (gd_le hn).1 (by have := (gd_le hn).2; omega)).mono (by decide)
theorem Ws.sm {L D : List Rat} (h : Ws L D) {n : Nat} (hn : n ≤ 32) (top i j : Nat) : Sz 1300 (Mt.sm (Mt.cf L) (Mt.cf D) top i n j) := gd_sz (Mt.gd_sm (Mt.wg_cf h.l) (Mt.wg_cf h.d) n j) hn
def spMulP (K : PySem.W.Frag) : Sp := fun vs H Q _ => ∃ (p q : Addr) (f g : List Rat) (b c : Nat), vs = [.ref p, .ref q] ∧ Pl K H p f ∧ Pl K H q g ∧ f.length ≤ 64 ∧ g.length ≤ 64 ∧ Mt.Ln b b f ∧ Mt.Ln c c g ∧ b + c + 20 ≤ 3990 ∧ ∀ r H', Same H H' → Pl K H' r (Mt.pmul f g) → Q (.ref r) H'
theorem len_pmul (f g : List Rat) : (Mt.pmul f g).length ≤ f.length + g.length := Nat.le_trans (Mt.trim_len _) (by rw [Mt.prodIn_len]; omega)
def spFurG (K : PySem.W.Frag) : Sp := fun vs H Q _ => ∃ (pl pn pd pb : Addr) (l d : Rat) (f g : List Rat), vs = [.ref pl, .ref pn, .ref pd, .ref pb] ∧ Fq K H pl l ∧ Pl K H pn f ∧ Fq K H pd d ∧ Pl K H pb g ∧ Sz 2100 l ∧ Sz 2100 d ∧ f.length ≤ 30 ∧ g.length ≤ 30 ∧ Mt.Ln 920 920 f ∧ Mt.Ln 920 920 g ∧ ∀ r H', Same H H' → Pl K H' r (Mt.nx2 l d f g) → Q (.ref r) H'
structure Mi (ms : List Rat) (d0 : Int) (M : Nat → Int) : Prop where
  d : d0 ≠ 0
  b : d0.natAbs ≤ 2 ^ 110
  e : ∀ n, Mt.cf ms n * (d0 : Rat) = (M n : Rat)
  m : ∀ n, (M n).natAbs ≤ 2 ^ 110
structure Rw (ms : List Rat) (p : Nat → List Rat) (i : Nat) : Prop where
  mo : ∀ j, j ≤ i → Mt.Mo ms (p j) j
  nz : ∀ j, j < i → Mt.lf ms (p j) j ≠ 0
theorem Mi.ln {ms : List Rat} {d0 : Int} {M : Nat → Int} (h : Mi ms d0 M) (l : Nat) : Mt.Ln 110 110 (ms.drop l) :=
  ⟨d0.natAbs, 2 ^ 110, by have := h.d; omega, h.b, Nat.le_refl _, fun k => by
    rw [Mt.cf_drop]
    rcases Int.natAbs_eq d0 with z | z
    · exact ⟨M (k + l), by rw [← z]; exact h.e _, h.m _⟩
    · refine ⟨-M (k + l), ?_, by rw [Int.natAbs_neg]; exact h.m _⟩
      have e := h.e (k + l)
      have z2 : ((d0.natAbs : Int) : Rat) = -(d0 : Rat) := by rw [← Rat.intCast_neg]; congr 1; omega
      rw [z2, Rat.intCast_neg, ← e]
      grind⟩
theorem div_low {x : Rat} {t b : Int} (hb : b ≠ 0) (e : x * (b : Rat) = (t : Rat)) : x = Rat.divInt t b := by
  have b0 : (b : Rat) ≠ 0 := fun z => hb (by exact_mod_cast z)
  rw [Rat.divInt_eq_div, ← e, Rat.div_def, Rat.mul_assoc, Rat.mul_inv_cancel _ b0, Rat.mul_one]
theorem small_le {i : Nat} (h : i ≤ 8) : (2 * (i + 1) * 2 ^ 110) ^ i ≤ 2 ^ 914 := by
  have a : (2 * (i + 1) * 2 ^ 110) ^ i ≤ (2 * (8 + 1) * 2 ^ 110) ^ i := Nat.pow_le_pow_left (Nat.mul_le_mul_right _ (by omega)) i
  have b : (2 * (8 + 1) * 2 ^ 110) ^ i ≤ (2 * (8 + 1) * 2 ^ 110) ^ 8 := Nat.pow_le_pow_right (by decide) h
  have c : (2 * (8 + 1) * 2 ^ 110) ^ 8 ≤ 2 ^ 914 := by decide +kernel
  exact Nat.le_trans a (Nat.le_trans b c)
theorem Rw.small {ms : List Rat} {d0 : Int} {M : Nat → Int} {p : Nat → List Rat} {i : Nat} (mi : Mi ms d0 M) (h : Rw ms p i) (hi : i ≤ 8) :
    Mt.Ln 920 920 (p i) ∧ (∀ l, Sz 1040 (Mt.lf ms (p i) l)) ∧ (Mt.lf ms (p i) i ≠ 0 → ∀ l, Sz 1040 (Mt.lf ms (p i) l / Mt.lf ms (p i) i)) := by
  obtain ⟨c, c0, cb, ce, cl⟩ := Mt.Mo.small (A := 2 ^ 110) (fun j hj => h.mo j (by omega)) h.nz (h.mo i (Nat.le_refl _)) mi.d (by decide) mi.e mi.m
  have sl := small_le hi
  have cb' : ∀ n, (c n).natAbs ≤ 2 ^ 914 := fun n => Nat.le_trans (cb n) sl
  have cd : c i * d0 ≠ 0 := Int.mul_ne_zero c0 mi.d
  have bd : (c i * d0).natAbs ≤ 2 ^ 914 * 2 ^ 110 := by rw [Int.natAbs_mul]; exact Nat.mul_le_mul (cb' i) mi.b
  have bn : ∀ l, (Mt.sI (fun n => M (n + l) * c n) (i + 1)).natAbs ≤ 9 * (2 ^ 110 * 2 ^ 914) := fun l => by
    refine Nat.le_trans (Mt.sI_bd (N := 2 ^ 110 * 2 ^ 914) (fun j => ?_) (i + 1)) (Nat.mul_le_mul_right _ (by omega))
    rw [Int.natAbs_mul]
    exact Nat.mul_le_mul (mi.m _) (cb' j)
  have n1 : 2 ^ 914 * 2 ^ 110 < 2 ^ 1040 := by decide +kernel
  have n2 : 9 * (2 ^ 110 * 2 ^ 914) < 2 ^ 1040 := by decide +kernel
  refine ⟨⟨(c i).natAbs, 2 ^ 914, Nat.pos_of_ne_zero (Int.natAbs_ne_zero.mpr c0), Nat.le_trans (cb' i) (by decide +kernel), by decide +kernel, fun n => ?_⟩, fun l => ?_, fun nz l => ?_⟩
  · rcases Nat.lt_or_ge i n with z | z
    · rw [Mt.cf_ge (by rw [(h.mo i (Nat.le_refl _)).len]; omega)]; exact Mt.Lat.zero
    have e := ce n z
    rcases Int.natAbs_eq (c i) with y | y
    · exact ⟨c n, by rw [← y]; exact e, cb' n⟩
    · refine ⟨-c n, ?_, by rw [Int.natAbs_neg]; exact cb' n⟩
      have z2 : (((c i).natAbs : Int) : Rat) = -(c i : Rat) := by rw [← Rat.intCast_neg]; congr 1; omega
      rw [z2, Rat.intCast_neg, ← e]
      grind
  · rw [div_low cd (cl l)]
    exact Sz.low cd (show (_ : Nat) < _ by exact Nat.lt_of_le_of_lt (bn l) n2) (show (_ : Nat) < _ by exact Nat.lt_of_le_of_lt bd n1)
  · have cdr : ((c i * d0 : Int) : Rat) ≠ 0 := fun z => cd (by exact_mod_cast z)
    have hn : Mt.sI (fun n => M (n + i) * c n) (i + 1) ≠ 0 := fun z => by
      have := cl i
      rw [z] at this
      exact (Rat.mul_eq_zero.mp this).elim nz cdr
    have e : Mt.lf ms (p i) l / Mt.lf ms (p i) i * ((Mt.sI (fun n => M (n + i) * c n) (i + 1) : Int) : Rat) = ((Mt.sI (fun n => M (n + l) * c n) (i + 1) : Int) : Rat) := by
      rw [← cl i, ← cl l, Rat.div_def]
      have : Mt.lf ms (p i) l * (Mt.lf ms (p i) i)⁻¹ * (Mt.lf ms (p i) i * ((c i * d0 : Int) : Rat)) = Mt.lf ms (p i) l * ((c i * d0 : Int) : Rat) * (Mt.lf ms (p i) i * (Mt.lf ms (p i) i)⁻¹) := by grind
      rw [this, Rat.mul_inv_cancel _ nz, Rat.mul_one]
    rw [div_low hn e]
    exact Sz.low hn (show (_ : Nat) < _ by exact Nat.lt_of_le_of_lt (bn l) n2) (show (_ : Nat) < _ by exact Nat.lt_of_le_of_lt (bn i) n2)
theorem Sz.quo {m n : Nat} {a b : Rat} (ha : Sz m a) (hb : Sz n b) : Sz (m + n) (a / b) := by
  by_cases z : b = 0
  · rw [z, Rat.div_def, Rat.inv_zero, Rat.mul_zero]
    have := (Mt.fr_rat a).pos
    have h := ha.b
    refine Sz.zero ?_
    rcases Nat.lt_or_ge 0 m with y | y
    · omega
    · obtain rfl : m = 0 := by omega
      have : ((a.den : Int)).natAbs < 2 ^ 0 := h
      omega
  · have e : a / b = Rat.divInt (a.num * b.den) (b.num * a.den) := by
      have bn : b.num * (a.den : Int) ≠ 0 := Int.mul_ne_zero (fun y => z (Rat.num_eq_zero.mp y)) (by have := a.den_pos; omega)
      refine div_low bn ?_
      have back : ∀ q : Rat, q * ((q.den : Int) : Rat) = ((q.num : Int) : Rat) := fun q => by
        have d0 : ((q.den : Int) : Rat) ≠ 0 := fun y => by
          have : (q.den : Int) = 0 := by exact_mod_cast y
          have := q.den_pos
          omega
        have e := Rat.num_divInt_den q
        rw [Rat.divInt_eq_div] at e
        generalize ((q.den : Int) : Rat) = d at *
        generalize ((q.num : Int) : Rat) = n at *
        grind
      have ea' := back a
      have eb' := back b
      rw [Rat.intCast_mul, Rat.intCast_mul, ← ea', ← eb', Rat.div_def]
      have : a * b⁻¹ * (b * ((b.den : Int) : Rat) * ((a.den : Int) : Rat)) = a * ((a.den : Int) : Rat) * ((b.den : Int) : Rat) * (b * b⁻¹) := by grind
      rw [this, Rat.mul_inv_cancel _ z, Rat.mul_one]
    rw [e]
    have bn : b.num * (a.den : Int) ≠ 0 := Int.mul_ne_zero (fun y => z (Rat.num_eq_zero.mp y)) (by have := a.den_pos; omega)
    exact Sz.low bn (ha.t.mul hb.b) (by rw [Nat.add_comm]; exact hb.t.mul ha.b)
theorem wd0 {l : Rat} (h : Sz 2100 l) : l.den < 2 ^ 2100 := by
  have : ((l.den : Int)).natAbs < 2 ^ 2100 := h.b
  rwa [Int.natAbs_natCast] at this
theorem rat_back (q : Rat) : q * ((q.den : Int) : Rat) = ((q.num : Int) : Rat) := by
  have d0 : ((q.den : Int) : Rat) ≠ 0 := fun y => by
    have : (q.den : Int) = 0 := by exact_mod_cast y
    have := q.den_pos
    omega
  have e := Rat.num_divInt_den q
  rw [Rat.divInt_eq_div] at e
  generalize ((q.den : Int) : Rat) = d at *
  generalize ((q.num : Int) : Rat) = n at *
  grind
theorem x1_lat {l : Rat} (h : Sz 2100 l) (k : Nat) : Mt.Lat l.den (2 ^ 2100) (Mt.cf (Mt.x1 l) k) := by
  rw [Mt.x1_is]
  rcases k with _ | _ | k
  · refine ⟨-l.num, ?_, by rw [Int.natAbs_neg]; exact Nat.le_of_lt h.t⟩
    rw [Mt.cf_zero, Rat.intCast_neg, ← rat_back]; grind
  · refine ⟨l.den, ?_, by rw [Int.natAbs_natCast]; exact Nat.le_of_lt (wd0 h)⟩
    rw [Mt.cf_succ, Mt.cf_zero, Rat.one_mul]
  · rw [Mt.cf_succ, Mt.cf_succ, Mt.cf_nil]; exact Mt.Lat.zero
def spBackG (K : PySem.W.Frag) : Sp := fun vs H Q _ => ∃ (m : Addr) (xs : List V) (ms : List Rat) (k : Nat) (d0 : Int) (M : Nat → Int), vs = [.ref m] ∧ SqL K H m xs ∧ Frs K H ms xs ∧ ms.length = 2 * k + 2 ∧ k ≤ 7 ∧ Mt.cf ms 0 = 1 ∧ Mi ms d0 M ∧
  (∀ p L D, Rw ms p (k + 1) → L.length = k + 1 → D.length = k → (∀ h, h < k → Mt.cf D h ≠ 0) → ∀ r a b H', Same H H' → H' r = some (.tup [.str "weights", .ref a, .ref b]) → Pl K H' a L → Pl K H' b D → Q (.ref r) H') ∧
  (∀ p i, i ≤ k → Rw ms p i → Mt.lf ms (p i) i = 0 → ∀ r a H', Same H H' → H' r = some (.tup [.str "barred", .int ((i : Int) + 1), .ref a]) → Pl K H' a (p i) → Q (.ref r) H')
theorem cf_app_l {f g : List Rat} {h : Nat} (hh : h < f.length) : Mt.cf (f ++ g) h = Mt.cf f h := by
  unfold Mt.cf
  rw [List.getD_eq_getElem?_getD, List.getD_eq_getElem?_getD, List.getElem?_append_left hh]
theorem cf_app_e (f : List Rat) (q : Rat) : Mt.cf (f ++ [q]) f.length = q := by
  unfold Mt.cf
  rw [List.getD_eq_getElem?_getD, List.getElem?_append_right (Nat.le_refl _), Nat.sub_self]
  rfl
theorem set_map {F G : Nat → Rat} {n c : Nat} (hc : c < n) (h : ∀ j, j ≠ c → F j = G j) : ((List.range n).map F).set c (G c) = (List.range n).map G := by
  refine List.ext_getElem (by simp) fun j h1 h2 => ?_
  simp only [List.getElem_set, List.getElem_map, List.getElem_range]
  split
  · rename_i e; rw [e]
  · rename_i e; exact h j (fun z => e z.symm)
theorem ints_of {P : Int → Prop} : ∀ {xs : List V}, (∀ (j : Nat) (x : V), xs[j]? = some x → ∃ w, x = .int w ∧ P w) → ∃ ws : List Int, xs = ws.map V.int ∧ ∀ w ∈ ws, P w
  | [], _ => ⟨[], rfl, fun w h => nomatch h⟩
  | x :: xs, h => by
    obtain ⟨w, rfl, hw⟩ := h 0 x rfl
    obtain ⟨ws, rfl, hs⟩ := ints_of (xs := xs) fun j y hy => h (j + 1) y (by simpa using hy)
    exact ⟨w :: ws, rfl, fun v hv => by
      rcases List.mem_cons.mp hv with z | z
      · rw [z]; exact hw
      · exact hs v z⟩
def dl (f : List Rat) (x : Rat) (N c : Nat) : List Rat := (List.range (N + 1)).map fun n => Mt.sh f 1 n - (if n < c then x * Mt.cf f n else 0)
theorem dl_len (f : List Rat) (x : Rat) (N c : Nat) : (dl f x N c).length = N + 1 := by simp [dl]
theorem dl_at {f : List Rat} {x : Rat} {N c n : Nat} (h : n < N + 1) : Mt.cf (dl f x N c) n = Mt.sh f 1 n - (if n < c then x * Mt.cf f n else 0) := by rw [dl, Mt.cf_map_range, if_pos h]
theorem dl_start (f : List Rat) (x : Rat) : dl f x f.length 0 = 0 :: f := by
  refine Mt.ext_cf (by rw [dl_len, List.length_cons]) fun n h => ?_
  rw [dl_len] at h
  rw [dl_at h, if_neg (by omega)]
  rcases n with _ | n
  · rw [Mt.sh, if_neg (by omega), Mt.cf_zero]; grind
  · rw [Mt.sh, if_pos (by omega), Mt.cf_succ, Nat.add_sub_cancel]; grind
theorem dl_set {f : List Rat} {x : Rat} {N c : Nat} (hc : c < N + 1) : (dl f x N c).set c (Mt.cf (dl f x N c) c - x * Mt.cf f c) = dl f x N (c + 1) := by
  have e : Mt.cf (dl f x N c) c - x * Mt.cf f c = Mt.sh f 1 c - (if c < c + 1 then x * Mt.cf f c else 0) := by
    rw [dl_at hc, if_neg (show ¬ c < c by omega), if_pos (show c < c + 1 by omega)]; grind
  rw [e, dl, dl]
  refine set_map (G := fun n => Mt.sh f 1 n - (if n < c + 1 then x * Mt.cf f n else 0)) hc fun j hj => ?_
  by_cases y : j < c
  · rw [if_pos y, if_pos (show j < c + 1 by omega)]
  · rw [if_neg y, if_neg (show ¬ j < c + 1 by omega)]
theorem dl_end (xs : List Rat) (j : Nat) : dl (Mt.du xs j) (Mt.cf xs j) (j + 1) (j + 1) = Mt.du xs (j + 1) := by
  refine Mt.ext_cf (by rw [dl_len, Mt.du_len]) fun n h => ?_
  rw [dl_len] at h
  rw [dl_at h, Mt.du_cf]
  split
  · rfl
  · rw [Mt.cf_ge (l := Mt.du xs j) (by rw [Mt.du_len]; omega), Rat.mul_zero]
theorem sh_sz {f : List Rat} {N : Nat} (h : ∀ n, Sz N (Mt.cf f n)) (hN : 1 ≤ N) (n : Nat) : Sz N (Mt.sh f 1 n) := by
  rw [Mt.sh]
  split
  · exact h _
  · exact Sz.zero hN
theorem du_sz {xs : List Rat} {m : Nat} (h : ∀ t, t < m → Sz 7 (Mt.cf xs t)) : ∀ j, j ≤ m → ∀ n, Sz (9 * 2 ^ j - 8) (Mt.cf (Mt.du xs j) n)
  | 0, _, n => by
    rcases n with _ | n
    · have e : Mt.cf (Mt.du xs 0) 0 = 1 := rfl
      rw [e]
      exact ⟨by show (_ : Nat) < _; decide, by show (_ : Nat) < _; decide⟩
    · exact Sz.zero (by decide)
  | j + 1, hj, n => by
    have ih := du_sz h j (by omega)
    have p : 1 ≤ 2 ^ j := Nat.one_le_two_pow
    rw [Mt.du_cf]
    exact ((sh_sz ih (by omega) n).sub ((h j (by omega)).mul (ih n))).mono (by rw [Nat.pow_succ]; omega)
theorem sum_le : ∀ {ws : List Int}, (∀ w ∈ ws, 1 ≤ w ∧ w ≤ 6) → (ws.length : Int) ≤ ws.sum ∧ ws.sum ≤ 6 * ws.length
  | [], _ => by simp
  | w :: ws, h => by
    have a := sum_le fun v hv => h v (List.mem_cons_of_mem _ hv)
    have b := h w List.mem_cons_self
    rw [List.sum_cons, List.length_cons]
    omega
def spBarsG (K : PySem.W.Frag) : Sp := fun vs H Q _ => ∃ (r p m : Addr) (f ms : List Rat) (n : Nat) (xs : List V), vs = [.ref r, .ref m] ∧ H r = some (.tup [.str "barred", .int n, .ref p]) ∧ Pl K H p f ∧ SqL K H m xs ∧ Frs K H ms xs ∧ f.length = n ∧ 1 ≤ n ∧ 2 * n ≤ ms.length ∧ ms.length ≤ 16 ∧ Mt.cf f (n - 1) = 1 ∧ (∀ l, l < n → Mt.lf ms f l = 0) ∧ Mt.Ln 920 920 f ∧ (∀ l, Mt.Ln 110 110 (ms.drop l)) ∧ ∀ H', Same H H' → Q (.bl true) H'
def spSpots (K : PySem.W.Frag) : Sp := fun vs H Q _ => ∃ (a : Addr) (ns : List Int) (m b : Nat), vs = [.ref a, .int m, .int b] ∧ SqL K H a (ns.map V.int) ∧ m ≤ 7 ∧ 1 ≤ b ∧ b ≤ 5 ∧
  ∀ S H' xs (ys : List Int), Same H H' → H S = none → H' S = some (.lst xs) → Frs K H' (ys.map fun y => Rat.divInt y b) xs → ys.length = m → (∀ y ∈ ys, y.natAbs ≤ 123) → (ys.map fun y => Rat.divInt y b).Nodup → Q (.ref S) H'
theorem catP {K : PySem.W.Frag} {H : Hp} {x y : Addr} {f g : List Rat} {Q : VK} (hx : Pl K H x f) (hy : Pl K H y g) (lf : f.length ≤ 500) (lg : g.length ≤ 500) (q : ∀ z H', Same H H' → Pl K H' z (f ++ g) → Q (.ref z) H') : rCatA K (.ref x) (.ref y) H Q := by
  obtain ⟨us, hu, fu⟩ := id hx
  obtain ⟨vs, hv, fv⟩ := id hy
  have l1 := fu.len
  have l2 := fv.len
  refine ⟨x, y, us, vs, rfl, rfl, hu, hv, sz_le _ (by omega), fun z => ?_, fun _ z => ?_, fun _ _ p np => ?_⟩
  · obtain rfl : f = [] := List.eq_nil_of_length_eq_zero (by rw [l1, z]; rfl)
    exact q y H (Same.refl _) hy
  · obtain rfl : g = [] := List.eq_nil_of_length_eq_zero (by rw [l2, z]; rfl)
    exact q x H (Same.refl _) (by rw [List.append_nil]; exact hx)
  · have u := same_upd (o := .tup (us ++ vs)) np
    exact q p _ u ⟨_, SqT.of upd_same, Frs.append (fu.same u) (fv.same u)⟩
def spRuledG (K : PySem.W.Frag) (C : Addr) : Sp := fun vs H Q E => ∃ (m p : Addr) (xs : List V) (ms f : List Rat), vs = [.ref m, .ref p] ∧ SqL K H m xs ∧ Frs K H ms xs ∧ Pl K H p f ∧ f.length ≤ 40 ∧ (∀ n, Sz 1300 (Mt.cf ms n)) ∧ (∀ n, Sz 1300 (Mt.cf f n)) ∧ (∀ i, i ≤ f.length → Sz 3900 (Mt.Su (fun n => Mt.cf f n * Mt.cf ms n) i)) ∧ (ms.length < f.length → E (.ref C) none H) ∧ (f.length ≤ ms.length → ∀ r H', Same H H' → Fq K H' r (Mt.dot ms f) → Q (.ref r) H')
def spChkM (K : PySem.W.Frag) (C : Addr) : Sp := fun vs H Q E => ∃ (m : Addr) (xs : List V) (ms : List Rat), vs = [.ref m] ∧ SqL K H m xs ∧ Frs K H ms xs ∧ ms.length % 2 = 0 ∧ 2 ≤ ms.length ∧ ms.length ≤ 16 ∧ Mt.cf ms 0 = 1 ∧ ∀ H', Same H H' → Q .non H'
def spTldW (K : PySem.W.Frag) : Sp := fun vs H Q _ => ∃ (r a b : Addr) (L D : List Rat), vs = [.ref r] ∧ H r = some (.tup [.str "weights", .ref a, .ref b]) ∧ Pl K H a L ∧ Pl K H b D ∧ L.length ≤ 100 ∧ D.length ≤ 100 ∧ ∀ H', Same H H' → Q (.bl true) H'
def spAreF (K : PySem.W.Frag) : Sp := fun vs H Q _ => ∃ (p : Addr) (f : List Rat), vs = [.ref p, .int f.length] ∧ Pl K H p f ∧ f.length ≤ 100 ∧ ∀ H', Same H H' → Q (.bl true) H'
def spLaw (K : PySem.W.Frag) : Sp := fun vs H Q _ => ∃ (a : Addr) (ns : List Int), vs = [.ref a] ∧ SqL K H a (ns.map V.int) ∧ ns.length ≤ 63 ∧ ∀ H', Q (.bl true) H'
section
variable {P : Program} {w : World} {K : PySem.W.Frag} {mg : Str → Option Value} {base : Heap} {C_NOUGHT : Addr} {C_NoFraction : Addr} {C_NoMoments : Addr} {C_ONE : Addr} {C_TooFar : Addr}
abbrev s_shared_part : Stmt := top 8
theorem sc_shared_part : FnScope ["a", "b", "larger", "lesser", "rest"] ["a", "b"] (defScope s_shared_part) := ⟨rfl, rfl, rfl, by decide +kernel, rfl, by decide +kernel, by decide +kernel⟩
theorem ok_shared_part {f : Addr} {fd : FuncData} (F : Fun K "shared_part" "shared_part" s_shared_part f fd) (m : mg "shared_part" = some (.ref f)) (T : Tx w K mg C_NOUGHT C_NoFraction C_NoMoments C_ONE C_TooFar) : Callee P w K mg base 1 "shared_part" ["a", "b"] (spGcd) := by
  refine ⟨f, fd, ?_, m, F.kp, F.binds fun _ _ _ _ _ _ us hl => match us, hl with | [_, _], _ => rfl⟩
  refine F.okE sc_shared_part (fun vs H Q E h => ?_) (fun cdv A outer s H vs Q E hr h => ?_)
  · obtain ⟨_, _, rfl, _⟩ := h
    rfl
  · obtain ⟨a, b, rfl, hq⟩ := h
    refine ⟨_, (pss_cons (ps_set (i := 2) sc_shared_part.nd rfl (Or.inl rfl) (pe_callB call_abs (by rfl) T.b_abs (by decide +kernel) (pa_cons (pv 0) pa_nil))) (pss_cons (ps_set (i := 3) sc_shared_part.nd rfl (Or.inl rfl) (pe_callB call_abs (by rfl) T.b_abs (by decide +kernel) (pa_cons (pv 1) pa_nil))) (pss_cons (ps_wh PassesOwn.never (pt_cmpR op_ne (pv 3) pe_int (nomark _)) (pss_cons (ps_set (i := 4) sc_shared_part.nd rfl (Or.inl rfl) (pe_op op_mod (pv 2) (pv 3))) (pss_cons (ps_set (i := 2) sc_shared_part.nd rfl (Or.inl rfl) (pv 3)) (pss_one (ps_set (i := 3) sc_shared_part.nd rfl (Or.inl rfl) (pv 4)))))) (pss_one (ps_ret (pv 2)))))), ?_⟩
    walk_at "rd"
    refine ⟨fun σ H' => ∃ (x y : Int) (r : Option V), σ = [some (.int a), some (.int b), some (.int x), some (.int y), r] ∧ H' = H ∧ 0 ≤ x ∧ 0 ≤ y ∧ Int.gcd x y = Int.gcd a b, fun σ _ => match σ with | [_, _, _, some (.int y), _] => y.toNat | _ => 0, ⟨_, _, none, rfl, rfl, ?_, ?_, gcd_abs a b⟩, ?_⟩
    · split <;> omega
    · split <;> omega
    rintro σ H' ⟨x, y, r, rfl, rfl, hx, hy, hg⟩
    by_cases hy0 : y = 0
    · subst hy0
      walk_at "rd"
      rw [← hg, gcd_end hx] at hq
      exact hq
    · have h1 := Int.emod_nonneg x hy0
      have h2 := Int.emod_lt_of_pos x (show 0 < y by omega)
      have h3 := gcd_step hx (show 0 < y by omega)
      walk_at "rd"
      exact .inr ⟨hy0, by omega, ⟨y, x % y, ⟨rfl, rfl⟩, hy, h1, h3.trans hg⟩, by omega⟩
abbrev s_plus : Stmt := top 9
theorem sc_plus : FnScope ["a", "b", "part", "top", "rest"] ["a", "b"] (defScope s_plus) := ⟨rfl, rfl, rfl, by decide +kernel, rfl, by decide +kernel, by decide +kernel⟩
theorem ok_plus {f : Addr} {fd : FuncData} (F : Fun K "plus" "plus" s_plus f fd) (m : mg "plus" = some (.ref f)) (T : Tx w K mg C_NOUGHT C_NoFraction C_NoMoments C_ONE C_TooFar) (c_shared_part : Callee P w K mg base 1 "shared_part" ["a", "b"] (spGcd)) : Callee P w K mg base 2 "plus" ["a", "b"] (spBin K (fun a b => a + b)) := by
  refine ⟨f, fd, ?_, m, F.kp, F.binds fun _ _ _ _ _ _ us hl => match us, hl with | [_, _], _ => rfl⟩
  refine F.okE sc_plus (fun vs H Q E h => ?_) (fun cdv A outer s H vs Q E hr h => ?_)
  · obtain ⟨_, _, _, _, rfl, _⟩ := h
    rfl
  · obtain ⟨pa, pb, a, b, rfl, ha, hb, sa, sb, hq⟩ := h
    refine ⟨_, (pss_cons (ps_set (i := 2) sc_plus.nd rfl (Or.inl rfl) (pe_c c_shared_part (hr.mono (by decide)) np (pa_cons (pe_ix ix_fq (pv 0) pe_int (fun _ _ => rfl)) (pa_cons (pe_ix ix_fq (pv 1) pe_int (fun _ _ => rfl)) pa_nil)))) (pss_cons (ps_set (i := 3) sc_plus.nd rfl (Or.inl rfl) (pe_op op_add (pe_op op_mulB (pe_ix ix_fq (pv 0) pe_int (fun _ _ => rfl)) (pe_op op_fdivB (pe_ix ix_fq (pv 1) pe_int (fun _ _ => rfl)) (pv 2))) (pe_op op_mulB (pe_ix ix_fq (pv 1) pe_int (fun _ _ => rfl)) (pe_op op_fdivB (pe_ix ix_fq (pv 0) pe_int (fun _ _ => rfl)) (pv 2))))) (pss_cons (ps_set (i := 4) sc_plus.nd rfl (Or.inl rfl) (pe_c c_shared_part (hr.mono (by decide)) np (pa_cons (pv 3) (pa_cons (pv 2) pa_nil)))) (pss_one (ps_ret (pe_tup (pa_cons (pe_op op_fdivB (pv 3) (pv 4)) (pa_cons (pe_op op_mulB (pe_op op_fdivB (pe_ix ix_fq (pv 0) pe_int (fun _ _ => rfl)) (pv 2)) (pe_op op_fdivB (pe_ix ix_fq (pv 1) pe_int (fun _ _ => rfl)) (pv 4))) pa_nil)))))))), ?_⟩
    have h := Mt.plus_rat a b
    dsimp only at h hq
    refine tSeq_step fun N hN => ?_
    walk_at "rd"
    refine ⟨a, ha, b, hb, _, _, rfl, hN _ _ ?_⟩
    clear hN N
    generalize ((Int.gcd (a.den : Int) (b.den : Int) : Nat) : Int) = g at h ⊢
    refine tSeq_step fun N hN => ?_
    walk_at "rd"
    have p0 := h.2.1
    have pb := h.2.2.2.2.1
    have bg : Bd 4000 g := sb.b.le (by omega)
    have l1 := h.2.2.2.2.2.2.1
    have l2 := h.2.2.2.2.2.2.2.1
    refine ⟨a, ha, b, hb, bg.dv (by omega), sa.t.mu (sb.b.le l1), b, hb, a, ha, bg.dv (by omega), sb.t.mu (sa.b.le l2), hN _ _ ?_⟩
    clear hN N
    generalize a.num * (b.den : Int).fdiv g + b.num * (a.den : Int).fdiv g = t at h ⊢
    refine tSeq_step fun N hN => ?_
    walk_at "rd"
    refine ⟨_, _, rfl, hN _ _ ?_⟩
    clear hN N
    generalize ((Int.gcd t g : Nat) : Int) = r at h ⊢
    walk_at "rd"
    obtain ⟨⟨e1, e2⟩, _, r0, _, _, rp, _, _, l3⟩ := h
    have br : Bd 4000 r := bg.le (by omega)
    refine ⟨br.dv (by omega), a, ha, bg.dv (by omega), b, hb, br.dv (by omega), (sa.b.le l2).mu (sb.b.le l3), sz_le 2 (by decide), fun p hp => ?_⟩
    rw [e1, e2]
    exact hq p _ (same_upd hp) hp upd_same
abbrev s_minus : Stmt := top 10
theorem sc_minus : FnScope ["a", "b"] ["a", "b"] (defScope s_minus) := ⟨rfl, rfl, rfl, by decide +kernel, rfl, by decide +kernel, by decide +kernel⟩
theorem ok_minus {f : Addr} {fd : FuncData} (F : Fun K "minus" "minus" s_minus f fd) (m : mg "minus" = some (.ref f)) (T : Tx w K mg C_NOUGHT C_NoFraction C_NoMoments C_ONE C_TooFar) (c_plus : Callee P w K mg base 2 "plus" ["a", "b"] (spBin K (fun a b => a + b))) : Callee P w K mg base 3 "minus" ["a", "b"] (spBin K (fun a b => a - b)) := by
  refine ⟨f, fd, ?_, m, F.kp, F.binds fun _ _ _ _ _ _ us hl => match us, hl with | [_, _], _ => rfl⟩
  refine F.okE sc_minus (fun vs H Q E h => ?_) (fun cdv A outer s H vs Q E hr h => ?_)
  · obtain ⟨_, _, _, _, rfl, _⟩ := h
    rfl
  · obtain ⟨pa, pb, a, b, rfl, ha, hb, sa, sb, hq⟩ := h
    refine ⟨_, (pss_one (ps_ret (pe_c c_plus (hr.mono (by decide)) np (pa_cons (pv 0) (pa_cons (pe_tup (pa_cons (pe_un un_neg (pe_ix ix_fq (pv 1) pe_int (fun _ _ => rfl))) (pa_cons (pe_ix ix_fq (pv 1) pe_int (fun _ _ => rfl)) pa_nil))) pa_nil))))), ?_⟩
    dsimp only at hq
    walk_at "rd"
    refine ⟨b, hb, b, hb, sz_le 2 (by decide), fun p hp => ⟨pa, p, a, -b, rfl, ha.same (same_upd hp), Fq.of (by rw [frO, Rat.neg_num, Rat.neg_den]; exact upd_same), sa, sb.neg, fun r H' sm hr h => hq r H' ((same_upd hp).trans sm) ((same_upd hp).free hr) (by rw [Rat.sub_eq_add_neg]; exact h)⟩⟩
abbrev s_times : Stmt := top 11
theorem sc_times : FnScope ["a", "b", "first", "second"] ["a", "b"] (defScope s_times) := ⟨rfl, rfl, rfl, by decide +kernel, rfl, by decide +kernel, by decide +kernel⟩
theorem ok_times {f : Addr} {fd : FuncData} (F : Fun K "times" "times" s_times f fd) (m : mg "times" = some (.ref f)) (T : Tx w K mg C_NOUGHT C_NoFraction C_NoMoments C_ONE C_TooFar) (c_shared_part : Callee P w K mg base 1 "shared_part" ["a", "b"] (spGcd)) : Callee P w K mg base 2 "times" ["a", "b"] (spBin K (fun a b => a * b)) := by
  refine ⟨f, fd, ?_, m, F.kp, F.binds fun _ _ _ _ _ _ us hl => match us, hl with | [_, _], _ => rfl⟩
  refine F.okE sc_times (fun vs H Q E h => ?_) (fun cdv A outer s H vs Q E hr h => ?_)
  · obtain ⟨_, _, _, _, rfl, _⟩ := h
    rfl
  · obtain ⟨pa, pb, a, b, rfl, ha, hb, sa, sb, hq⟩ := h
    refine ⟨_, (pss_cons (ps_set (i := 2) sc_times.nd rfl (Or.inl rfl) (pe_c c_shared_part (hr.mono (by decide)) np (pa_cons (pe_ix ix_fq (pv 0) pe_int (fun _ _ => rfl)) (pa_cons (pe_ix ix_fq (pv 1) pe_int (fun _ _ => rfl)) pa_nil)))) (pss_cons (ps_set (i := 3) sc_times.nd rfl (Or.inl rfl) (pe_c c_shared_part (hr.mono (by decide)) np (pa_cons (pe_ix ix_fq (pv 1) pe_int (fun _ _ => rfl)) (pa_cons (pe_ix ix_fq (pv 0) pe_int (fun _ _ => rfl)) pa_nil)))) (pss_one (ps_ret (pe_tup (pa_cons (pe_op op_mulB (pe_op op_fdivB (pe_ix ix_fq (pv 0) pe_int (fun _ _ => rfl)) (pv 2)) (pe_op op_fdivB (pe_ix ix_fq (pv 1) pe_int (fun _ _ => rfl)) (pv 3))) (pa_cons (pe_op op_mulB (pe_op op_fdivB (pe_ix ix_fq (pv 0) pe_int (fun _ _ => rfl)) (pv 3)) (pe_op op_fdivB (pe_ix ix_fq (pv 1) pe_int (fun _ _ => rfl)) (pv 2))) pa_nil))))))), ?_⟩
    have h := Mt.times_rat a b
    dsimp only at h hq
    refine tSeq_step fun N hN => ?_
    walk_at "rd"
    refine ⟨a, ha, b, hb, _, _, rfl, hN _ _ ?_⟩
    clear hN N
    generalize ((Int.gcd a.num (b.den : Int) : Nat) : Int) = f at h ⊢
    refine tSeq_step fun N hN => ?_
    walk_at "rd"
    refine ⟨b, hb, a, ha, _, _, rfl, hN _ _ ?_⟩
    clear hN N
    generalize ((Int.gcd b.num (a.den : Int) : Nat) : Int) = s at h ⊢
    walk_at "rd"
    obtain ⟨⟨e1, e2⟩, f0, s0, fb, sc, l1, l2, l3, l4⟩ := h
    have bf : Bd 4000 f := sb.b.le (by omega)
    have bs : Bd 4000 s := sa.b.le (by omega)
    refine ⟨a, ha, bf.dv (by omega), b, hb, bs.dv (by omega), (sa.t.le l1).mu (sb.t.le l2), a, ha, bs.dv (by omega), b, hb, bf.dv (by omega), (sa.b.le l3).mu (sb.b.le l4), sz_le 2 (by decide), fun p hp => ?_⟩
    rw [e1, e2]
    exact hq p _ (same_upd hp) hp upd_same
abbrev s_over : Stmt := top 12
theorem sc_over : FnScope ["a", "b"] ["a", "b"] (defScope s_over) := ⟨rfl, rfl, rfl, by decide +kernel, rfl, by decide +kernel, by decide +kernel⟩
theorem ok_over {f : Addr} {fd : FuncData} (F : Fun K "over" "over" s_over f fd) (m : mg "over" = some (.ref f)) (T : Tx w K mg C_NOUGHT C_NoFraction C_NoMoments C_ONE C_TooFar) (c_times : Callee P w K mg base 2 "times" ["a", "b"] (spBin K (fun a b => a * b))) : Callee P w K mg base 3 "over" ["a", "b"] (spOver K C_NoFraction) := by
  refine ⟨f, fd, ?_, m, F.kp, F.binds fun _ _ _ _ _ _ us hl => match us, hl with | [_, _], _ => rfl⟩
  refine F.okX sc_over (fun vs H Q E h => ?_) (fun cdv A outer s H vs Q E hr h => ?_)
  · obtain ⟨_, _, _, _, rfl, _⟩ := h
    rfl
  · obtain ⟨pa, pb, a, b, rfl, ha, hb, sa, sb, h0, h1⟩ := h
    refine ⟨_, (pss_cons (ps_if (pt_cmpR op_eq (pe_ix ix_fq (pv 1) pe_int (fun _ _ => rfl)) pe_int (nomark _)) (pss_one (ps_raise raises_cx rfl rfl T.m_NoFraction T.x_NoFraction (pa_cons pe_str pa_nil))) pss_nil) (pss_cons (ps_if (pt_cmpR op_lt (pe_ix ix_fq (pv 1) pe_int (fun _ _ => rfl)) pe_int (nomark _)) (pss_one (ps_ret (pe_c c_times (hr.mono (by decide)) pass_cx (pa_cons (pv 0) (pa_cons (pe_tup (pa_cons (pe_un un_neg (pe_ix ix_fq (pv 1) pe_int (fun _ _ => rfl))) (pa_cons (pe_un un_neg (pe_ix ix_fq (pv 1) pe_int (fun _ _ => rfl))) pa_nil))) pa_nil))))) pss_nil) (pss_one (ps_ret (pe_c c_times (hr.mono (by decide)) pass_cx (pa_cons (pv 0) (pa_cons (pe_tup (pa_cons (pe_ix ix_fq (pv 1) pe_int (fun _ _ => rfl)) (pa_cons (pe_ix ix_fq (pv 1) pe_int (fun _ _ => rfl)) pa_nil))) pa_nil))))))), ?_⟩
    walk_at "rd"
    refine ⟨b, hb, ?_⟩
    split
    · rename_i z
      exact ⟨sz_le 1 (by decide), h0 z⟩
    rename_i z
    have nz := Mt.num_ne z
    refine ⟨b, hb, ?_⟩
    split
    · rename_i y
      have e := Mt.inv_neg y
      refine ⟨b, hb, b, hb, sz_le 2 (by decide), fun p hp => ⟨pa, p, a, b⁻¹, rfl, ha.same (same_upd hp), Fq.of ?_, sa, ⟨?_, ?_⟩, fun r H' sm hr h => h1 z r H' ((same_upd hp).trans sm) ((same_upd hp).free hr) (by rw [Rat.div_def]; exact h)⟩⟩
      · rw [frO, ← e.1, ← e.2]; exact upd_same
      · rw [← e.1]; exact sb.b.neg
      · rw [← e.2]; exact sb.t.neg
    · rename_i y
      have e := Mt.inv_pos (b := b) (by omega)
      refine ⟨b, hb, b, hb, sz_le 2 (by decide), fun p hp => ⟨pa, p, a, b⁻¹, rfl, ha.same (same_upd hp), Fq.of ?_, sa, ⟨?_, ?_⟩, fun r H' sm hr h => h1 z r H' ((same_upd hp).trans sm) ((same_upd hp).free hr) (by rw [Rat.div_def]; exact h)⟩⟩
      · rw [frO, ← e.1, ← e.2]; exact upd_same
      · rw [← e.1]; exact sb.b
      · rw [← e.2]; exact sb.t
abbrev s_poly_of : Stmt := top 14
theorem sc_poly_of : FnScope ["numbers", "many"] ["numbers"] (defScope s_poly_of) := ⟨rfl, rfl, rfl, by decide +kernel, rfl, by decide +kernel, by decide +kernel⟩
theorem ok_poly_of {f : Addr} {fd : FuncData} (F : Fun K "poly_of" "poly_of" s_poly_of f fd) (m : mg "poly_of" = some (.ref f)) (T : Tx w K mg C_NOUGHT C_NoFraction C_NoMoments C_ONE C_TooFar) : Callee P w K mg base 1 "poly_of" ["numbers"] (spPolyOf K) := by
  refine ⟨f, fd, ?_, m, F.kp, F.binds fun _ _ _ _ _ _ us hl => match us, hl with | [_], _ => rfl⟩
  refine F.okE sc_poly_of (fun vs H Q E h => ?_) (fun cdv A outer s H vs Q E hr h => ?_)
  · obtain ⟨_, _, _, rfl, _⟩ := h
    rfl
  · obtain ⟨a, xs, f, rfl, hs, hf, hl, hq⟩ := h
    refine ⟨_, (pss_cons (ps_set (i := 1) sc_poly_of.nd rfl (Or.inl rfl) (pe_callB call_len_seq (by rfl) T.b_len PySem.boot_len (pa_cons (pv 0) pa_nil))) (pss_cons (ps_wh PassesOwn.never (PW.pt (pw_and (pt_cmpR op_gt (pv 1) pe_int (nomark _)) (pw_and1 (pt_cmpR (op_eqD hr.units) (pe_ix ix_seq (pv 0) (pe_op op_sub (pv 1) pe_int) (fun _ _ => rfl)) (pe_glob (v := .ref C_NOUGHT) rfl T.m_NOUGHT rfl) (nomark _))))) (pss_one (ps_set (i := 1) sc_poly_of.nd rfl (Or.inl rfl) (pe_op op_sub (pv 1) pe_int)))) (pss_one (ps_ret (pe_callTy call_tuple_of (by rfl) T.b_tuple (by decide +kernel) (pa_cons (pe_slice (sl_list.or sl_tupA) (pv 0) po_none (po_some (pv 1))) pa_nil)))))), ?_⟩
    have hlen := hf.len
    refine tSeq_step fun N hN => ?_
    walk_at "rd"
    refine ⟨xs, hs, hN _ _ ?_⟩
    clear hN N
    refine tSeq_step fun N hN => ?_
    walk_at "rd"
    refine ⟨fun σ H' => ∃ k : Nat, σ = [some (.ref a), some (.int k)] ∧ H' = H ∧ k ≤ f.length ∧ ∀ i, k ≤ i → Mt.cf f i = 0, fun σ _ => match σ with | [_, some (.int y)] => y.toNat | _ => 0, ⟨xs.length, rfl, rfl, by omega, fun i hi => Mt.cf_ge (by omega)⟩, ?_⟩
    rintro σ H' ⟨k, rfl, rfl, hk, hz⟩
    have fin : (k = 0 ∨ Mt.cf f (k - 1) ≠ 0) → N [some (.ref a), some (.int k)] H' := fun h1 => by
      have e := Mt.take_trim hk hz h1
      have ef : Frs K H' (Mt.trim f) (cutV xs none (some (k : Int))) := by rw [cutV_to _ _ (by omega), ← e]; exact hf.take k
      refine hN _ _ ?_
      walk_at "rd"
      rcases hs with h | h
      · exact .inl ⟨a, xs, rfl, h, fun p hp => ⟨p, rfl, _, .inl ⟨SqL.of upd_same, fun l hl => hq l _ ((same_upd hp).trans (same_upd hl)) ⟨_, SqT.of upd_same, ef.same ((same_upd hp).trans (same_upd hl))⟩⟩⟩⟩
      · exact .inr ⟨a, xs, rfl, h, fun p H1 s1 h1 => ⟨p, rfl, _, .inr ⟨h1, hq p H1 s1 ⟨_, h1, ef.same s1⟩⟩⟩⟩
    clear hN
    by_cases k0 : k = 0
    · subst k0
      walk_at "rd"
      exact fin (.inl rfl)
    obtain ⟨r, e, fr⟩ := hf.at (j := k - 1) (by omega)
    have ek : ((k : Int) - 1) = ((k - 1 : Nat) : Int) := by omega
    have at1 := atI_nat e
    rw [← ek] at at1
    have k1 : (0 : Int) < k := by omega
    walk_at "rd"
    rw [if_pos (by omega)]
    have both : rEqD K false (.ref r) (.ref C_NOUGHT) H' fun x H'_1 => x = V.bl false ∧ N [some (V.ref a), some (V.int ↑k)] H'_1 ∨ x = V.bl true ∧ (∃ k_1 : Nat, (k : Int) - 1 = ↑k_1 ∧ H'_1 = H' ∧ k_1 ≤ f.length ∧ ∀ (i : Nat), k_1 ≤ i → Mt.cf f i = 0) ∧ k - 1 < k := by
      refine fr_cmp (rep_fr fr) (rep_fr (T.nought H')) ?_
      by_cases z : Mt.cf f (k - 1) = 0
      · refine .inr ⟨by simp [z], ⟨k - 1, ek, rfl, by omega, fun i hi => ?_⟩, by omega⟩
        by_cases e2 : i = k - 1
        · rw [e2]; exact z
        · exact hz i (by omega)
      · exact .inl ⟨by simp [z], fin (.inr z)⟩
    rcases hs with h | h
    · exact .inl ⟨a, xs, _, _, rfl, rfl, h, at1, both⟩
    · exact .inr (.inl ⟨a, xs, _, _, rfl, rfl, h, at1, both⟩)
abbrev s_number_at : Stmt := top 15
theorem sc_number_at : FnScope ["f", "power"] ["f", "power"] (defScope s_number_at) := ⟨rfl, rfl, rfl, by decide +kernel, rfl, by decide +kernel, by decide +kernel⟩
theorem ok_number_at {f : Addr} {fd : FuncData} (F : Fun K "number_at" "number_at" s_number_at f fd) (m : mg "number_at" = some (.ref f)) (T : Tx w K mg C_NOUGHT C_NoFraction C_NoMoments C_ONE C_TooFar) : Callee P w K mg base 1 "number_at" ["f", "power"] (spNumAt K) := by
  refine ⟨f, fd, ?_, m, F.kp, F.binds fun _ _ _ _ _ _ us hl => match us, hl with | [_, _], _ => rfl⟩
  refine F.okE sc_number_at (fun vs H Q E h => ?_) (fun cdv A outer s H vs Q E hr h => ?_)
  · obtain ⟨_, _, _, rfl, _⟩ := h
    rfl
  · obtain ⟨p, f, n, rfl, hp, hq⟩ := h
    refine ⟨_, (pss_one (ps_ret (pe_ifExp (pt_cmpR op_lt (pv 1) (pe_callB call_len_seq (by rfl) T.b_len PySem.boot_len (pa_cons (pv 0) pa_nil)) (nomark _)) (pe_ix ix_tup (pv 0) (pv 1) (fun _ _ => rfl)) (pe_glob (v := .ref C_NOUGHT) rfl T.m_NOUGHT rfl)))), ?_⟩
    obtain ⟨xs, hx, hf⟩ := hp
    have hlen := hf.len
    walk_at "rd"
    refine ⟨xs, .inr hx, ?_⟩
    split
    · rename_i h
      obtain ⟨r, e, fr⟩ := hf.at (j := n) (by omega)
      exact ⟨xs, hx, _, atI_nat e, hq r fr⟩
    · rename_i h
      refine hq _ ?_
      rw [Mt.cf_ge (by omega)]
      exact T.nought H
abbrev s_poly_plus : Stmt := top 16
theorem sc_poly_plus : FnScope ["f", "g"] ["f", "g"] (defScope s_poly_plus) := ⟨rfl, rfl, rfl, by decide +kernel, rfl, by decide +kernel, by decide +kernel⟩
theorem ok_poly_plus {f : Addr} {fd : FuncData} (F : Fun K "poly_plus" "poly_plus" s_poly_plus f fd) (m : mg "poly_plus" = some (.ref f)) (T : Tx w K mg C_NOUGHT C_NoFraction C_NoMoments C_ONE C_TooFar) (c_number_at : Callee P w K mg base 1 "number_at" ["f", "power"] (spNumAt K)) (c_plus : Callee P w K mg base 2 "plus" ["a", "b"] (spBin K (fun a b => a + b))) (c_poly_of : Callee P w K mg base 1 "poly_of" ["numbers"] (spPolyOf K)) : Callee P w K mg base 3 "poly_plus" ["f", "g"] (spPP K Mt.padd) := by
  refine ⟨f, fd, ?_, m, F.kp, F.binds fun _ _ _ _ _ _ us hl => match us, hl with | [_, _], _ => rfl⟩
  refine F.okE sc_poly_plus (fun vs H Q E h => ?_) (fun cdv A outer s H vs Q E hr h => ?_)
  · obtain ⟨_, _, _, _, rfl, _⟩ := h
    rfl
  · obtain ⟨pf, pg, f, g, rfl, hf, hg, lf, lg, sf, sg, hq⟩ := h
    refine ⟨_, (pss_one (ps_ret (pe_c c_poly_of (hr.mono (by decide)) np (pa_cons (PCo.pe (coR T.b_range (pe_callB (call_max2 rfl) (by rfl) T.b_max (by decide +kernel) (pa_cons (pe_callB call_len_seq (by rfl) T.b_len PySem.boot_len (pa_cons (pv 0) pa_nil)) (pa_cons (pe_callB call_len_seq (by rfl) T.b_len PySem.boot_len (pa_cons (pv 1) pa_nil)) pa_nil))) (fun _ hpi => pe_comp2 ["n"] "g" 1 "f" 0 rfl hpi (fun _ _ _ _ _ => (pg_name (i := 0) (show List.Nodup [("n" : Str), ("g" : Str), ("f" : Str)] by decide +kernel) rfl (Or.inl rfl) (Or.inr rfl)).mo) (fun _ _ _ _ _ => PE.mo (pe_c c_plus (hr.mono (by decide)) np (pa_cons (pe_c c_number_at (hr.mono (by decide)) np (pa_cons (pv 2) (pa_cons (pv 0) pa_nil))) (pa_cons (pe_c c_number_at (hr.mono (by decide)) np (pa_cons (pv 1) (pa_cons (pv 0) pa_nil))) pa_nil)))) rfl rfl rfl rfl rfl rfl rfl rfl rfl))) pa_nil)))), ?_⟩
    obtain ⟨xs, hx, fx⟩ := id hf
    obtain ⟨ys, hy, fy⟩ := id hg
    have l1 := fx.len
    have l2 := fy.len
    walk_at "rd"
    refine ⟨xs, .inr hx, ys, .inr hy, ?_⟩
    have e : (if (xs.length : Int) < ys.length then (ys.length : Int) else xs.length).toNat = max f.length g.length := by split <;> omega
    refine ⟨_, _, ⟨rfl, rfl⟩, by split <;> omega, by split <;> omega, ?_⟩
    rw [e]
    refine CO.frs (K := K) (fun n => Mt.cf f n + Mt.cf g n) (by omega) (fun _ _ => trivial) (fun i H' x R hi sm hx' k => ?_) fun D H' zs sm nD hD hfr => ?_
    · subst hx'
      walk_at "rd"
      exact ⟨pf, f, i, rfl, hf.same sm, fun r1 h1 => ⟨pg, g, i, rfl, hg.same sm, fun r2 h2 => ⟨r1, r2, _, _, rfl, h1, h2, (sf i).mono (by decide), (sg i).mono (by decide), fun r H3 s3 _ h3 => k r H3 s3 (Fq.of h3)⟩⟩⟩
    · exact ⟨D, zs, _, rfl, .inl (SqL.of hD), hfr, by simp; omega, fun p H2 s2 h2 => hq p H2 (sm.trans s2) h2⟩
abbrev s_poly_scaled : Stmt := top 19
theorem sc_poly_scaled : FnScope ["f", "a"] ["f", "a"] (defScope s_poly_scaled) := ⟨rfl, rfl, rfl, by decide +kernel, rfl, by decide +kernel, by decide +kernel⟩
theorem ok_poly_scaled {f : Addr} {fd : FuncData} (F : Fun K "poly_scaled" "poly_scaled" s_poly_scaled f fd) (m : mg "poly_scaled" = some (.ref f)) (T : Tx w K mg C_NOUGHT C_NoFraction C_NoMoments C_ONE C_TooFar) (c_poly_of : Callee P w K mg base 1 "poly_of" ["numbers"] (spPolyOf K)) (c_times : Callee P w K mg base 2 "times" ["a", "b"] (spBin K (fun a b => a * b))) : Callee P w K mg base 3 "poly_scaled" ["f", "a"] (spScaled K) := by
  refine ⟨f, fd, ?_, m, F.kp, F.binds fun _ _ _ _ _ _ us hl => match us, hl with | [_, _], _ => rfl⟩
  refine F.okE sc_poly_scaled (fun vs H Q E h => ?_) (fun cdv A outer s H vs Q E hr h => ?_)
  · obtain ⟨_, _, _, _, rfl, _⟩ := h
    rfl
  · obtain ⟨pf, pa, f, a, rfl, hf, ha, lf, sf, sa, hq⟩ := h
    refine ⟨_, (pss_one (ps_ret (pe_c c_poly_of (hr.mono (by decide)) np (pa_cons (PCo.pe (coT (pv 0) (fun _ hpi => pe_comp1 ["number"] "a" 1 rfl hpi (fun _ _ _ _ _ => (pg_name (i := 0) (show List.Nodup [("number" : Str), ("a" : Str)] by decide +kernel) rfl (Or.inl rfl) (Or.inr rfl)).mo) (fun _ _ _ _ _ => PE.mo (pe_c c_times (hr.mono (by decide)) np (pa_cons (pv 0) (pa_cons (pv 1) pa_nil)))) rfl rfl rfl rfl rfl))) pa_nil)))), ?_⟩
    obtain ⟨xs, hx, fx⟩ := id hf
    have l1 := fx.len
    walk_at "rd"
    refine ⟨xs, hx, CO.frs (K := K) (fun i => Mt.cf f i * a) (by omega) (fun H' s => s.seqT hx) (fun i H' x R hi sm hx' k => ?_) fun D H' ys sm nD hD hfr => ?_⟩
    · obtain ⟨p, e, fq⟩ := fx.at (j := i) (by omega)
      cases e.symm.trans hx'
      walk_at "rd"
      exact ⟨p, pa, _, a, rfl, fq.same sm, ha.same sm, sf i, sa, fun r H3 s3 _ h3 => k r H3 s3 (Fq.of h3)⟩
    · refine ⟨D, ys, _, rfl, .inl (SqL.of hD), hfr, by simp; omega, fun p H2 s2 h2 => hq p H2 (sm.trans s2) ?_⟩
      rw [← l1, Mt.map_cf (fun x => x * a)] at h2
      exact h2
abbrev s_poly_minus : Stmt := top 17
theorem sc_poly_minus : FnScope ["f", "g"] ["f", "g"] (defScope s_poly_minus) := ⟨rfl, rfl, rfl, by decide +kernel, rfl, by decide +kernel, by decide +kernel⟩
theorem ok_poly_minus {f : Addr} {fd : FuncData} (F : Fun K "poly_minus" "poly_minus" s_poly_minus f fd) (m : mg "poly_minus" = some (.ref f)) (T : Tx w K mg C_NOUGHT C_NoFraction C_NoMoments C_ONE C_TooFar) (c_poly_plus : Callee P w K mg base 3 "poly_plus" ["f", "g"] (spPP K Mt.padd)) (c_poly_scaled : Callee P w K mg base 3 "poly_scaled" ["f", "a"] (spScaled K)) : Callee P w K mg base 4 "poly_minus" ["f", "g"] (spPP K Mt.psub) := by
  refine ⟨f, fd, ?_, m, F.kp, F.binds fun _ _ _ _ _ _ us hl => match us, hl with | [_, _], _ => rfl⟩
  refine F.okE sc_poly_minus (fun vs H Q E h => ?_) (fun cdv A outer s H vs Q E hr h => ?_)
  · obtain ⟨_, _, _, _, rfl, _⟩ := h
    rfl
  · obtain ⟨pf, pg, f, g, rfl, hf, hg, lf, lg, sf, sg, hq⟩ := h
    refine ⟨_, (pss_one (ps_ret (pe_c c_poly_plus (hr.mono (by decide)) np (pa_cons (pv 0) (pa_cons (pe_c c_poly_scaled (hr.mono (by decide)) np (pa_cons (pv 1) (pa_cons (pe_tup (pa_cons (pe_un un_neg pe_int) (pa_cons pe_int pa_nil))) pa_nil))) pa_nil))))), ?_⟩
    walk_at "rd"
    refine ⟨sz_le 2 (by decide), fun p hp => ⟨pg, p, g, -1, rfl, hg.same (same_upd hp), Fq.of upd_same, lg, fun n => (sg n).mono (by decide), ⟨by show (_ : Nat) < _; decide, by show (_ : Nat) < _; decide⟩, fun r H1 s1 h1 => ?_⟩⟩
    have s01 := (same_upd hp).trans s1
    refine ⟨pf, r, f, _, rfl, hf.same s01, h1, lf, Nat.le_trans (Mt.trim_len _) (by simpa using lg), sf, fun n => ?_, fun r2 H2 s2 h2 => hq r2 H2 (s01.trans s2) h2⟩
    rw [Mt.cf_pscale, show Mt.cf g n * -1 = -Mt.cf g n by grind]
    exact (sg n).neg
abbrev s_poly_times : Stmt := top 18
theorem sc_poly_times : FnScope ["f", "g", "sums", "i", "a", "j", "b"] ["f", "g"] (defScope s_poly_times) := ⟨rfl, rfl, rfl, by decide +kernel, rfl, by decide +kernel, by decide +kernel⟩
theorem ok_poly_times {f : Addr} {fd : FuncData} (F : Fun K "poly_times" "poly_times" s_poly_times f fd) (m : mg "poly_times" = some (.ref f)) (T : Tx w K mg C_NOUGHT C_NoFraction C_NoMoments C_ONE C_TooFar) (c_plus : Callee P w K mg base 2 "plus" ["a", "b"] (spBin K (fun a b => a + b))) (c_poly_of : Callee P w K mg base 1 "poly_of" ["numbers"] (spPolyOf K)) (c_times : Callee P w K mg base 2 "times" ["a", "b"] (spBin K (fun a b => a * b))) : Callee P w K mg base 3 "poly_times" ["f", "g"] (spMulP K) := by
  refine ⟨f, fd, ?_, m, F.kp, F.binds fun _ _ _ _ _ _ us hl => match us, hl with | [_, _], _ => rfl⟩
  refine F.okE sc_poly_times (fun vs H Q E h => ?_) (fun cdv A outer s H vs Q E hr h => ?_)
  · obtain ⟨_, _, _, _, _, _, rfl, _⟩ := h
    rfl
  · obtain ⟨pf, pg, f, g, b, c, rfl, hf, hg, lf, lg, bf, bg, hbc, hq⟩ := h
    refine ⟨_, (pss_cons (PCo.ps (i := 2) (coR T.b_range (pe_op op_add (pe_callB call_len_seq (by rfl) T.b_len PySem.boot_len (pa_cons (pv 0) pa_nil)) (pe_callB call_len_seq (by rfl) T.b_len PySem.boot_len (pa_cons (pv 1) pa_nil))) (fun _ hpi => pe_comp0 ["place"] rfl hpi (fun _ _ _ _ _ => (pg_name (i := 0) (show List.Nodup [("place" : Str)] by decide +kernel) rfl (Or.inl rfl) (Or.inr rfl)).mo) (fun _ _ _ _ _ => PE.mo (pe_glob (v := .ref C_NOUGHT) rfl T.m_NOUGHT rfl)))) sc_poly_times.nd rfl (Or.inl rfl)) (pss_cons (ps_forE rfl PassesOwn.never T.b_enumerate (pv 0) (pg_tup rfl (pgs_cons (pg_name (i := 3) sc_poly_times.nd rfl (Or.inl rfl)) (pgs_cons (pg_name (i := 4) sc_poly_times.nd rfl (Or.inl rfl)) pgs_nil))) (pss_one (ps_forE rfl PassesOwn.never T.b_enumerate (pv 1) (pg_tup rfl (pgs_cons (pg_name (i := 5) sc_poly_times.nd rfl (Or.inl rfl)) (pgs_cons (pg_name (i := 6) sc_poly_times.nd rfl (Or.inl rfl)) pgs_nil))) (pss_one (ps_asg (pe_c c_plus (hr.mono (by decide)) np (pa_cons (pe_ix ix_list (pv 2) (pe_op op_add (pv 3) (pv 5)) (fun _ _ => rfl)) (pa_cons (pe_c c_times (hr.mono (by decide)) np (pa_cons (pv 4) (pa_cons (pv 6) pa_nil))) pa_nil))) (pg_sub (pv 2) (pe_op op_add (pv 3) (pv 5)) set_list)))))) (pss_one (ps_ret (pe_c c_poly_of (hr.mono (by decide)) np (pa_cons (pv 2) pa_nil)))))), ?_⟩
    obtain ⟨xs, hx, fx⟩ := id hf
    obtain ⟨ys, hy, fy⟩ := id hg
    have l1 := fx.len
    have l2 := fy.len
    refine tSeq_step fun N hN => ?_
    walk_at "rd"
    have en : (((xs.length : Int) + (ys.length : Int)).toNat) = f.length + g.length := by omega
    refine ⟨xs, .inr hx, ys, .inr hy, by omega, by omega, ?_⟩
    rw [en]
    refine CO.frs (K := K) (fun _ => 0) (by omega) (fun _ _ => trivial) (fun i H' x R hi sm hx' k => k _ _ (Same.refl _) (T.nought _)) fun D H1 zs s1 nD hD hfr => hN _ _ ?_
    clear hN N
    have e0 : (List.range (f.length + g.length)).map (fun _ => (0 : Rat)) = Mt.prodIn f g 0 := by rw [Mt.prodIn_zero, List.map_const', List.length_range]
    rw [e0] at hfr
    refine tSeq_step fun N hN => ?_
    walk_at "rd"
    refine ⟨xs, s1.seqT hx, fun i σ H' => ∃ r3 r4 r5 r6 zs, σ = [some (.ref pf), some (.ref pg), some (.ref D), r3, r4, r5, r6] ∧ Same H H' ∧ H' D = some (.lst zs) ∧ Frs K H' (Mt.prodIn f g i) zs, ⟨none, none, none, none, zs, rfl, s1, hD, hfr⟩, ?_, ?_, ?_⟩
    · rintro i σ H' _ ⟨_, _, _, _, _, _, sm, _⟩
      exact sm.seqT hx
    · rintro i x σ H' p hxi ⟨r3, r4, r5, r6, zs, rfl, sm, hd, hz⟩ hp
      have hi : i < f.length := by rw [l1]; exact (List.getElem?_eq_some_iff.mp hxi).1
      obtain ⟨ra, ea, fa⟩ := fx.at hi
      cases ea.symm.trans hxi
      have w1 := same_upd (o := .tup [.int i, .ref ra]) hp
      have sm1 := sm.trans w1
      have hz1 := hz.same w1
      have hd1 := w1 _ _ hd
      have et : SqT K (upd H' p (.tup [.int i, .ref ra])) p [.int i, .ref ra] := SqT.of upd_same
      generalize upd H' p (.tup [.int i, .ref ra]) = G1 at sm1 hz1 hd1 et ⊢
      walk_at "rd"
      refine ⟨_, et, rfl, _, _, rfl, _, _, rfl, rfl, ys, sm1.seqT hy, ?_⟩
      refine ⟨fun j σ H' => ∃ r5 r6 zs, σ = [some (.ref pf), some (.ref pg), some (.ref D), some (.int i), some (.ref ra), r5, r6] ∧ Same H H' ∧ H' D = some (.lst zs) ∧ Frs K H' (Mt.rowIn (Mt.prodIn f g i) i (Mt.cf f i) g j) zs, ⟨r5, r6, zs, rfl, sm1, hd1, hz1⟩, ?_, ?_, ?_⟩
      · rintro j σ H' _ ⟨_, _, _, _, sm, _⟩
        exact sm.seqT hy
      · rintro j y σ H2 p2 hyj ⟨r5, r6, zs2, rfl, sm2, hd2, hz2⟩ hp2
        have hj : j < g.length := by rw [l2]; exact (List.getElem?_eq_some_iff.mp hyj).1
        obtain ⟨rb, eb, fb⟩ := fy.at hj
        cases eb.symm.trans hyj
        have w2 := same_upd (o := .tup [.int j, .ref rb]) hp2
        replace sm2 := sm2.trans w2
        replace hz2 := hz2.same w2
        replace hd2 := w2 _ _ hd2
        have et2 : SqT K (upd H2 p2 (.tup [.int j, .ref rb])) p2 [.int j, .ref rb] := SqT.of upd_same
        generalize upd H2 p2 (.tup [.int j, .ref rb]) = G2 at sm2 hz2 hd2 et2 ⊢
        have hk : i + j < (Mt.rowIn (Mt.prodIn f g i) i (Mt.cf f i) g j).length := by rw [Mt.rowIn_len, Mt.prodIn_len]; omega
        obtain ⟨rs, es, fs⟩ := hz2.at hk
        have lz := hz2.len
        have at1 : atI zs2 ((i : Int) + (j : Int)) = some (.ref rs) := by
          have := atI_nat es
          rwa [show ((i + j : Nat) : Int) = (i : Int) + (j : Int) by omega] at this
        have ix1 : ixN zs2.length ((i : Int) + (j : Int)) = some (i + j) := by
          have := ixN_nat (n := zs2.length) (k := i + j) (by omega)
          rwa [show ((i + j : Nat) : Int) = (i : Int) + (j : Int) by omega] at this
        have s1 := Ln.sz bf i
        have s2 := Ln.sz bg j
        have s3 := Ln.sz (bf.rowB bg lf hi (j := j) (by omega)) (i + j)
        walk_at "rd"
        refine ⟨_, et2, rfl, _, _, rfl, _, _, rfl, rfl, ?_⟩
        walk_at "rd"
        refine ⟨zs2, SqL.of hd2, _, at1, ra, rb, _, _, rfl, fa.same sm2, fb.same sm2, s1.mono (by omega), s2.mono (by omega), fun r1 G3 t1 _ q1 => ⟨rs, r1, _, _, rfl, fs.same t1, Fq.of q1, s3.mono (by omega), (s1.mul s2).mono (by omega), fun r2 G4 t2 _ q2 => ?_⟩⟩
        have t12 := t1.trans t2
        have hd4 := t12 _ _ hd2
        refine ⟨zs2, hd4, _, ix1, (sm2.trans t12).updL nD, _, upd_same, ?_⟩
        rw [Mt.rowIn_succ]
        exact Frs.set (i + j) (Frs.updL hd4 (hz2.same t12)) (SqT.updL hd4 (Fq.of q2))
      · rintro σ H2 ⟨r5, r6, zs2, rfl, sm2, hd2, hz2⟩
        rw [← l2, ← Mt.prodIn_succ] at hz2
        exact ⟨⟨_, _, _, _, rfl⟩, sm2, _, hd2, hz2⟩
    · rintro σ H' ⟨r3, r4, r5, r6, zs, rfl, sm, hd, hz⟩
      refine hN _ _ ?_
      clear hN N
      have lz := hz.len
      rw [Mt.prodIn_len] at lz
      walk_at "rd"
      refine ⟨D, zs, _, rfl, .inl (SqL.of hd), hz, by rw [Mt.prodIn_len]; omega, fun p H2 s2 h2 => hq p H2 (sm.trans s2) ?_⟩
      rw [← l1] at h2
      exact h2
abbrev s_degree_of : Stmt := top 20
theorem sc_degree_of : FnScope ["f"] ["f"] (defScope s_degree_of) := ⟨rfl, rfl, rfl, by decide +kernel, rfl, by decide +kernel, by decide +kernel⟩
theorem ok_degree_of {f : Addr} {fd : FuncData} (F : Fun K "degree_of" "degree_of" s_degree_of f fd) (m : mg "degree_of" = some (.ref f)) (T : Tx w K mg C_NOUGHT C_NoFraction C_NoMoments C_ONE C_TooFar) : Callee P w K mg base 1 "degree_of" ["f"] (spDeg K) := by
  refine ⟨f, fd, ?_, m, F.kp, F.binds fun _ _ _ _ _ _ us hl => match us, hl with | [_], _ => rfl⟩
  refine F.okE sc_degree_of (fun vs H Q E h => ?_) (fun cdv A outer s H vs Q E hr h => ?_)
  · obtain ⟨_, _, rfl, _⟩ := h
    rfl
  · obtain ⟨p, f, rfl, hp, hq⟩ := h
    refine ⟨_, (pss_one (ps_ret (pe_op op_sub (pe_callB call_len_seq (by rfl) T.b_len PySem.boot_len (pa_cons (pv 0) pa_nil)) pe_int))), ?_⟩
    obtain ⟨xs, hx, fx⟩ := hp
    have l1 := fx.len
    walk_at "rd"
    refine ⟨xs, .inr hx, ?_⟩
    rw [← l1]
    exact hq
abbrev s_one_further : Stmt := top 22
theorem sc_one_further : FnScope ["level", "now", "down", "before"] ["level", "now", "down", "before"] (defScope s_one_further) := ⟨rfl, rfl, rfl, by decide +kernel, rfl, by decide +kernel, by decide +kernel⟩
theorem ok_one_further {f : Addr} {fd : FuncData} (F : Fun K "one_further" "one_further" s_one_further f fd) (m : mg "one_further" = some (.ref f)) (T : Tx w K mg C_NOUGHT C_NoFraction C_NoMoments C_ONE C_TooFar) (c_minus : Callee P w K mg base 3 "minus" ["a", "b"] (spBin K (fun a b => a - b))) (c_poly_minus : Callee P w K mg base 4 "poly_minus" ["f", "g"] (spPP K Mt.psub)) (c_poly_of : Callee P w K mg base 1 "poly_of" ["numbers"] (spPolyOf K)) (c_poly_scaled : Callee P w K mg base 3 "poly_scaled" ["f", "a"] (spScaled K)) (c_poly_times : Callee P w K mg base 3 "poly_times" ["f", "g"] (spMulP K)) : Callee P w K mg base 5 "one_further" ["level", "now", "down", "before"] (spFurG K) := by
  refine ⟨f, fd, ?_, m, F.kp, F.binds fun _ _ _ _ _ _ us hl => match us, hl with | [_, _, _, _], _ => rfl⟩
  refine F.okE sc_one_further (fun vs H Q E h => ?_) (fun cdv A outer s H vs Q E hr h => ?_)
  · obtain ⟨_, _, _, _, _, _, _, _, rfl, _⟩ := h
    rfl
  · obtain ⟨pl, pn, pd, pb, l, d, f, g, rfl, ql, hn, qd, hb, wl, wd, lf, lg, bf, bg, hq⟩ := h
    refine ⟨_, (pss_one (ps_ret (pe_c c_poly_minus (hr.mono (by decide)) np (pa_cons (pe_c c_poly_times (hr.mono (by decide)) np (pa_cons (pe_c c_poly_of (hr.mono (by decide)) np (pa_cons (pe_lst (pa_cons (pe_c c_minus (hr.mono (by decide)) np (pa_cons (pe_glob (v := .ref C_NOUGHT) rfl T.m_NOUGHT rfl) (pa_cons (pv 0) pa_nil))) (pa_cons (pe_glob (v := .ref C_ONE) rfl T.m_ONE rfl) pa_nil))) pa_nil)) (pa_cons (pv 1) pa_nil))) (pa_cons (pe_c c_poly_scaled (hr.mono (by decide)) np (pa_cons (pv 3) (pa_cons (pv 2) pa_nil))) pa_nil))))), ?_⟩
    have m1 := len_pmul (Mt.x1 l) f
    have m3 : (Mt.x1 l).length ≤ 2 := Mt.trim_len _
    have b1 : Mt.Ln 2101 2101 (Mt.x1 l) := ⟨l.den, 2 ^ 2100, l.den_pos, Nat.le_trans (Nat.le_of_lt (wd0 wl)) (Nat.pow_le_pow_right (by decide) (by decide)), Nat.pow_le_pow_right (by decide) (by decide), x1_lat wl⟩
    walk_at "rd"
    refine ⟨_, pl, 0, l, rfl, T.nought H, ql, Sz.zero (by decide), wl.mono (by decide), fun r1 H1 s1 n1 h1 => ⟨sz_le 2 (by decide), fun lst nl => ?_⟩⟩
    have u := same_upd (o := .lst [.ref r1, .ref C_ONE]) nl
    refine ⟨lst, _, [0 - l, 1], rfl, .inl (SqL.of upd_same), Frs.cons (Fq.of (u _ _ h1)) (Frs.cons (T.one _) Frs.nil), by simp, fun p2 H2 s2 h2 => ?_⟩
    rw [show (0 : Rat) - l = -l by grind] at h2
    replace h2 : Pl K H2 p2 (Mt.x1 l) := h2
    have v2 := (s1.trans u).trans s2
    refine ⟨p2, pn, _, f, 2101, 920, rfl, h2, hn.same v2, by omega, by omega, b1, bf, by decide, fun r3 H3 s3 h3 => ?_⟩
    have v3 := v2.trans s3
    refine ⟨pb, pd, g, d, rfl, hb.same v3, qd.same v3, by omega, fun n => (Ln.sz bg n).mono (by decide), wd.mono (by decide), fun r4 H4 s4 h4 => ?_⟩
    refine ⟨r3, r4, _, _, rfl, h3.same s4, h4, by omega, Nat.le_trans (Mt.trim_len _) (by simp; omega), fun n => (Ln.sz (b1.pmulB bf (by omega)) n).mono (by decide), fun n => ?_, fun r5 H5 s5 h5 => hq r5 H5 ((v3.trans s4).trans s5) h5⟩
    rw [Mt.cf_pscale]
    exact ((Ln.sz bg n).mul wd).mono (by decide)
abbrev s_ruled : Stmt := top 23
theorem sc_ruled : FnScope ["moments", "poly", "total", "n", "number"] ["moments", "poly"] (defScope s_ruled) := ⟨rfl, rfl, rfl, by decide +kernel, rfl, by decide +kernel, by decide +kernel⟩
theorem ok_ruled {f : Addr} {fd : FuncData} (F : Fun K "ruled" "ruled" s_ruled f fd) (m : mg "ruled" = some (.ref f)) (T : Tx w K mg C_NOUGHT C_NoFraction C_NoMoments C_ONE C_TooFar) (c_degree_of : Callee P w K mg base 1 "degree_of" ["f"] (spDeg K)) (c_plus : Callee P w K mg base 2 "plus" ["a", "b"] (spBin K (fun a b => a + b))) (c_times : Callee P w K mg base 2 "times" ["a", "b"] (spBin K (fun a b => a * b))) : Callee P w K mg base 3 "ruled" ["moments", "poly"] (spRuledG K C_TooFar) := by
  refine ⟨f, fd, ?_, m, F.kp, F.binds fun _ _ _ _ _ _ us hl => match us, hl with | [_, _], _ => rfl⟩
  refine F.okX sc_ruled (fun vs H Q E h => ?_) (fun cdv A outer s H vs Q E hr h => ?_)
  · obtain ⟨_, _, _, _, _, rfl, _⟩ := h
    rfl
  · obtain ⟨m, p, xs, ms, f, rfl, hm, fm, hp, lf, wm, rf, rs, h0, h1⟩ := h
    refine ⟨_, (pss_cons (ps_if (pt_cmpR op_ge (pe_c c_degree_of (hr.mono (by decide)) pass_cx (pa_cons (pv 1) pa_nil)) (pe_callB call_len_seq (by rfl) T.b_len PySem.boot_len (pa_cons (pv 0) pa_nil)) (nomark _)) (pss_one (ps_raise raises_cx rfl rfl T.m_TooFar T.x_TooFar (pa_cons pe_str pa_nil))) pss_nil) (pss_cons (ps_set (i := 2) sc_ruled.nd rfl (Or.inl rfl) (pe_glob (v := .ref C_NOUGHT) rfl T.m_NOUGHT rfl)) (pss_cons (ps_forE rfl PassesOwn.leaving T.b_enumerate (pv 1) (pg_tup rfl (pgs_cons (pg_name (i := 3) sc_ruled.nd rfl (Or.inl rfl)) (pgs_cons (pg_name (i := 4) sc_ruled.nd rfl (Or.inl rfl)) pgs_nil))) (pss_one (ps_set (i := 2) sc_ruled.nd rfl (Or.inl rfl) (pe_c c_plus (hr.mono (by decide)) pass_cx (pa_cons (pv 2) (pa_cons (pe_c c_times (hr.mono (by decide)) pass_cx (pa_cons (pv 4) (pa_cons (pe_ix ix_list (pv 0) (pv 3) (fun _ _ => rfl)) pa_nil))) pa_nil)))))) (pss_one (ps_ret (pv 2)))))), ?_⟩
    obtain ⟨ys, hy, fy⟩ := id hp
    have l1 := fm.len
    have l2 := fy.len
    refine tSeq_step fun N hN => ?_
    walk_at "rd"
    refine ⟨p, f, rfl, hp, xs, .inl hm, _, rfl, ?_⟩
    split
    · rename_i z
      exact ⟨sz_le 1 (by decide), h0 (by omega)⟩
    rename_i z
    have hl : f.length ≤ ms.length := by omega
    refine hN _ _ ?_
    clear hN N
    refine tSeq_step fun N hN => ?_
    walk_at "rd"
    refine hN _ _ ?_
    clear hN N
    refine tSeq_step fun N hN => ?_
    walk_at "rd"
    refine ⟨ys, hy, fun i σ H' => ∃ r3 r4 rt, σ = [some (.ref m), some (.ref p), some (.ref rt), r3, r4] ∧ Same H H' ∧ Fq K H' rt (Mt.Su (fun n => Mt.cf f n * Mt.cf ms n) i), ⟨none, none, _, rfl, Same.refl _, T.nought _⟩, ?_, ?_, ?_⟩
    · rintro i σ H' _ ⟨_, _, _, _, sm, _⟩
      exact sm.seqT hy
    · rintro i x σ H1 t hxi ⟨r3, r4, rt, rfl, sm, qt⟩ ht
      have hi : i < f.length := by rw [l2]; exact (List.getElem?_eq_some_iff.mp hxi).1
      obtain ⟨pa, ea, fa⟩ := fy.at hi
      cases ea.symm.trans hxi
      obtain ⟨pb, eb, fb⟩ := fm.at (j := i) (by omega)
      have u := same_upd (o := .tup [.int i, .ref pa]) ht
      have et : SqT K (upd H1 t (.tup [.int i, .ref pa])) t [.int i, .ref pa] := SqT.of upd_same
      generalize upd H1 t (.tup [.int i, .ref pa]) = H2 at u et ⊢
      have sm2 := sm.trans u
      walk_at "rd"
      refine ⟨_, et, rfl, _, _, rfl, _, _, rfl, rfl, ?_⟩
      walk_at "rd"
      refine ⟨xs, sm2.seq hm, _, atI_nat eb, pa, pb, _, _, rfl, fa.same sm2, fb.same sm2, (rf i).mono (by decide), (wm i).mono (by decide), fun r1 H3 s3 n3 h3 => ?_⟩
      refine ⟨rt, r1, _, _, rfl, (qt.same u).same s3, Fq.of h3, (rs i (by omega)).mono (by decide), ((rf i).mul (wm i)).mono (by decide), fun r2 H4 s4 n4 h4 => ?_⟩
      exact ⟨_, _, r2, ⟨rfl, rfl, rfl⟩, (sm2.trans s3).trans s4, Fq.of h4⟩
    · rintro σ H1 ⟨r3, r4, rt, rfl, sm, qt⟩
      refine hN _ _ ?_
      walk_at "rd"
      rw [← l2] at qt
      exact h1 hl rt H1 sm qt
abbrev s_check_moments : Stmt := top 26
theorem sc_check_moments : FnScope ["moments"] ["moments"] (defScope s_check_moments) := ⟨rfl, rfl, rfl, by decide +kernel, rfl, by decide +kernel, by decide +kernel⟩
theorem ok_check_moments {f : Addr} {fd : FuncData} (F : Fun K "check_moments" "check_moments" s_check_moments f fd) (m : mg "check_moments" = some (.ref f)) (T : Tx w K mg C_NOUGHT C_NoFraction C_NoMoments C_ONE C_TooFar) : Callee P w K mg base 1 "check_moments" ["moments"] (spChkM K C_NoMoments) := by
  refine ⟨f, fd, ?_, m, F.kp, F.binds fun _ _ _ _ _ _ us hl => match us, hl with | [_], _ => rfl⟩
  refine F.okX sc_check_moments (fun vs H Q E h => ?_) (fun cdv A outer s H vs Q E hr h => ?_)
  · obtain ⟨_, _, _, rfl, _⟩ := h
    rfl
  · obtain ⟨m, xs, ms, rfl, hm, fm, l0, l1, l2, m0, hq⟩ := h
    refine ⟨_, (pss_cons (ps_if (PW.pt (pw_or (pt_cmpR op_ne (pe_op op_mod (pe_callB call_len_seq (by rfl) T.b_len PySem.boot_len (pa_cons (pv 0) pa_nil)) pe_int) pe_int (nomark _)) (pw_or1 (pt_not (pt_chain op_le op_le pe_int (pe_callB call_len_seq (by rfl) T.b_len PySem.boot_len (pa_cons (pv 0) pa_nil)) (pe_globI T.g_MOSTM)))))) (pss_one (ps_raise raises_cx rfl rfl T.m_NoMoments T.x_NoMoments (pa_cons pe_str pa_nil))) pss_nil) (pss_one (ps_if (pt_cmpR (op_neD hr.units) (pe_ix ix_list (pv 0) pe_int (fun _ _ => rfl)) (pe_glob (v := .ref C_ONE) rfl T.m_ONE rfl) (nomark _)) (pss_one (ps_raise raises_cx rfl rfl T.m_NoMoments T.x_NoMoments (pa_cons pe_str pa_nil))) pss_nil))), ?_⟩
    have lx := fm.len
    refine tSeq_step fun N hN => ?_
    walk_at "rd"
    refine ⟨xs, .inl hm, .inl ⟨by omega, xs, .inl hm, ?_⟩⟩
    rw [if_pos (by omega), if_pos (by omega)]
    refine hN _ _ ?_
    clear hN N
    obtain ⟨q, e, fq⟩ := fm.at (j := 0) (by omega)
    rw [m0] at fq
    walk_at "rd"
    refine ⟨xs, hm, _, atI_nat e, fr_cmp (rep_fr fq) (rep_fr (T.one H)) (.inl ⟨by simp, hq H (Same.refl _)⟩)⟩
abbrev s_weights_back : Stmt := top 27
theorem sc_weights_back : FnScope ["moments", "levels", "downs", "before", "now", "last_product", "last_sum", "h", "product", "level_sum", "further"] ["moments"] (defScope s_weights_back) := ⟨rfl, rfl, rfl, by decide +kernel, rfl, by decide +kernel, by decide +kernel⟩
theorem ok_weights_back {f : Addr} {fd : FuncData} (F : Fun K "weights_back" "weights_back" s_weights_back f fd) (m : mg "weights_back" = some (.ref f)) (T : Tx w K mg C_NOUGHT C_NoFraction C_NoMoments C_ONE C_TooFar) (c_check_moments : Callee P w K mg base 1 "check_moments" ["moments"] (spChkM K C_NoMoments)) (c_minus : Callee P w K mg base 3 "minus" ["a", "b"] (spBin K (fun a b => a - b))) (c_one_further : Callee P w K mg base 5 "one_further" ["level", "now", "down", "before"] (spFurG K)) (c_over : Callee P w K mg base 3 "over" ["a", "b"] (spOver K C_NoFraction)) (c_ruled : Callee P w K mg base 3 "ruled" ["moments", "poly"] (spRuledG K C_TooFar)) : Callee P w K mg base 6 "weights_back" ["moments"] (spBackG K) := by
  refine ⟨f, fd, ?_, m, F.kp, F.binds fun _ _ _ _ _ _ us hl => match us, hl with | [_], _ => rfl⟩
  refine F.okE sc_weights_back (fun vs H Q E h => ?_) (fun cdv A outer s H vs Q E hr h => ?_)
  · obtain ⟨_, _, _, _, _, _, rfl, _⟩ := h
    rfl
  · obtain ⟨m, xs, ms, k, d0, M, rfl, hm, fm, lm, hk, m0, mi, hq1, hq2⟩ := h
    refine ⟨_, (pss_cons (ps_expr (pe_c c_check_moments (hr.mono (by decide)) np (pa_cons (pv 0) pa_nil))) (pss_cons (ps_set (i := 1) sc_weights_back.nd rfl (Or.inl rfl) (pe_lst pa_nil)) (pss_cons (ps_set (i := 2) sc_weights_back.nd rfl (Or.inl rfl) (pe_lst pa_nil)) (pss_cons (ps_set (i := 3) sc_weights_back.nd rfl (Or.inl rfl) (pe_tup pa_nil)) (pss_cons (ps_set (i := 4) sc_weights_back.nd rfl (Or.inl rfl) (pe_tup (pa_cons (pe_glob (v := .ref C_ONE) rfl T.m_ONE rfl) pa_nil))) (pss_cons (ps_set (i := 5) sc_weights_back.nd rfl (Or.inl rfl) (pe_glob (v := .ref C_ONE) rfl T.m_ONE rfl)) (pss_cons (ps_set (i := 6) sc_weights_back.nd rfl (Or.inl rfl) (pe_glob (v := .ref C_NOUGHT) rfl T.m_NOUGHT rfl)) (pss_cons (ps_forR rfl PassesOwn.never T.b_range (pe_op op_fdivB (pe_callB call_len_seq (by rfl) T.b_len PySem.boot_len (pa_cons (pv 0) pa_nil)) pe_int) (pg_name (i := 7) sc_weights_back.nd rfl (Or.inl rfl)) (pss_cons (ps_set (i := 8) sc_weights_back.nd rfl (Or.inl rfl) (pe_c c_ruled (hr.mono (by decide)) np (pa_cons (pe_slice sl_list (pv 0) (po_some (pv 7)) po_none) (pa_cons (pv 4) pa_nil)))) (pss_cons (ps_if (pt_cmpR (op_eqD hr.units) (pv 8) (pe_glob (v := .ref C_NOUGHT) rfl T.m_NOUGHT rfl) (nomark _)) (pss_one (ps_ret (pe_tup (pa_cons pe_str (pa_cons (pe_op op_add (pv 7) pe_int) (pa_cons (pv 4) pa_nil)))))) pss_nil) (pss_cons (ps_set (i := 9) sc_weights_back.nd rfl (Or.inl rfl) (pe_c c_over (hr.mono (by decide)) np (pa_cons (pe_c c_ruled (hr.mono (by decide)) np (pa_cons (pe_slice sl_list (pv 0) (po_some (pe_op op_add (pv 7) pe_int)) po_none) (pa_cons (pv 4) pa_nil))) (pa_cons (pv 8) pa_nil)))) (pss_cons (ps_expr (pe_bm PySem.F.plainAttrs_list PySem.F.slot_list_append PySem.F.type_list_append mt_append (pv 1) (pa_cons (pe_c c_minus (hr.mono (by decide)) np (pa_cons (pv 9) (pa_cons (pv 6) pa_nil))) pa_nil))) (pss_cons (ps_expr (pe_bm PySem.F.plainAttrs_list PySem.F.slot_list_append PySem.F.type_list_append mt_append (pv 2) (pa_cons (pe_c c_over (hr.mono (by decide)) np (pa_cons (pv 8) (pa_cons (pv 5) pa_nil))) pa_nil))) (pss_cons (ps_set (i := 10) sc_weights_back.nd rfl (Or.inl rfl) (pe_c c_one_further (hr.mono (by decide)) np (pa_cons (pe_ix ix_list (pv 1) (pv 7) (fun _ _ => rfl)) (pa_cons (pv 4) (pa_cons (pe_ix ix_list (pv 2) (pv 7) (fun _ _ => rfl)) (pa_cons (pv 3) pa_nil)))))) (pss_cons (ps_set (i := 3) sc_weights_back.nd rfl (Or.inl rfl) (pv 4)) (pss_cons (ps_set (i := 4) sc_weights_back.nd rfl (Or.inl rfl) (pv 10)) (pss_cons (ps_set (i := 5) sc_weights_back.nd rfl (Or.inl rfl) (pv 8)) (pss_one (ps_set (i := 6) sc_weights_back.nd rfl (Or.inl rfl) (pv 9))))))))))))) (pss_one (ps_ret (pe_tup (pa_cons pe_str (pa_cons (pe_callTy call_tuple_of (by rfl) T.b_tuple (by decide +kernel) (pa_cons (pv 1) pa_nil)) (pa_cons (pe_callTy call_tuple_of (by rfl) T.b_tuple (by decide +kernel) (pa_cons (pe_slice sl_list (pv 2) (po_some pe_int) po_none) pa_nil)) pa_nil)))))))))))))), ?_⟩
    refine tSeq_step fun N hN => ?_
    walk_at "rd"
    refine ⟨m, xs, ms, rfl, hm, fm, by omega, by omega, by omega, m0, fun H1 s1 => hN _ _ ?_⟩
    clear hN N
    have lx := fm.len
    refine tSeq_step fun N hN => ?_
    walk_at "rd"
    refine fun LV nL => hN _ _ ?_
    clear hN N
    have u1 := same_upd (o := .lst []) nL
    have hL1 : upd H1 LV (.lst []) LV = some (.lst []) := upd_same
    generalize upd H1 LV (.lst []) = H2 at u1 hL1 ⊢
    refine tSeq_step fun N hN => ?_
    walk_at "rd"
    refine fun DN nD => hN _ _ ?_
    clear hN N
    have u2 := same_upd (o := .lst []) nD
    have hD1 : upd H2 DN (.lst []) DN = some (.lst []) := upd_same
    have ne : LV ≠ DN := ne_of_none hL1 nD
    generalize upd H2 DN (.lst []) = H3 at u2 hD1 ⊢
    replace hL1 := u2 _ _ hL1
    refine tSeq_step fun N hN => ?_
    walk_at "rd"
    refine fun p0 n0 => hN _ _ ?_
    clear hN N
    have u3 := same_upd (o := .tup []) n0
    have g0 : Pl K (upd H3 p0 (.tup [])) p0 [] := Pl.nil upd_same
    generalize upd H3 p0 (.tup []) = H4 at u3 g0 ⊢
    refine tSeq_step fun N hN => ?_
    walk_at "rd"
    refine ⟨sz_le 1 (by decide), fun p1 n1 => hN _ _ ?_⟩
    clear hN N
    have u4 := same_upd (o := .tup [.ref C_ONE]) n1
    have g1 : Pl K (upd H4 p1 (.tup [.ref C_ONE])) p1 [1] := ⟨_, SqT.of upd_same, Frs.cons (T.one _) Frs.nil⟩
    generalize upd H4 p1 (.tup [.ref C_ONE]) = H5 at u4 g1 ⊢
    replace g0 := g0.same u4
    have v5 := u3.trans u4
    replace hL1 := v5 _ _ hL1
    replace hD1 := v5 _ _ hD1
    have vA := ((s1.trans u1).trans u2).trans v5
    have nL0 : H LV = none := s1.free nL
    have nD0 : H DN = none := (s1.trans u1).free nD
    refine tSeq_step fun N hN => ?_
    walk_at "rd"
    refine hN _ _ ?_
    clear hN N
    refine tSeq_step fun N hN => ?_
    walk_at "rd"
    refine hN _ _ ?_
    clear hN N
    refine tSeq_step fun N hN => ?_
    walk_at "rd"
    refine ⟨xs, .inl (vA.seq hm), ⟨by decide, Bd.mono (m := 64) (show (_ : Nat) < _ by decide) (by decide)⟩, ?_⟩
    rw [show ((xs.length : Int).fdiv 2) = ((k + 1 : Nat) : Int) by rw [Int.fdiv_eq_ediv_of_nonneg _ (by decide)]; omega]
    refine ⟨by omega, by omega, ?_⟩
    rw [Int.toNat_natCast]
    have ln1 : Mt.Ln 920 920 [1] := ⟨1, 1, by decide, Nat.one_le_two_pow, Nat.one_le_two_pow, fun n => by
      rcases n with _ | n
      · exact Mt.Lat.one
      · rw [Mt.cf_succ, Mt.cf_nil]; exact Mt.Lat.zero⟩
    have mo0 : Rw ms (fun _ => [1]) 0 := ⟨fun j hj => by
      obtain rfl : j = 0 := by omega
      exact Mt.Mo.one, fun j hj => absurd hj (by omega)⟩
    refine ⟨fun i σ H' => ∃ (be no lp ls : Addr) (r7 r8 r9 r10 : Option V) (us vs : List V) (p : Nat → List Rat) (g L D : List Rat) (s q : Rat), σ = [some (.ref m), some (.ref LV), some (.ref DN), some (.ref be), some (.ref no), some (.ref lp), some (.ref ls), r7, r8, r9, r10] ∧ Same H H' ∧ H' LV = some (.lst us) ∧ Frs K H' L us ∧ L.length = i ∧ H' DN = some (.lst vs) ∧ Frs K H' D vs ∧ D.length = i ∧ (∀ h, h < i → Mt.cf D h ≠ 0) ∧ Pl K H' be g ∧ Pl K H' no (p i) ∧ Fq K H' lp q ∧ Fq K H' ls s ∧ Rw ms p i ∧ Mt.Bf ms g i s q ∧ q ≠ 0 ∧ Sz 1040 s ∧ Sz 1040 q ∧ Mt.Ln 920 920 g, ⟨p0, p1, C_ONE, C_NOUGHT, none, none, none, none, [], [], fun _ => [1], [], [], [], 0, 1, rfl, vA, hL1, Frs.nil, rfl, hD1, Frs.nil, rfl, fun h hh => absurd hh (by omega), g0, g1, T.one _, T.nought _, mo0, ⟨fun _ => ⟨rfl, rfl⟩, fun j hj => absurd hj (by omega)⟩, by decide, Sz.zero (by decide), Sz.mono (m := 1) ⟨by show (_ : Nat) < _; decide, by show (_ : Nat) < _; decide⟩ (by decide), Mt.Gp.nil.ln (n := 0) (by decide) |>.mono (by decide) (by decide)⟩, ?_, ?_⟩
    · rintro i σ H6 hi ⟨be, no, lp, ls, r7, r8, r9, r10, us, vs, p, g, L, D, s, q, rfl, sm, hLV, fLV, lL, hDN, fDN, lD, nD', pbe, pno, qlp, qls, rw_, bf, q0, zs, zq, lg⟩
      have lu := fLV.len
      have lv := fDN.len
      have mo := rw_.mo i (Nat.le_refl _)
      have lr := mo.len
      have gl := bf.len
      obtain ⟨lnr, sl, sq⟩ := rw_.small mi (by omega)
      have lnm := fun l => mi.ln l
      refine tSeq_step fun N hN => ?_
      walk_at "rd"
      refine ⟨m, xs, rfl, sm.seq hm, fun p2 n2 => ?_⟩
      rw [cutV_from xs i (by omega)]
      have w2 := same_upd (o := .lst (xs.drop i)) n2
      refine ⟨p2, no, _, ms.drop i, _, rfl, SqL.of upd_same, ((fm.drop i).same sm).same w2, pno.same w2, by omega, fun n => (Ln.sz (lnm i) n).mono (by decide), fun n => (Ln.sz lnr n).mono (by decide), fun j hj => (Ln.dot lnr (lnm i) (by omega)).mono (by decide), fun z => absurd z (by rw [List.length_drop]; omega), fun _ rp1 H7 s7 q7 => hN _ _ ?_⟩
      clear hN N
      rw [Mt.lf_dot] at q7
      have t7 := w2.trans s7
      replace sm := sm.trans t7
      replace hLV := t7 _ _ hLV
      replace fLV := fLV.same t7
      replace hDN := t7 _ _ hDN
      replace fDN := fDN.same t7
      replace pbe := pbe.same t7
      replace pno := pno.same t7
      replace qlp := qlp.same t7
      replace qls := qls.same t7
      refine tSeq_step fun N hN => ?_
      walk_at "rd"
      refine fr_cmp (rep_fr q7) (rep_fr (T.nought H7)) ?_
      by_cases z : Mt.lf ms (p i) i = 0
      · refine .inr ⟨by simp [z], sz_le 3 (by decide), fun p3 n3 => ?_⟩
        have u3' := same_upd (o := .tup [.str "barred", .int ((i : Int) + 1), .ref no]) n3
        exact hq2 p i (by omega) rw_ z p3 no _ (sm.trans u3') upd_same (pno.same u3')
      refine .inl ⟨by simp [z], hN _ _ ?_⟩
      clear hN N
      refine tSeq_step fun N hN => ?_
      walk_at "rd"
      refine ⟨m, xs, rfl, sm.seq hm, fun p4 n4 => ?_⟩
      rw [show ((i : Int) + 1) = ((i + 1 : Nat) : Int) by omega, cutV_from xs (i + 1) (by omega)]
      have w4 := same_upd (o := .lst (xs.drop (i + 1))) n4
      refine ⟨p4, no, _, ms.drop (i + 1), _, rfl, SqL.of upd_same, ((fm.drop (i + 1)).same sm).same w4, pno.same w4, by omega, fun n => (Ln.sz (lnm (i + 1)) n).mono (by decide), fun n => (Ln.sz lnr n).mono (by decide), fun j hj => (Ln.dot lnr (lnm (i + 1)) (by omega)).mono (by decide), fun z => absurd z (by rw [List.length_drop]; omega), fun _ r2 H8 s8 q8 => ?_⟩
      rw [Mt.lf_dot] at q8
      have t8 := w4.trans s8
      refine ⟨r2, rp1, _, _, rfl, q8, q7.same t8, (sl _).mono (by decide), (sl _).mono (by decide), fun zz => absurd zz z, fun _ r3 H9 s9 n9 h9 => hN _ _ ?_⟩
      clear hN N
      obtain ⟨t, et⟩ : ∃ t, t = Mt.lf ms (p i) (i + 1) / Mt.lf ms (p i) i := ⟨_, rfl⟩
      have zt : Sz 1040 t := by rw [et]; exact sq z (i + 1)
      have ht : t * Mt.lf ms (p i) i = Mt.lf ms (p i) (i + 1) := by rw [et, Rat.div_def, Rat.mul_assoc, Rat.inv_mul_cancel _ z, Rat.mul_one]
      have q9 : Fq K H9 r3 t := by rw [et]; exact Fq.of h9
      obtain ⟨u, eu⟩ : ∃ u, u = Mt.lf ms (p i) i := ⟨_, rfl⟩
      have zu : Sz 1040 u := by rw [eu]; exact sl i
      rw [← eu] at ht z q7
      have stp := Mt.Mo.step mo bf q0 eu.symm ht
      have t9 := t8.trans s9
      replace sm := sm.trans t9
      replace q7 := q7.same t9
      replace hLV := t9 _ _ hLV
      replace fLV := fLV.same t9
      replace hDN := t9 _ _ hDN
      replace fDN := fDN.same t9
      replace pbe := pbe.same t9
      replace pno := pno.same t9
      replace qlp := qlp.same t9
      replace qls := qls.same t9
      clear t9 t8 w4 s8 q8 h9 n9 n4 sq
      refine tSeq_step fun N hN => ?_
      walk_at "rd"
      refine ⟨.inl ⟨rfl, _, SqL.of hLV⟩, r3, ls, _, _, rfl, q9, qls, zt.mono (by decide), zs.mono (by decide), fun r4 H10 s10 n10 h10 => ⟨us, s10 _ _ hLV, small1000 (by omega), hN _ _ ?_⟩⟩
      clear hN N
      have q10 : Fq K H10 r4 (t - s) := Fq.of h10
      have hL10 := s10 _ _ hLV
      have sm11 : Same H (upd H10 LV (.lst (us ++ [.ref r4]))) := (sm.trans s10).updL nL0
      have q7' : Fq K (upd H10 LV (.lst (us ++ [.ref r4]))) rp1 u := SqT.updL hL10 (q7.same s10)
      have q9' : Fq K (upd H10 LV (.lst (us ++ [.ref r4]))) r3 t := SqT.updL hL10 (q9.same s10)
      have q10' : Fq K (upd H10 LV (.lst (us ++ [.ref r4]))) r4 (t - s) := SqT.updL hL10 q10
      have fLV' : Frs K (upd H10 LV (.lst (us ++ [.ref r4]))) (L ++ [t - s]) (us ++ [.ref r4]) := Frs.snoc (Frs.updL hL10 (fLV.same s10)) q10'
      have hLV' : upd H10 LV (.lst (us ++ [.ref r4])) LV = some (.lst (us ++ [.ref r4])) := upd_same
      have hDN' : upd H10 LV (.lst (us ++ [.ref r4])) DN = some (.lst vs) := by rw [upd_ne (Ne.symm ne)]; exact s10 _ _ hDN
      have fDN' : Frs K (upd H10 LV (.lst (us ++ [.ref r4]))) D vs := Frs.updL hL10 (fDN.same s10)
      have pbe' : Pl K (upd H10 LV (.lst (us ++ [.ref r4]))) be g := Pl.updL hL10 (pbe.same s10)
      have pno' : Pl K (upd H10 LV (.lst (us ++ [.ref r4]))) no (p i) := Pl.updL hL10 (pno.same s10)
      have qlp' : Fq K (upd H10 LV (.lst (us ++ [.ref r4]))) lp q := SqT.updL hL10 (qlp.same s10)
      generalize upd H10 LV (.lst (us ++ [.ref r4])) = H11 at sm11 q7' q9' q10' fLV' hLV' hDN' fDN' pbe' pno' qlp' ⊢
      clear sm q7 q9 q10 fLV hLV hDN fDN pbe pno qlp qls s10 h10 hL10
      refine tSeq_step fun N hN => ?_
      walk_at "rd"
      refine ⟨.inl ⟨rfl, _, SqL.of hDN'⟩, rp1, lp, _, _, rfl, q7', qlp', zu.mono (by decide), zq.mono (by decide), fun zz => absurd zz q0, fun nz' r5 H12 s12 n12 h12 => ⟨vs, s12 _ _ hDN', small1000 (by omega), hN _ _ ?_⟩⟩
      clear hN N
      have q12 : Fq K H12 r5 (u / q) := Fq.of h12
      have hD12 := s12 _ _ hDN'
      have sm13 : Same H (upd H12 DN (.lst (vs ++ [.ref r5]))) := (sm11.trans s12).updL nD0
      have q7'' : Fq K (upd H12 DN (.lst (vs ++ [.ref r5]))) rp1 u := SqT.updL hD12 (q7'.same s12)
      have q9'' : Fq K (upd H12 DN (.lst (vs ++ [.ref r5]))) r3 t := SqT.updL hD12 (q9'.same s12)
      have q10'' : Fq K (upd H12 DN (.lst (vs ++ [.ref r5]))) r4 (t - s) := SqT.updL hD12 (q10'.same s12)
      have q12' : Fq K (upd H12 DN (.lst (vs ++ [.ref r5]))) r5 (u / q) := SqT.updL hD12 q12
      have fDN'' : Frs K (upd H12 DN (.lst (vs ++ [.ref r5]))) (D ++ [u / q]) (vs ++ [.ref r5]) := Frs.snoc (Frs.updL hD12 (fDN'.same s12)) q12'
      have hDN'' : upd H12 DN (.lst (vs ++ [.ref r5])) DN = some (.lst (vs ++ [.ref r5])) := upd_same
      have hLV'' : upd H12 DN (.lst (vs ++ [.ref r5])) LV = some (.lst (us ++ [.ref r4])) := by rw [upd_ne ne]; exact s12 _ _ hLV'
      have fLV'' : Frs K (upd H12 DN (.lst (vs ++ [.ref r5]))) (L ++ [t - s]) (us ++ [.ref r4]) := Frs.updL hD12 (fLV'.same s12)
      have pbe'' : Pl K (upd H12 DN (.lst (vs ++ [.ref r5]))) be g := Pl.updL hD12 (pbe'.same s12)
      have pno'' : Pl K (upd H12 DN (.lst (vs ++ [.ref r5]))) no (p i) := Pl.updL hD12 (pno'.same s12)
      generalize upd H12 DN (.lst (vs ++ [.ref r5])) = H13 at sm13 q7'' q9'' q10'' q12' fDN'' hDN'' hLV'' fLV'' pbe'' pno'' ⊢
      clear sm11 q7' q9' q10' q12 fLV' hLV' hDN' fDN' pbe' pno' qlp' s12 h12 hD12
      have a1 : atI (us ++ [V.ref r4]) (i : Int) = some (.ref r4) := atI_nat (by rw [List.getElem?_append_right (by omega), show i - us.length = 0 by omega]; rfl)
      have a2 : atI (vs ++ [V.ref r5]) (i : Int) = some (.ref r5) := atI_nat (by rw [List.getElem?_append_right (by omega), show i - vs.length = 0 by omega]; rfl)
      refine tSeq_step fun N hN => ?_
      walk_at "rd"
      refine ⟨_, SqL.of hLV'', _, a1, _, SqL.of hDN'', _, a2, r4, no, r5, be, _, _, _, _, rfl, q10'', pno'', q12', pbe'', (zt.sub zs).mono (by decide), (Sz.quo zu zq).mono (by decide), by omega, by omega, lnr, lg, fun r6 H14 s14 h14 => hN _ _ ?_⟩
      clear hN N
      walk_at "rd"
      have rw' : Rw ms (fun j => if j ≤ i then p j else Mt.nx2 (t - s) (u / q) (p i) g) (i + 1) := ⟨fun j hj => by
        by_cases y : j ≤ i
        · simp only [if_pos y]; exact rw_.mo j y
        · obtain rfl : j = i + 1 := by omega
          simp only [if_neg y]; exact stp, fun j hj => by
        simp only [if_pos (show j ≤ i by omega)]
        rcases Nat.lt_or_ge j i with y | y
        · exact rw_.nz j y
        · obtain rfl : j = i := by omega
          rw [← eu]; exact z⟩
      refine ⟨no, r6, rp1, r3, ⟨rfl, rfl, rfl, rfl⟩, sm13.trans s14, _, s14 _ _ hLV'', vs ++ [.ref r5], fun j => if j ≤ i then p j else Mt.nx2 (t - s) (u / q) (p i) g, p i, L ++ [t - s], fLV''.same s14, by simp [lL], s14 _ _ hDN'', D ++ [u / q], fDN''.same s14, by simp [lD], fun h hh => ?_, pno''.same s14, ?_, t, u, q7''.same s14, q9''.same s14, rw', ⟨fun y => absurd y (by omega), fun j hj => ?_⟩, z, zt, zu, lnr⟩
      · rcases Nat.lt_or_ge h i with y | y
        · rw [cf_app_l (by omega)]; exact nD' h y
        · obtain rfl : h = D.length := by omega
          rw [cf_app_e]
          intro y
          rw [Rat.div_def] at y
          exact (Rat.mul_eq_zero.mp y).elim z (fun w => q0 (by rw [← Rat.inv_inv q, w, Rat.inv_zero]))
      · simp only [if_neg (show ¬ i + 1 ≤ i by omega)]; exact h14
      · obtain rfl : j = i := by omega
        exact ⟨mo, eu.symm, ht⟩
    · rintro σ H6 ⟨be, no, lp, ls, r7, r8, r9, r10, us, vs, p, g, L, D, s, q, rfl, sm, hLV, fLV, lL, hDN, fDN, lD, nD', pbe, pno, qlp, qls, rw_, bf, q0, zs, zq, lg⟩
      refine hN _ _ ?_
      clear hN N
      walk_at "rd"
      obtain ⟨d1, D', rfl⟩ := List.exists_cons_of_length_pos (show 0 < D.length by omega)
      obtain ⟨pd0, vs', rfl, _, fD'⟩ := fDN.uncons
      refine ⟨us, .inl ⟨SqL.of hLV, fun l nl => ?_⟩⟩
      have w1 := same_upd (o := .tup us) nl
      have e1 : upd H6 l (.tup us) l = some (.tup us) := upd_same
      generalize upd H6 l (.tup us) = G1 at w1 e1 ⊢
      refine ⟨DN, _, rfl, SqL.of (w1 _ _ hDN), fun p2 n2 => ?_⟩
      rw [show cutV (V.ref pd0 :: vs') (some 1) none = vs' from cutV_from (V.ref pd0 :: vs') 1 (by simp)]
      have w2 := same_upd (o := .lst vs') n2
      have e2 : upd G1 p2 (.lst vs') p2 = some (.lst vs') := upd_same
      generalize upd G1 p2 (.lst vs') = G2 at w2 e2 ⊢
      refine ⟨p2, rfl, _, .inl ⟨SqL.of e2, fun l2 m2 => ⟨sz_le 3 (by decide), fun p3 n3 => ?_⟩⟩⟩
      have w3 := same_upd (o := .tup vs') m2
      have e3 : upd G2 l2 (.tup vs') l2 = some (.tup vs') := upd_same
      generalize upd G2 l2 (.tup vs') = G3 at w3 e3 n3 ⊢
      have w4 := same_upd (o := .tup [.str "weights", .ref l, .ref l2]) n3
      have v1 := (w2.trans w3).trans w4
      have v0 := w1.trans v1
      refine hq1 p L D' rw_ lL (by simpa using lD) (fun h hh zz => ?_) p3 l l2 _ (sm.trans v0) upd_same ⟨us, SqT.of (v1 _ _ e1), fLV.same v0⟩ ⟨vs', SqT.of (w4 _ _ e3), fD'.same v0⟩
      exact nD' (h + 1) (by omega) (by rw [Mt.cf_succ]; exact zz)
abbrev s__law_cell_at : Stmt := top 29
theorem sc__law_cell_at : FnScope ["_law_script", "_law_k"] ["_law_script", "_law_k"] (defScope s__law_cell_at) := ⟨rfl, rfl, rfl, by decide +kernel, rfl, by decide +kernel, by decide +kernel⟩
theorem ok__law_cell_at {f : Addr} {fd : FuncData} (F : Fun K "_law_cell_at" "_law_cell_at" s__law_cell_at f fd) (m : mg "_law_cell_at" = some (.ref f)) (T : Tx w K mg C_NOUGHT C_NoFraction C_NoMoments C_ONE C_TooFar) : Callee P w K mg base 1 "_law_cell_at" ["_law_script", "_law_k"] (spCell K) := by
  refine ⟨f, fd, ?_, m, F.kp, F.binds fun _ _ _ _ _ _ us hl => match us, hl with | [_, _], _ => rfl⟩
  refine F.okE sc__law_cell_at (fun vs H Q E h => ?_) (fun cdv A outer s H vs Q E hr h => ?_)
  · obtain ⟨_, _, _, rfl, _⟩ := h
    rfl
  · obtain ⟨a, ns, k, rfl, hs, hk, hq⟩ := h
    refine ⟨_, (pss_cons (ps_if (pt_cmpR op_gt (pe_callB call_len_seq (by rfl) T.b_len PySem.boot_len (pa_cons (pv 0) pa_nil)) pe_int (nomark _)) (pss_one (ps_ret (pe_ix ix_list (pv 0) (pe_op op_mod (pv 1) (pe_callB call_len_seq (by rfl) T.b_len PySem.boot_len (pa_cons (pv 0) pa_nil))) (fun _ _ => rfl)))) pss_nil) (pss_one (ps_ret pe_int))), ?_⟩
    walk_at "rd"
    refine ⟨ns.map V.int, .inl hs, ?_⟩
    split
    · rename_i hlt
      have h0 : 0 < ns.length := by simp at hlt; omega
      have h1 := Int.emod_nonneg k (show (ns.length : Int) ≠ 0 by omega)
      have h2 := Int.emod_lt_of_pos k (show (0 : Int) < ns.length by omega)
      have hl : (k % (ns.length : Int)).toNat < ns.length := by omega
      refine ⟨ns.map V.int, .inl hs, by simp; omega, ns.map V.int, hs, .int ns[(k % (ns.length : Int)).toNat], ?_, hq _⟩
      have := atI_nat (xs := ns.map V.int) (j := (k % (ns.length : Int)).toNat) (v := .int ns[(k % (ns.length : Int)).toNat]) (by simp [hl])
      rw [Int.toNat_of_nonneg h1] at this
      rw [List.length_map]
      exact this
    · exact hq 0
abbrev s__law_stir : Stmt := top 30
theorem sc__law_stir : FnScope ["_law_cell", "_law_k", "_law_c", "_law_low_here"] ["_law_cell", "_law_k"] (defScope s__law_stir) := ⟨rfl, rfl, rfl, by decide +kernel, rfl, by decide +kernel, by decide +kernel⟩
theorem ok__law_stir {f : Addr} {fd : FuncData} (F : Fun K "_law_stir" "_law_stir" s__law_stir f fd) (m : mg "_law_stir" = some (.ref f)) (T : Tx w K mg C_NOUGHT C_NoFraction C_NoMoments C_ONE C_TooFar) : Callee P w K mg base 1 "_law_stir" ["_law_cell", "_law_k"] (spStir) := by
  refine ⟨f, fd, ?_, m, F.kp, F.binds fun _ _ _ _ _ _ us hl => match us, hl with | [_, _], _ => rfl⟩
  refine F.okE sc__law_stir (fun vs H Q E h => ?_) (fun cdv A outer s H vs Q E hr h => ?_)
  · obtain ⟨_, _, rfl, _⟩ := h
    rfl
  · obtain ⟨c, k, rfl, hk, hk2, hq⟩ := h
    refine ⟨_, (pss_cons (ps_set (i := 2) sc__law_stir.nd rfl (Or.inl rfl) (pe_op op_add (pe_op op_add (pe_op op_add (pe_op op_mod (pv 0) (pe_op op_pow pe_int pe_int)) pe_int) (pe_op op_mul pe_int (pv 1))) (pe_op op_mul (pe_op op_mul pe_int (pv 1)) (pv 1)))) (pss_cons (ps_set (i := 3) sc__law_stir.nd rfl (Or.inl rfl) (pe_op op_mod (pe_op op_mul (pe_op op_mod (pe_op op_mul (pv 2) pe_int) pe_int) pe_int) pe_int)) (pss_one (ps_ret (pe_op op_add (pv 3) (pe_op op_mul pe_int (pe_op op_mod (pe_op op_mul (pe_op op_mul (pv 2) (pv 3)) pe_int) (pe_op op_add (pe_op op_pow pe_int pe_int) pe_int)))))))), ?_⟩
    walk_at "rd"
    refine ⟨.inl ⟨by decide, by decide⟩, .inl ⟨by decide, by decide⟩, .inr ⟨by omega, by omega⟩, .inr ⟨by decide, by decide⟩, .inr ⟨by decide, by decide⟩, .inr ?_, .inr ⟨by decide, by decide⟩, .inl ⟨by decide, by decide⟩, ?_⟩
    · generalize (c % 10000000000000000000000000000000000000000 + 1 + 13 * k + 7 * k * k) * 48271 % 2147483647 * 69621 = z
      exact ⟨by omega, by omega⟩
    · generalize (c % 10000000000000000000000000000000000000000 + 1 + 13 * k + 7 * k * k) * 48271 % 2147483647 * 69621 = z
      generalize (c % 10000000000000000000000000000000000000000 + 1 + 13 * k + 7 * k * k) * (z % 1000000007) * 2862933555777941757 = y
      exact hq _ (by omega) (by omega)
abbrev s__law_drawn : Stmt := top 31
theorem sc__law_drawn : FnScope ["_law_script", "_law_k", "_law_great", "_law_step"] ["_law_script", "_law_k"] (defScope s__law_drawn) := ⟨rfl, rfl, rfl, by decide +kernel, rfl, by decide +kernel, by decide +kernel⟩
theorem ok__law_drawn {f : Addr} {fd : FuncData} (F : Fun K "_law_drawn" "_law_drawn" s__law_drawn f fd) (m : mg "_law_drawn" = some (.ref f)) (T : Tx w K mg C_NOUGHT C_NoFraction C_NoMoments C_ONE C_TooFar) (c__law_cell_at : Callee P w K mg base 1 "_law_cell_at" ["_law_script", "_law_k"] (spCell K)) (c__law_stir : Callee P w K mg base 1 "_law_stir" ["_law_cell", "_law_k"] (spStir)) : Callee P w K mg base 2 "_law_drawn" ["_law_script", "_law_k"] (spDrawn K) := by
  refine ⟨f, fd, ?_, m, F.kp, F.binds fun _ _ _ _ _ _ us hl => match us, hl with | [_, _], _ => rfl⟩
  refine F.okE sc__law_drawn (fun vs H Q E h => ?_) (fun cdv A outer s H vs Q E hr h => ?_)
  · obtain ⟨_, _, _, rfl, _⟩ := h
    rfl
  · obtain ⟨a, ns, k, rfl, hs, hk, hk2, hq⟩ := h
    refine ⟨_, (pss_cons (ps_set (i := 2) sc__law_drawn.nd rfl (Or.inl rfl) (pe_c c__law_cell_at (hr.mono (by decide)) np (pa_cons (pv 0) (pa_cons pe_int pa_nil)))) (pss_cons (ps_if (PW.pt (pw_and (pt_cmpR op_eq (pe_op op_mod (pe_c c__law_cell_at (hr.mono (by decide)) np (pa_cons (pv 0) (pa_cons pe_int pa_nil))) pe_int) pe_int (nomark _)) (pw_and1 (pt_cmpR op_ge (pv 2) (pe_op op_pow pe_int pe_int) (nomark _))))) (pss_cons (ps_forR rfl PassesOwn.never T.b_range (pv 1) (pg_name (i := 3) sc__law_drawn.nd rfl (Or.inl rfl)) (pss_one (ps_set (i := 2) sc__law_drawn.nd rfl (Or.inl rfl) (pe_op op_fdivB (pv 2) (pe_op op_pow pe_int pe_int))))) (pss_one (ps_if (pt_cmpR op_gt (pv 2) pe_int (nomark _)) (pss_one (ps_ret (pe_op op_mod (pv 2) (pe_op op_pow pe_int pe_int)))) pss_nil))) pss_nil) (pss_one (ps_ret (pe_c c__law_stir (hr.mono (by decide)) np (pa_cons (pe_c c__law_cell_at (hr.mono (by decide)) np (pa_cons (pv 0) (pa_cons (pv 1) pa_nil))) (pa_cons (pv 1) pa_nil))))))), ?_⟩
    walk_at "rd"
    refine ⟨a, ns, 1, rfl, hs, by decide, fun great => ⟨a, ns, 0, rfl, hs, by decide, fun c0 => ?_⟩⟩
    walk_at "rd"
    have last : spCell K [V.ref a, V.int k] H (fun x H1 => spStir [x, V.int k] H1 Q E0) E0 := ⟨a, ns, k, rfl, hs, hk, fun c => ⟨c, k, rfl, hk, hk2, hq⟩⟩
    split
    · split
      · refine ⟨by omega, by omega, ?_⟩
        refine ⟨fun _ σ H' => ∃ (g : Int) (r : Option V), σ = [some (.ref a), some (.int k), some (.int g), r] ∧ H' = H, ⟨great, none, rfl, rfl⟩, ?_, ?_⟩
        · rintro i σ H' _ ⟨g, r, rfl, rfl⟩
          walk_at "rd"
          exact bd_ten60
        · rintro σ H' ⟨g, r, rfl, rfl⟩
          walk_at "rd"
          split
          · exact hq _ (by omega) (by omega)
          · exact last
      · exact last
    · exact last
abbrev s__law_whole : Stmt := top 32
theorem sc__law_whole : FnScope ["_law_found"] ["_law_found"] (defScope s__law_whole) := ⟨rfl, rfl, rfl, by decide +kernel, rfl, by decide +kernel, by decide +kernel⟩
theorem ok__law_whole {f : Addr} {fd : FuncData} (F : Fun K "_law_whole" "_law_whole" s__law_whole f fd) (m : mg "_law_whole" = some (.ref f)) (T : Tx w K mg C_NOUGHT C_NoFraction C_NoMoments C_ONE C_TooFar) : Callee P w K mg base 1 "_law_whole" ["_law_found"] (spWhole) := by
  refine ⟨f, fd, ?_, m, F.kp, F.binds fun _ _ _ _ _ _ us hl => match us, hl with | [_], _ => rfl⟩
  refine F.okE sc__law_whole (fun vs H Q E h => ?_) (fun cdv A outer s H vs Q E hr h => ?_)
  · obtain ⟨_, rfl, _⟩ := h
    rfl
  · obtain ⟨a, rfl, hq⟩ := h
    refine ⟨_, (pss_one (ps_ret (pe_and (pe_callB call_isi (by rfl) T.b_isinstance (by decide +kernel) (pa_cons (pv 0) (pa_cons (pe_bltn (v := .ty "int") (u := .type "int") rfl T.b_int (by decide +kernel) rfl) pa_nil))) (pe_one (pe_not (pe_callB call_isi (by rfl) T.b_isinstance (by decide +kernel) (pa_cons (pv 0) (pa_cons (pe_bltn (v := .ty "bool") (u := .type "bool") rfl T.b_bool (by decide +kernel) rfl) pa_nil)))))))), ?_⟩
    walk_at "rd"
    refine isi_ii (.inr ⟨rfl, isi_ib (.inl ⟨rfl, hq⟩)⟩)
abbrev s__law_divisor : Stmt := top 33
theorem sc__law_divisor : FnScope ["_law_a", "_law_b", "_law_rest"] ["_law_a", "_law_b"] (defScope s__law_divisor) := ⟨rfl, rfl, rfl, by decide +kernel, rfl, by decide +kernel, by decide +kernel⟩
theorem ok__law_divisor {f : Addr} {fd : FuncData} (F : Fun K "_law_divisor" "_law_divisor" s__law_divisor f fd) (m : mg "_law_divisor" = some (.ref f)) (T : Tx w K mg C_NOUGHT C_NoFraction C_NoMoments C_ONE C_TooFar) : Callee P w K mg base 1 "_law_divisor" ["_law_a", "_law_b"] (spGcd) := by
  refine ⟨f, fd, ?_, m, F.kp, F.binds fun _ _ _ _ _ _ us hl => match us, hl with | [_, _], _ => rfl⟩
  refine F.okE sc__law_divisor (fun vs H Q E h => ?_) (fun cdv A outer s H vs Q E hr h => ?_)
  · obtain ⟨_, _, rfl, _⟩ := h
    rfl
  · obtain ⟨a, b, rfl, hq⟩ := h
    refine ⟨_, (pss_cons (ps_set (i := 0) sc__law_divisor.nd rfl (Or.inl rfl) (pe_callB call_abs (by rfl) T.b_abs (by decide +kernel) (pa_cons (pv 0) pa_nil))) (pss_cons (ps_set (i := 1) sc__law_divisor.nd rfl (Or.inl rfl) (pe_callB call_abs (by rfl) T.b_abs (by decide +kernel) (pa_cons (pv 1) pa_nil))) (pss_cons (ps_wh PassesOwn.never (pt_cmpR op_gt (pv 1) pe_int (nomark _)) (pss_cons (ps_set (i := 2) sc__law_divisor.nd rfl (Or.inl rfl) (pe_op op_mod (pv 0) (pv 1))) (pss_cons (ps_set (i := 0) sc__law_divisor.nd rfl (Or.inl rfl) (pv 1)) (pss_one (ps_set (i := 1) sc__law_divisor.nd rfl (Or.inl rfl) (pv 2)))))) (pss_one (ps_ret (pv 0)))))), ?_⟩
    walk_at "rd"
    refine ⟨fun σ H' => ∃ (x y : Int) (r : Option V), σ = [some (.int x), some (.int y), r] ∧ H' = H ∧ 0 ≤ x ∧ 0 ≤ y ∧ Int.gcd x y = Int.gcd a b, fun σ _ => match σ with | [_, some (.int y), _] => y.toNat | _ => 0, ⟨_, _, none, rfl, rfl, ?_, ?_, gcd_abs a b⟩, ?_⟩
    · split <;> omega
    · split <;> omega
    rintro σ H' ⟨x, y, r, rfl, rfl, hx, hy, hg⟩
    by_cases hy0 : y = 0
    · subst hy0
      walk_at "rd"
      rw [← hg, gcd_end hx] at hq
      exact hq
    · have h1 := Int.emod_nonneg x hy0
      have h2 := Int.emod_lt_of_pos x (show 0 < y by omega)
      have h3 := gcd_step hx (show 0 < y by omega)
      walk_at "rd"
      rw [if_pos (show 0 < y by omega)]
      exact ⟨by omega, ⟨y, x % y, ⟨rfl, rfl⟩, hy, h1, h3.trans hg⟩, by omega⟩
abbrev s__law_low : Stmt := top 34
theorem sc__law_low : FnScope ["_law_top", "_law_bottom", "_law_by"] ["_law_top", "_law_bottom"] (defScope s__law_low) := ⟨rfl, rfl, rfl, by decide +kernel, rfl, by decide +kernel, by decide +kernel⟩
theorem ok__law_low {f : Addr} {fd : FuncData} (F : Fun K "_law_low" "_law_low" s__law_low f fd) (m : mg "_law_low" = some (.ref f)) (T : Tx w K mg C_NOUGHT C_NoFraction C_NoMoments C_ONE C_TooFar) (c__law_divisor : Callee P w K mg base 1 "_law_divisor" ["_law_a", "_law_b"] (spGcd)) : Callee P w K mg base 2 "_law_low" ["_law_top", "_law_bottom"] (spLow) := by
  refine ⟨f, fd, ?_, m, F.kp, F.binds fun _ _ _ _ _ _ us hl => match us, hl with | [_, _], _ => rfl⟩
  refine F.okE sc__law_low (fun vs H Q E h => ?_) (fun cdv A outer s H vs Q E hr h => ?_)
  · obtain ⟨_, _, rfl, _⟩ := h
    rfl
  · obtain ⟨t, b, rfl, hb, bb, hq⟩ := h
    refine ⟨_, (pss_cons (ps_if (pt_cmpR op_lt (pv 1) pe_int (nomark _)) (pss_cons (ps_set (i := 0) sc__law_low.nd rfl (Or.inl rfl) (pe_un un_neg (pv 0))) (pss_one (ps_set (i := 1) sc__law_low.nd rfl (Or.inl rfl) (pe_un un_neg (pv 1))))) pss_nil) (pss_cons (ps_set (i := 2) sc__law_low.nd rfl (Or.inl rfl) (pe_c c__law_divisor (hr.mono (by decide)) np (pa_cons (pv 0) (pa_cons (pv 1) pa_nil)))) (pss_one (ps_ret (pe_tup (pa_cons (pe_op op_fdivB (pv 0) (pv 2)) (pa_cons (pe_op op_fdivB (pv 1) (pv 2)) pa_nil))))))), ?_⟩
    walk_at "rd"
    rw [if_neg (by omega)]
    have hp := Int.gcd_pos_of_ne_zero_right t (show b ≠ 0 by omega)
    have bg : Bd 9000 ((Int.gcd t b : Nat) : Int) := bb.le (by simpa using Mt.gcd_le (t := t) (show b ≠ 0 by omega))
    have e := Mt.low_pos (t := t) hb
    refine ⟨t, b, rfl, _, rfl, bg.dv (by omega), _, rfl, bg.dv (by omega), sz_le 2 (by decide), fun p hp => ?_⟩
    rw [e.1, e.2]
    exact hq p hp
abbrev s__law_add : Stmt := top 35
theorem sc__law_add : FnScope ["_law_a", "_law_b"] ["_law_a", "_law_b"] (defScope s__law_add) := ⟨rfl, rfl, rfl, by decide +kernel, rfl, by decide +kernel, by decide +kernel⟩
theorem ok__law_add {f : Addr} {fd : FuncData} (F : Fun K "_law_add" "_law_add" s__law_add f fd) (m : mg "_law_add" = some (.ref f)) (T : Tx w K mg C_NOUGHT C_NoFraction C_NoMoments C_ONE C_TooFar) (c__law_low : Callee P w K mg base 2 "_law_low" ["_law_top", "_law_bottom"] (spLow)) : Callee P w K mg base 3 "_law_add" ["_law_a", "_law_b"] (spBin K (fun a b => a + b)) := by
  refine ⟨f, fd, ?_, m, F.kp, F.binds fun _ _ _ _ _ _ us hl => match us, hl with | [_, _], _ => rfl⟩
  refine F.okE sc__law_add (fun vs H Q E h => ?_) (fun cdv A outer s H vs Q E hr h => ?_)
  · obtain ⟨_, _, _, _, rfl, _⟩ := h
    rfl
  · obtain ⟨pa, pb, a, b, rfl, ha, hb, sa, sb, hq⟩ := h
    refine ⟨_, (pss_one (ps_ret (pe_c c__law_low (hr.mono (by decide)) np (pa_cons (pe_op op_add (pe_op op_mulB (pe_ix ix_fq (pv 0) pe_int (fun _ _ => rfl)) (pe_ix ix_fq (pv 1) pe_int (fun _ _ => rfl))) (pe_op op_mulB (pe_ix ix_fq (pv 1) pe_int (fun _ _ => rfl)) (pe_ix ix_fq (pv 0) pe_int (fun _ _ => rfl)))) (pa_cons (pe_op op_mulB (pe_ix ix_fq (pv 0) pe_int (fun _ _ => rfl)) (pe_ix ix_fq (pv 1) pe_int (fun _ _ => rfl))) pa_nil))))), ?_⟩
    dsimp only at hq
    walk_at "rd"
    refine ⟨a, ha, b, hb, sa.t.mu sb.b, b, hb, a, ha, sb.t.mu sa.b, a, ha, b, hb, sa.b.mu sb.b, _, _, rfl, Int.mul_pos (Mt.den_pos a) (Mt.den_pos b), (sa.b.mul sb.b).mono (by decide), fun p hp => ?_⟩
    rw [Mt.rat_add]
    exact hq p _ (same_upd hp) hp upd_same
abbrev s__law_take : Stmt := top 36
theorem sc__law_take : FnScope ["_law_a", "_law_b"] ["_law_a", "_law_b"] (defScope s__law_take) := ⟨rfl, rfl, rfl, by decide +kernel, rfl, by decide +kernel, by decide +kernel⟩
theorem ok__law_take {f : Addr} {fd : FuncData} (F : Fun K "_law_take" "_law_take" s__law_take f fd) (m : mg "_law_take" = some (.ref f)) (T : Tx w K mg C_NOUGHT C_NoFraction C_NoMoments C_ONE C_TooFar) (c__law_low : Callee P w K mg base 2 "_law_low" ["_law_top", "_law_bottom"] (spLow)) : Callee P w K mg base 3 "_law_take" ["_law_a", "_law_b"] (spBin K (fun a b => a - b)) := by
  refine ⟨f, fd, ?_, m, F.kp, F.binds fun _ _ _ _ _ _ us hl => match us, hl with | [_, _], _ => rfl⟩
  refine F.okE sc__law_take (fun vs H Q E h => ?_) (fun cdv A outer s H vs Q E hr h => ?_)
  · obtain ⟨_, _, _, _, rfl, _⟩ := h
    rfl
  · obtain ⟨pa, pb, a, b, rfl, ha, hb, sa, sb, hq⟩ := h
    refine ⟨_, (pss_one (ps_ret (pe_c c__law_low (hr.mono (by decide)) np (pa_cons (pe_op op_sub (pe_op op_mulB (pe_ix ix_fq (pv 0) pe_int (fun _ _ => rfl)) (pe_ix ix_fq (pv 1) pe_int (fun _ _ => rfl))) (pe_op op_mulB (pe_ix ix_fq (pv 1) pe_int (fun _ _ => rfl)) (pe_ix ix_fq (pv 0) pe_int (fun _ _ => rfl)))) (pa_cons (pe_op op_mulB (pe_ix ix_fq (pv 0) pe_int (fun _ _ => rfl)) (pe_ix ix_fq (pv 1) pe_int (fun _ _ => rfl))) pa_nil))))), ?_⟩
    dsimp only at hq
    walk_at "rd"
    refine ⟨a, ha, b, hb, sa.t.mu sb.b, b, hb, a, ha, sb.t.mu sa.b, a, ha, b, hb, sa.b.mu sb.b, _, _, rfl, Int.mul_pos (Mt.den_pos a) (Mt.den_pos b), (sa.b.mul sb.b).mono (by decide), fun p hp => ?_⟩
    rw [Mt.rat_sub]
    exact hq p _ (same_upd hp) hp upd_same
abbrev s__law_mul : Stmt := top 37
theorem sc__law_mul : FnScope ["_law_a", "_law_b"] ["_law_a", "_law_b"] (defScope s__law_mul) := ⟨rfl, rfl, rfl, by decide +kernel, rfl, by decide +kernel, by decide +kernel⟩
theorem ok__law_mul {f : Addr} {fd : FuncData} (F : Fun K "_law_mul" "_law_mul" s__law_mul f fd) (m : mg "_law_mul" = some (.ref f)) (T : Tx w K mg C_NOUGHT C_NoFraction C_NoMoments C_ONE C_TooFar) (c__law_low : Callee P w K mg base 2 "_law_low" ["_law_top", "_law_bottom"] (spLow)) : Callee P w K mg base 3 "_law_mul" ["_law_a", "_law_b"] (spBin K (fun a b => a * b)) := by
  refine ⟨f, fd, ?_, m, F.kp, F.binds fun _ _ _ _ _ _ us hl => match us, hl with | [_, _], _ => rfl⟩
  refine F.okE sc__law_mul (fun vs H Q E h => ?_) (fun cdv A outer s H vs Q E hr h => ?_)
  · obtain ⟨_, _, _, _, rfl, _⟩ := h
    rfl
  · obtain ⟨pa, pb, a, b, rfl, ha, hb, sa, sb, hq⟩ := h
    refine ⟨_, (pss_one (ps_ret (pe_c c__law_low (hr.mono (by decide)) np (pa_cons (pe_op op_mulB (pe_ix ix_fq (pv 0) pe_int (fun _ _ => rfl)) (pe_ix ix_fq (pv 1) pe_int (fun _ _ => rfl))) (pa_cons (pe_op op_mulB (pe_ix ix_fq (pv 0) pe_int (fun _ _ => rfl)) (pe_ix ix_fq (pv 1) pe_int (fun _ _ => rfl))) pa_nil))))), ?_⟩
    dsimp only at hq
    walk_at "rd"
    refine ⟨a, ha, b, hb, sa.t.mu sb.t, a, ha, b, hb, sa.b.mu sb.b, _, _, rfl, Int.mul_pos (Mt.den_pos a) (Mt.den_pos b), (sa.b.mul sb.b).mono (by decide), fun p hp => ?_⟩
    rw [Mt.rat_mul]
    exact hq p _ (same_upd hp) hp upd_same
abbrev s__law_is_fraction : Stmt := top 38
theorem sc__law_is_fraction : FnScope ["_law_found"] ["_law_found"] (defScope s__law_is_fraction) := ⟨rfl, rfl, rfl, by decide +kernel, rfl, by decide +kernel, by decide +kernel⟩
theorem ok__law_is_fraction {f : Addr} {fd : FuncData} (F : Fun K "_law_is_fraction" "_law_is_fraction" s__law_is_fraction f fd) (m : mg "_law_is_fraction" = some (.ref f)) (T : Tx w K mg C_NOUGHT C_NoFraction C_NoMoments C_ONE C_TooFar) (c__law_divisor : Callee P w K mg base 1 "_law_divisor" ["_law_a", "_law_b"] (spGcd)) (c__law_whole : Callee P w K mg base 1 "_law_whole" ["_law_found"] (spWhole)) : Callee P w K mg base 2 "_law_is_fraction" ["_law_found"] (spIsFq K) := by
  refine ⟨f, fd, ?_, m, F.kp, F.binds fun _ _ _ _ _ _ us hl => match us, hl with | [_], _ => rfl⟩
  refine F.okE sc__law_is_fraction (fun vs H Q E h => ?_) (fun cdv A outer s H vs Q E hr h => ?_)
  · obtain ⟨_, _, rfl, _⟩ := h
    rfl
  · obtain ⟨p, q, rfl, hp, hq⟩ := h
    refine ⟨_, (pss_cons (ps_if (PW.pt (pw_or (pt_not (pt_val (pe_callB call_isiT (by rfl) T.b_isinstance (by decide +kernel) (pa_cons (pv 0) (pa_cons (pe_bltn (v := .ty "tuple") (u := .type "tuple") rfl T.b_tuple (by decide +kernel) rfl) pa_nil))))) (pw_or1 (pt_cmpR op_ne (pe_callB call_len_seq (by rfl) T.b_len PySem.boot_len (pa_cons (pv 0) pa_nil)) pe_int (nomark _))))) (pss_one (ps_ret pe_bl)) pss_nil) (pss_cons (ps_if (PW.pt (pw_or (pt_not (pt_val (pe_c c__law_whole (hr.mono (by decide)) np (pa_cons (pe_ix ix_fq (pv 0) pe_int (fun _ _ => rfl)) pa_nil)))) (pw_or (pt_not (pt_val (pe_c c__law_whole (hr.mono (by decide)) np (pa_cons (pe_ix ix_fq (pv 0) pe_int (fun _ _ => rfl)) pa_nil)))) (pw_or1 (pt_cmpR op_lt (pe_ix ix_fq (pv 0) pe_int (fun _ _ => rfl)) pe_int (nomark _)))))) (pss_one (ps_ret pe_bl)) pss_nil) (pss_one (ps_ret (pe_cmpR op_eq (pe_c c__law_divisor (hr.mono (by decide)) np (pa_cons (pe_ix ix_fq (pv 0) pe_int (fun _ _ => rfl)) (pa_cons (pe_ix ix_fq (pv 0) pe_int (fun _ _ => rfl)) pa_nil))) pe_int (nomark _)))))), ?_⟩
    have f := Mt.fr_rat q
    have e : SqT K H p [.int q.num, .int (q.den : Int)] := hp
    walk_at "rd"
    refine isi_sq e (.inr ⟨rfl, _, .inr e, .inl ⟨rfl, q, hp, q.num, rfl, .inr ⟨rfl, q, hp, (q.den : Int), rfl, .inr ⟨rfl, q, hp, ?_⟩⟩⟩⟩)
    rw [if_neg (by have := f.pos; omega)]
    refine ⟨q, hp, q, hp, _, _, rfl, rfl, ?_⟩
    rw [f.low]
    exact hq
abbrev s__law_are_fractions : Stmt := top 39
theorem sc__law_are_fractions : FnScope ["_law_found", "_law_many"] ["_law_found", "_law_many"] (defScope s__law_are_fractions) := ⟨rfl, rfl, rfl, by decide +kernel, rfl, by decide +kernel, by decide +kernel⟩
theorem ok__law_are_fractions {f : Addr} {fd : FuncData} (F : Fun K "_law_are_fractions" "_law_are_fractions" s__law_are_fractions f fd) (m : mg "_law_are_fractions" = some (.ref f)) (T : Tx w K mg C_NOUGHT C_NoFraction C_NoMoments C_ONE C_TooFar) (c__law_is_fraction : Callee P w K mg base 2 "_law_is_fraction" ["_law_found"] (spIsFq K)) : Callee P w K mg base 3 "_law_are_fractions" ["_law_found", "_law_many"] (spAreF K) := by
  refine ⟨f, fd, ?_, m, F.kp, F.binds fun _ _ _ _ _ _ us hl => match us, hl with | [_, _], _ => rfl⟩
  refine F.okE sc__law_are_fractions (fun vs H Q E h => ?_) (fun cdv A outer s H vs Q E hr h => ?_)
  · obtain ⟨_, _, rfl, _⟩ := h
    rfl
  · obtain ⟨p, f, rfl, hp, lf, hq⟩ := h
    refine ⟨_, (pss_cons (ps_if (pt_cmpR op_ne (pe_callB call_len_seq (by rfl) T.b_len PySem.boot_len (pa_cons (pv 0) pa_nil)) (pv 1) (nomark _)) (pss_one (ps_ret pe_bl)) pss_nil) (pss_one (ps_ret (pe_callB (call_all rfl) (by rfl) T.b_all (by decide +kernel) (pa_cons (PCo.pe (coT (pv 0) (fun _ hpi => pe_comp0 ["_law_one"] rfl hpi (fun _ _ _ _ _ => (pg_name (i := 0) (show List.Nodup [("_law_one" : Str)] by decide +kernel) rfl (Or.inl rfl) (Or.inr rfl)).mo) (fun _ _ _ _ _ => PE.mo (pe_c c__law_is_fraction (hr.mono (by decide)) np (pa_cons (pv 0) pa_nil)))))) pa_nil))))), ?_⟩
    obtain ⟨ys, hy, fy⟩ := id hp
    have ly := fy.len
    walk_at "rd"
    refine ⟨ys, .inr hy, .inl ⟨by omega, ys, hy, CO.pure1 (fun _ => .bl true) (by omega) (fun H' s => s.seqT hy) (fun i H' x R hi s hx kk => ?_) fun D1 H1 s1 n1 h1 => ⟨D1, rfl, List.replicate ys.length true, ?_, ?_⟩⟩⟩
    · obtain ⟨pa, ea, fa⟩ := fy.at (j := i) (by omega)
      cases ea.symm.trans hx
      walk_at "rd"
      exact ⟨pa, _, rfl, fa.same s, kk _ _ rfl (Same.refl _)⟩
    · rw [h1]
      exact congrArg (fun l => some (HO.lst l)) (List.ext_getElem (by simp) (by simp))
    · have := hq H1 s1
      simpa using this
abbrev s__law_told_weights : Stmt := top 40
theorem sc__law_told_weights : FnScope ["_law_found"] ["_law_found"] (defScope s__law_told_weights) := ⟨rfl, rfl, rfl, by decide +kernel, rfl, by decide +kernel, by decide +kernel⟩
theorem ok__law_told_weights {f : Addr} {fd : FuncData} (F : Fun K "_law_told_weights" "_law_told_weights" s__law_told_weights f fd) (m : mg "_law_told_weights" = some (.ref f)) (T : Tx w K mg C_NOUGHT C_NoFraction C_NoMoments C_ONE C_TooFar) (c__law_is_fraction : Callee P w K mg base 2 "_law_is_fraction" ["_law_found"] (spIsFq K)) : Callee P w K mg base 3 "_law_told_weights" ["_law_found"] (spTldW K) := by
  refine ⟨f, fd, ?_, m, F.kp, F.binds fun _ _ _ _ _ _ us hl => match us, hl with | [_], _ => rfl⟩
  refine F.okE sc__law_told_weights (fun vs H Q E h => ?_) (fun cdv A outer s H vs Q E hr h => ?_)
  · obtain ⟨_, _, _, _, _, rfl, _⟩ := h
    rfl
  · obtain ⟨r, a, b, L, D, rfl, hr0, hL, hD, lL, lD, hq⟩ := h
    refine ⟨_, (pss_cons (ps_if (PW.pt (pw_or (pt_not (pt_val (pe_callB call_isiT (by rfl) T.b_isinstance (by decide +kernel) (pa_cons (pv 0) (pa_cons (pe_bltn (v := .ty "tuple") (u := .type "tuple") rfl T.b_tuple (by decide +kernel) rfl) pa_nil))))) (pw_or (pt_cmpR op_ne (pe_callB call_len_seq (by rfl) T.b_len PySem.boot_len (pa_cons (pv 0) pa_nil)) pe_int (nomark _)) (pw_or1 (pt_cmpR op_ne (pe_ix ix_tup (pv 0) pe_int (fun _ _ => rfl)) pe_str (nomark _)))))) (pss_one (ps_ret pe_bl)) pss_nil) (pss_cons (ps_if (PW.pt (pw_or (pt_not (pt_val (pe_callB call_isiT (by rfl) T.b_isinstance (by decide +kernel) (pa_cons (pe_ix ix_tup (pv 0) pe_int (fun _ _ => rfl)) (pa_cons (pe_bltn (v := .ty "tuple") (u := .type "tuple") rfl T.b_tuple (by decide +kernel) rfl) pa_nil))))) (pw_or1 (pt_not (pt_val (pe_callB call_isiT (by rfl) T.b_isinstance (by decide +kernel) (pa_cons (pe_ix ix_tup (pv 0) pe_int (fun _ _ => rfl)) (pa_cons (pe_bltn (v := .ty "tuple") (u := .type "tuple") rfl T.b_tuple (by decide +kernel) rfl) pa_nil)))))))) (pss_one (ps_ret pe_bl)) pss_nil) (pss_one (ps_ret (pe_callB (call_all rfl) (by rfl) T.b_all (by decide +kernel) (pa_cons (PCo.pe (coT (pe_op op_catA (pe_ix ix_tup (pv 0) pe_int (fun _ _ => rfl)) (pe_ix ix_tup (pv 0) pe_int (fun _ _ => rfl))) (fun _ hpi => pe_comp0 ["_law_one"] rfl hpi (fun _ _ _ _ _ => (pg_name (i := 0) (show List.Nodup [("_law_one" : Str)] by decide +kernel) rfl (Or.inl rfl) (Or.inr rfl)).mo) (fun _ _ _ _ _ => PE.mo (pe_c c__law_is_fraction (hr.mono (by decide)) np (pa_cons (pv 0) pa_nil)))))) pa_nil)))))), ?_⟩
    walk_at "rd"
    have e : SqT K H r [.str "weights", .ref a, .ref b] := SqT.of hr0
    obtain ⟨us, hu, fu⟩ := id hL
    obtain ⟨vs, hv, fv⟩ := id hD
    have l1 := fu.len
    have l2 := fv.len
    refine isi_sq e (.inr ⟨rfl, _, .inr e, .inl ⟨rfl, _, e, _, rfl, rfl, .inl ⟨rfl, _, e, _, rfl, isi_sq hu (.inr ⟨rfl, _, e, _, rfl, isi_sq hv (.inr ⟨rfl, _, e, _, rfl, _, e, _, rfl, ?_⟩)⟩)⟩⟩⟩)
    refine catP hL hD (by omega) (by omega) fun z H1 s1 hz => ?_
    obtain ⟨ys, hy, fy⟩ := id hz
    have ly := fy.len
    rw [List.length_append] at ly
    refine ⟨z, rfl, ys, hy, CO.pure1 (fun _ => .bl true) (by omega) (fun H' s => s.seqT hy) (fun i H' x R hi s hx kk => ?_) fun D1 H2 s2 n2 h2 => ⟨D1, rfl, List.replicate ys.length true, ?_, ?_⟩⟩
    · obtain ⟨pa, ea, fa⟩ := fy.at (j := i) (by rw [List.length_append]; omega)
      cases ea.symm.trans hx
      walk_at "rd"
      exact ⟨pa, _, rfl, fa.same s, kk _ _ rfl (Same.refl _)⟩
    · rw [h2]
      exact congrArg (fun l => some (HO.lst l)) (List.ext_getElem (by simp) (by simp))
    · have := hq H2 (s1.trans s2)
      simpa using this
abbrev s__law_bars : Stmt := top 41
theorem sc__law_bars : FnScope ["_law_found", "_law_numbers", "_law_n", "_law_row", "_law_i", "_law_total", "_law_j"] ["_law_found", "_law_numbers"] (defScope s__law_bars) := ⟨rfl, rfl, rfl, by decide +kernel, rfl, by decide +kernel, by decide +kernel⟩
theorem ok__law_bars {f : Addr} {fd : FuncData} (F : Fun K "_law_bars" "_law_bars" s__law_bars f fd) (m : mg "_law_bars" = some (.ref f)) (T : Tx w K mg C_NOUGHT C_NoFraction C_NoMoments C_ONE C_TooFar) (c__law_add : Callee P w K mg base 3 "_law_add" ["_law_a", "_law_b"] (spBin K (fun a b => a + b))) (c__law_are_fractions : Callee P w K mg base 3 "_law_are_fractions" ["_law_found", "_law_many"] (spAreF K)) (c__law_mul : Callee P w K mg base 3 "_law_mul" ["_law_a", "_law_b"] (spBin K (fun a b => a * b))) (c__law_whole : Callee P w K mg base 1 "_law_whole" ["_law_found"] (spWhole)) : Callee P w K mg base 4 "_law_bars" ["_law_found", "_law_numbers"] (spBarsG K) := by
  refine ⟨f, fd, ?_, m, F.kp, F.binds fun _ _ _ _ _ _ us hl => match us, hl with | [_, _], _ => rfl⟩
  refine F.okE sc__law_bars (fun vs H Q E h => ?_) (fun cdv A outer s H vs Q E hr h => ?_)
  · obtain ⟨_, _, _, _, _, _, _, rfl, _⟩ := h
    rfl
  · obtain ⟨r, p, m, f, ms, n, xs, rfl, hr0, hp, hm, fm, lr, n1, n2, l16, tp, orth, lnr, lnm, hq⟩ := h
    refine ⟨_, (pss_cons (ps_if (PW.pt (pw_or (pt_not (pt_val (pe_callB call_isiT (by rfl) T.b_isinstance (by decide +kernel) (pa_cons (pv 0) (pa_cons (pe_bltn (v := .ty "tuple") (u := .type "tuple") rfl T.b_tuple (by decide +kernel) rfl) pa_nil))))) (pw_or (pt_cmpR op_ne (pe_callB call_len_seq (by rfl) T.b_len PySem.boot_len (pa_cons (pv 0) pa_nil)) pe_int (nomark _)) (pw_or (pt_cmpR op_ne (pe_ix ix_tup (pv 0) pe_int (fun _ _ => rfl)) pe_str (nomark _)) (pw_or1 (pt_not (pt_val (pe_c c__law_whole (hr.mono (by decide)) np (pa_cons (pe_ix ix_tup (pv 0) pe_int (fun _ _ => rfl)) pa_nil))))))))) (pss_one (ps_ret pe_bl)) pss_nil) (pss_cons (ps_set (i := 2) sc__law_bars.nd rfl (Or.inl rfl) (pe_ix ix_tup (pv 0) pe_int (fun _ _ => rfl))) (pss_cons (ps_set (i := 3) sc__law_bars.nd rfl (Or.inl rfl) (pe_ix ix_tup (pv 0) pe_int (fun _ _ => rfl))) (pss_cons (ps_if (PW.pt (pw_or (pt_cmpR op_lt (pv 2) pe_int (nomark _)) (pw_or (pt_cmpR op_gt (pe_op op_mul pe_int (pv 2)) (pe_callB call_len_seq (by rfl) T.b_len PySem.boot_len (pa_cons (pv 1) pa_nil)) (nomark _)) (pw_or (pt_not (pt_val (pe_callB call_isiT (by rfl) T.b_isinstance (by decide +kernel) (pa_cons (pv 3) (pa_cons (pe_bltn (v := .ty "tuple") (u := .type "tuple") rfl T.b_tuple (by decide +kernel) rfl) pa_nil))))) (pw_or1 (pt_not (pt_val (pe_c c__law_are_fractions (hr.mono (by decide)) np (pa_cons (pv 3) (pa_cons (pv 2) pa_nil)))))))))) (pss_one (ps_ret pe_bl)) pss_nil) (pss_cons (ps_forR rfl PassesOwn.never T.b_range (pv 2) (pg_name (i := 4) sc__law_bars.nd rfl (Or.inl rfl)) (pss_cons (ps_set (i := 5) sc__law_bars.nd rfl (Or.inl rfl) (pe_tup (pa_cons pe_int (pa_cons pe_int pa_nil)))) (pss_cons (ps_forR rfl PassesOwn.never T.b_range (pv 2) (pg_name (i := 6) sc__law_bars.nd rfl (Or.inl rfl)) (pss_one (ps_set (i := 5) sc__law_bars.nd rfl (Or.inl rfl) (pe_c c__law_add (hr.mono (by decide)) np (pa_cons (pv 5) (pa_cons (pe_c c__law_mul (hr.mono (by decide)) np (pa_cons (pe_ix ix_tup (pv 3) (pv 6) (fun _ _ => rfl)) (pa_cons (pe_ix ix_list (pv 1) (pe_op op_add (pv 4) (pv 6)) (fun _ _ => rfl)) pa_nil))) pa_nil)))))) (pss_one (ps_if (pt_cmpR op_ne (pe_ix ix_fq (pv 5) pe_int (fun _ _ => rfl)) pe_int (nomark _)) (pss_one (ps_ret pe_bl)) pss_nil))))) (pss_one (ps_ret (pe_cmpR (op_eqD hr.units) (pe_ix ix_tup (pv 3) (pe_un un_neg pe_int) (fun _ _ => rfl)) (pe_tup (pa_cons pe_int (pa_cons pe_int pa_nil))) (nomark _))))))))), ?_⟩
    refine tSeq_step fun N hN => ?_
    walk_at "rd"
    have e : SqT K H r [.str "barred", .int (n : Int), .ref p] := SqT.of hr0
    obtain ⟨ys, hy, fy⟩ := id hp
    have ly := fy.len
    have lx := fm.len
    refine isi_sq e (.inr ⟨rfl, _, .inr e, .inl ⟨rfl, _, e, _, rfl, rfl, .inl ⟨rfl, _, e, _, rfl, ?_⟩⟩⟩)
    refine ⟨_, rfl, .inr ⟨rfl, hN _ _ ?_⟩⟩
    clear hN N
    refine tSeq_step fun N hN => ?_
    walk_at "rd"
    refine ⟨_, e, _, rfl, hN _ _ ?_⟩
    clear hN N
    refine tSeq_step fun N hN => ?_
    walk_at "rd"
    refine ⟨_, e, _, rfl, hN _ _ ?_⟩
    clear hN N
    refine tSeq_step fun N hN => ?_
    walk_at "rd"
    rw [if_neg (by omega)]
    refine ⟨.inl ⟨by decide, by omega⟩, xs, .inl hm, ?_⟩
    rw [if_neg (by omega)]
    refine isi_sq hy (.inr ⟨rfl, p, _, by rw [lr], hp, by omega, fun H1 s1 => .inr ⟨rfl, hN _ _ ?_⟩⟩)
    clear hN N
    have orth' : ∀ i, i < n → Mt.Su (fun j => Mt.cf f j * Mt.cf (ms.drop i) j) n = 0 := fun i hi => by
      have := orth i hi
      rw [← Mt.lf_dot, Mt.dot, lr] at this
      exact this
    refine tSeq_step fun N hN => ?_
    walk_at "rd"
    refine ⟨by omega, fun _ σ H' => ∃ (r4 r5 r6 : Option V), σ = [some (.ref r), some (.ref m), some (.int (n : Int)), some (.ref p), r4, r5, r6] ∧ Same H H', ⟨none, none, none, rfl, s1⟩, ?_, ?_⟩
    · rintro i σ H2 hi ⟨r4, r5, r6, rfl, sm⟩
      refine tSeq_step fun N hN => ?_
      walk_at "rd"
      refine ⟨sz_le 2 (by decide), fun p0 n0 => hN _ _ ?_⟩
      clear hN N
      have u0 := same_upd (o := .tup [.int 0, .int 1]) n0
      have q0 : Fq K (upd H2 p0 (.tup [.int 0, .int 1])) p0 0 := Fq.of upd_same
      generalize upd H2 p0 (.tup [.int 0, .int 1]) = H3 at u0 q0 ⊢
      refine tSeq_step fun N hN => ?_
      walk_at "rd"
      refine ⟨by omega, fun j σ H' => ∃ (tt : Addr) (r6 : Option V), σ = [some (.ref r), some (.ref m), some (.int (n : Int)), some (.ref p), some (.int i), some (.ref tt), r6] ∧ Same H H' ∧ Fq K H' tt (Mt.Su (fun j => Mt.cf f j * Mt.cf (ms.drop i) j) j), ⟨p0, r6, rfl, sm.trans u0, q0⟩, ?_, ?_⟩
      · rintro j σ H4 hj ⟨tt, r6, rfl, s4, qt⟩
        obtain ⟨pa, ea, fa⟩ := fy.at (j := j) (by omega)
        obtain ⟨pb, eb, fb⟩ := fm.at (j := i + j) (by omega)
        have ab := atI_nat eb
        rw [show ((i + j : Nat) : Int) = (i : Int) + (j : Int) by omega] at ab
        have ed : Mt.cf ms (i + j) = Mt.cf (ms.drop i) j := by rw [Mt.cf_drop, Nat.add_comm]
        rw [ed] at fb
        walk_at "rd"
        refine ⟨ys, s4.seqT hy, _, atI_nat ea, xs, s4.seq hm, _, ab, pa, pb, _, _, rfl, fa.same s4, fb.same s4, (Ln.sz lnr j).mono (by decide), (Ln.sz (lnm i) j).mono (by decide), fun r1 H5 s5 n5 h5 => ⟨tt, r1, _, _, rfl, qt.same s5, Fq.of h5, (Ln.dot lnr (lnm i) (by omega)).mono (by decide), ((Ln.sz lnr j).mul (Ln.sz (lnm i) j)).mono (by decide), fun r2 H6 s6 n6 h6 => ?_⟩⟩
        exact ⟨r2, rfl, (s4.trans s5).trans s6, Fq.of h6⟩
      · rintro σ H4 ⟨tt, r6, rfl, s4, qt⟩
        refine hN _ _ ?_
        clear hN N
        rw [orth' i hi] at qt
        walk_at "rd"
        refine ⟨0, qt, ?_⟩
        exact .inl ⟨rfl, s4⟩
    · rintro σ H2 ⟨r4, r5, r6, rfl, sm⟩
      refine hN _ _ ?_
      clear hN N
      obtain ⟨pe, ee, qe⟩ := fy.at (j := n - 1) (by omega)
      rw [tp] at qe
      have ee2 : ys[ys.length - 1]? = some (.ref pe) := by rw [show ys.length - 1 = n - 1 by omega]; exact ee
      walk_at "rd"
      refine ⟨ys, sm.seqT hy, _, atI_end ee2, sz_le 2 (by decide), fun p3 n3 => ?_⟩
      have u3 := same_upd (o := .tup [.int 1, .int 1]) n3
      exact fr_cmp (rep_fr ((qe.same sm).same u3)) (rep_fr (Fq.of (q := 1) upd_same)) (by simpa using hq _ (sm.trans u3))
abbrev s__law_spots : Stmt := top 42
theorem sc__law_spots : FnScope ["_law_script", "_law_many", "_law_bottom", "_law_found", "_law_k", "_law_spot"] ["_law_script", "_law_many", "_law_bottom"] (defScope s__law_spots) := ⟨rfl, rfl, rfl, by decide +kernel, rfl, by decide +kernel, by decide +kernel⟩
theorem ok__law_spots {f : Addr} {fd : FuncData} (F : Fun K "_law_spots" "_law_spots" s__law_spots f fd) (m : mg "_law_spots" = some (.ref f)) (T : Tx w K mg C_NOUGHT C_NoFraction C_NoMoments C_ONE C_TooFar) (c__law_add : Callee P w K mg base 3 "_law_add" ["_law_a", "_law_b"] (spBin K (fun a b => a + b))) (c__law_drawn : Callee P w K mg base 2 "_law_drawn" ["_law_script", "_law_k"] (spDrawn K)) (c__law_low : Callee P w K mg base 2 "_law_low" ["_law_top", "_law_bottom"] (spLow)) : Callee P w K mg base 4 "_law_spots" ["_law_script", "_law_many", "_law_bottom"] (spSpots K) := by
  refine ⟨f, fd, ?_, m, F.kp, F.binds fun _ _ _ _ _ _ us hl => match us, hl with | [_, _, _], _ => rfl⟩
  refine F.okE sc__law_spots (fun vs H Q E h => ?_) (fun cdv A outer s H vs Q E hr h => ?_)
  · obtain ⟨_, _, _, _, rfl, _⟩ := h
    rfl
  · obtain ⟨a, ns, m, b, rfl, hs, hm, b1, b5, hq⟩ := h
    refine ⟨_, (pss_cons (ps_set (i := 3) sc__law_spots.nd rfl (Or.inl rfl) (pe_lst pa_nil)) (pss_cons (ps_forR rfl PassesOwn.never T.b_range (pv 1) (pg_name (i := 4) sc__law_spots.nd rfl (Or.inl rfl)) (pss_cons (ps_set (i := 5) sc__law_spots.nd rfl (Or.inl rfl) (pe_c c__law_low (hr.mono (by decide)) np (pa_cons (pe_op op_sub (pe_op op_mod (pe_c c__law_drawn (hr.mono (by decide)) np (pa_cons (pv 0) (pa_cons (pe_op op_add pe_int (pv 4)) pa_nil))) pe_int) pe_int) (pa_cons (pv 2) pa_nil)))) (pss_cons (ps_wh PassesOwn.never (pt_cmpR (op_inF hr.units) (pv 5) (pv 3) rfl) (pss_one (ps_set (i := 5) sc__law_spots.nd rfl (Or.inl rfl) (pe_c c__law_add (hr.mono (by decide)) np (pa_cons (pv 5) (pa_cons (pe_tup (pa_cons pe_int (pa_cons (pv 2) pa_nil))) pa_nil)))))) (pss_one (ps_expr (pe_bm PySem.F.plainAttrs_list PySem.F.slot_list_append PySem.F.type_list_append mt_append (pv 3) (pa_cons (pv 5) pa_nil))))))) (pss_one (ps_ret (pv 3))))), ?_⟩
    refine tSeq_step fun N hN => ?_
    walk_at "rd"
    refine fun S nS => hN _ _ ?_
    clear hN N
    have u1 := same_upd (o := .lst []) nS
    have hS0 : upd H S (.lst []) S = some (.lst []) := upd_same
    generalize upd H S (.lst []) = H1 at u1 hS0 ⊢
    refine tSeq_step fun N hN => ?_
    walk_at "rd"
    obtain ⟨F, eF⟩ : ∃ F : Int → Rat, F = fun y => Rat.divInt y b := ⟨_, rfl⟩
    have Fl : ∀ y : Int, Rat.divInt y (b : Int) = F y := fun y => by rw [eF]
    have Fe : ∀ y, F y * (((b : Nat) : Int) : Rat) = (y : Rat) := fun y => by
      rw [eF]
      have hb : (((b : Nat) : Int) : Rat) ≠ 0 := fun z => by
        have : (b : Int) = 0 := by exact_mod_cast z
        omega
      show Rat.divInt y b * _ = _
      rw [Rat.divInt_eq_div]
      grind
    have Fi : ∀ x y, F x = F y → x = y := fun x y e => by
      have h1 := Fe x
      rw [e, Fe y] at h1
      exact_mod_cast h1.symm
    have Fa : ∀ y, F y + F 19 = F (y + 19) := fun y => by
      have hb : (((b : Nat) : Int) : Rat) ≠ 0 := fun z => by
        have : (b : Int) = 0 := by exact_mod_cast z
        omega
      have h1 := Fe y
      have h2 := Fe 19
      have h3 := Fe (y + 19)
      rw [Rat.intCast_add, ← h1, ← h2] at h3
      generalize (((b : Nat) : Int) : Rat) = x at *
      grind
    have F19 : HO.tup [V.int 19, V.int (b : Int)] = frO (F 19) := by
      have : (Rat.divInt 19 (b : Int)).num = 19 ∧ ((Rat.divInt 19 (b : Int)).den : Int) = b := by
        have : b = 1 ∨ b = 2 ∨ b = 3 ∨ b = 4 ∨ b = 5 := by omega
        rcases this with rfl | rfl | rfl | rfl | rfl <;> decide +kernel
      rw [eF, frO, this.1, this.2]
    have Fz : ∀ y : Int, y.natAbs ≤ 200 → Sz 20 (F y) := fun y hy => by
      rw [eF]
      exact Sz.low (by omega) (show (_ : Nat) < _ by omega) (show (_ : Nat) < _ by omega)
    simp only [Fl] at hq
    refine ⟨by omega, fun i σ H' => ∃ (r4 r5 : Option V) (xs : List V) (ys : List Int), σ = [some (.ref a), some (.int m), some (.int b), some (.ref S), r4, r5] ∧ Same H H' ∧ H' S = some (.lst xs) ∧ Frs K H' (ys.map F) xs ∧ ys.length = i ∧ (∀ y ∈ ys, -9 ≤ y ∧ y ≤ 9 + 19 * ((i : Int) - 1)) ∧ ys.Nodup, ⟨none, none, [], [], rfl, u1, hS0, Frs.nil, rfl, (fun y hy => nomatch hy), List.nodup_nil⟩, ?_, ?_⟩
    · rintro i σ H2 hi ⟨r4, r5, xs, ys, rfl, s2, hS, fS, ly, by_, nd⟩
      refine tSeq_step fun N hN => ?_
      walk_at "rd"
      refine ⟨a, ns, 1 + i, rfl, s2.seq hs, by omega, by omega, fun d d0 d1 => ⟨d, rfl, _, _, rfl, by omega, Bd.mono (m := 64) (show (_ : Nat) < _ by omega) (by decide), fun p np => hN _ _ ?_⟩⟩
      clear hN N
      rw [Fl]
      have u2 := same_upd (o := frO (F (d % 19 - 9))) np
      have hp0 : upd H2 p (frO (F (d % 19 - 9))) p = some (frO (F (d % 19 - 9))) := upd_same
      generalize upd H2 p (frO (F (d % 19 - 9))) = H3 at u2 hp0 ⊢
      have hy0 : -9 ≤ d % 19 - 9 ∧ d % 19 - 9 ≤ 9 := by omega
      generalize d % 19 - 9 = y0 at hp0 hy0
      have lx := fS.len
      rw [List.length_map] at lx
      refine tSeq_step fun N hN => ?_
      walk_at "rd"
      have Fd : ∀ y, (F y).num * (b : Int) / ((F y).den : Int) = y := fun y => by
        have h1 := Fe y
        have d0 : ((F y).den : Int) ≠ 0 := by have := (F y).den_pos; omega
        have h2 : (F y).num * (b : Int) = y * ((F y).den : Int) := by
          have e := rat_back (F y)
          have : (((F y).num * (b : Int) : Int) : Rat) = ((y * ((F y).den : Int) : Int) : Rat) := by
            rw [Rat.intCast_mul, Rat.intCast_mul, ← e, ← h1]; grind
          exact_mod_cast this
        rw [h2, Int.mul_ediv_cancel _ d0]
      refine ⟨fun σ H' => ∃ (p : Addr) (y : Int), σ = [some (.ref a), some (.int m), some (.int b), some (.ref S), some (.int i), some (.ref p)] ∧ Same H2 H' ∧ H' p = some (frO (F y)) ∧ -9 ≤ y ∧ y ≤ 9 + 19 * (i : Int), fun σ H' => match σ with | [_, _, _, _, _, some (.ref p)] => (match H' p with | some (.tup [.int n, .int d]) => (300 - n * (b : Int) / d).toNat | _ => 0) | _ => 0, ⟨p, y0, rfl, u2, hp0, by omega, by omega⟩, ?_⟩
      rintro σ H4 ⟨p', y, rfl, s4, hp', y1, y2⟩
      have q4 : Fq K H4 p' (F y) := Fq.of hp'
      walk_at "rd"
      refine ⟨p', S, xs, _, F y, rfl, rfl, SqL.of (s4 _ _ hS), fS.same s4, q4, ?_⟩
      by_cases z : F y ∈ ys.map F
      · refine .inr ⟨by rw [if_neg (by decide), decide_eq_true z], sz_le 2 (by decide), fun p5 n5 => ?_⟩
        have yin : y ∈ ys := by
          obtain ⟨x, hx, e⟩ := List.mem_map.mp z
          rw [Fi _ _ e] at hx
          exact hx
        have yb := by_ y yin
        rw [F19]
        have u5 := same_upd (o := frO (F 19)) n5
        refine ⟨p', p5, F y, F 19, rfl, q4.same u5, Fq.of upd_same, (Fz y (by omega)).mono (by decide), (Fz 19 (by decide)).mono (by decide), fun r H5 s5 n5' h5 => ?_⟩
        have h5' : H5 r = some (frO (F (y + 19))) := by rw [← Fa]; exact h5
        refine ⟨⟨r, rfl, (s4.trans u5).trans s5, y + 19, h5', by omega, by omega⟩, ?_⟩
        simp only [h5', hp', frO, Fd]
        omega
      · refine .inl ⟨by rw [if_neg (by decide), decide_eq_false z], hN _ _ ?_⟩
        clear hN N
        have hS4 := s4 _ _ hS
        walk_at "rd"
        refine ⟨.inl ⟨rfl, _, SqL.of hS4⟩, xs, hS4, small1000 (by omega), (s2.trans s4).updL nS, _, upd_same, ys ++ [y], ?_, by simp [ly], fun x hx => ?_, ?_⟩
        · rw [List.map_append]
          exact Frs.updL hS4 (Frs.snoc (fS.same s4) q4)
        · rcases List.mem_append.mp hx with w | w
          · have := by_ x w
            omega
          · rw [List.mem_singleton.mp w]
            omega
        · rw [List.nodup_append]
          refine ⟨nd, by simp, fun x hx w hw e => ?_⟩
          rw [List.mem_singleton.mp hw] at e
          rw [e] at hx
          exact z (List.mem_map_of_mem hx)
    · rintro σ H2 ⟨r4, r5, xs, ys, rfl, s2, hS, fS, ly, by_, nd⟩
      refine hN _ _ ?_
      clear hN N
      walk_at "rd"
      refine hq S H2 xs ys s2 nS hS fS ly (fun y hy => by have := by_ y hy; omega) ?_
      rw [List.nodup_iff_pairwise_ne] at nd ⊢
      exact List.pairwise_map.mpr (nd.imp fun h e => h (Fi _ _ e))
abbrev s_law : Stmt := top 43
theorem sc_law : FnScope ["_law_script", "_law_c", "_law_many", "_law_k", "_law_spots_here", "_law_parts", "_law_shares", "_law_numbers", "_law_powers", "_law_n", "_law_total", "_law_power", "_law_handed", "_law_found", "_law_due", "_law_spot", "_law_longer", "_law_at"] ["_law_script"] (defScope s_law) := ⟨rfl, rfl, rfl, by decide +kernel, rfl, by decide +kernel, by decide +kernel⟩
theorem fn_law {f : Addr} {fd : FuncData} (F : Fun K "law" "law" s_law f fd) (T : Tx w K mg C_NOUGHT C_NoFraction C_NoMoments C_ONE C_TooFar) (c__law_add : Callee P w K mg base 3 "_law_add" ["_law_a", "_law_b"] (spBin K (fun a b => a + b))) (c__law_bars : Callee P w K mg base 4 "_law_bars" ["_law_found", "_law_numbers"] (spBarsG K)) (c__law_drawn : Callee P w K mg base 2 "_law_drawn" ["_law_script", "_law_k"] (spDrawn K)) (c__law_low : Callee P w K mg base 2 "_law_low" ["_law_top", "_law_bottom"] (spLow)) (c__law_mul : Callee P w K mg base 3 "_law_mul" ["_law_a", "_law_b"] (spBin K (fun a b => a * b))) (c__law_spots : Callee P w K mg base 4 "_law_spots" ["_law_script", "_law_many", "_law_bottom"] (spSpots K)) (c__law_take : Callee P w K mg base 3 "_law_take" ["_law_a", "_law_b"] (spBin K (fun a b => a - b))) (c__law_told_weights : Callee P w K mg base 3 "_law_told_weights" ["_law_found"] (spTldW K)) (c_weights_back : Callee P w K mg base 6 "weights_back" ["moments"] (spBackG K)) : FnOk P w K mg base (CXe P w) 7 f fd ["_law_script"] (spLaw K) := by
  refine F.okE sc_law (fun vs H Q E h => ?_) (fun cdv A outer s H vs Q E hr h => ?_)
  · obtain ⟨_, _, rfl, _⟩ := h
    rfl
  · obtain ⟨sa, ns, rfl, hs, hlen, hq⟩ := h
    refine ⟨_, (pss_cons (ps_set (i := 1) sc_law.nd rfl (Or.inl rfl) (pe_c c__law_drawn (hr.mono (by decide)) np (pa_cons (pv 0) (pa_cons pe_int pa_nil)))) (pss_cons (ps_set (i := 2) sc_law.nd rfl (Or.inl rfl) (pe_op op_add pe_int (pe_op op_mod (pv 1) pe_int))) (pss_cons (ps_set (i := 3) sc_law.nd rfl (Or.inl rfl) (pe_op op_mod (pe_op op_fdivB (pv 1) pe_int) pe_int)) (pss_cons (ps_set (i := 4) sc_law.nd rfl (Or.inl rfl) (pe_c c__law_spots (hr.mono (by decide)) np (pa_cons (pv 0) (pa_cons (pv 2) (pa_cons (pe_op op_add pe_int (pe_op op_mod (pe_op op_fdivB (pv 1) pe_int) pe_int)) pa_nil))))) (pss_cons (ps_set (i := 5) sc_law.nd rfl (Or.inr rfl) (PCo.pe (coR T.b_range (pv 2) (fun _ hpi => pe_comp1 ["_law_at"] "_law_script" 0 rfl hpi (fun _ _ _ _ _ => (pg_name (i := 0) (show List.Nodup [("_law_at" : Str), ("_law_script" : Str)] by decide +kernel) rfl (Or.inl rfl) (Or.inr rfl)).mo) (fun _ _ _ _ _ => PE.mo (pe_op op_add pe_int (pe_op op_mod (pe_c c__law_drawn (hr.mono (by decide)) np (pa_cons (pv 1) (pa_cons (pe_op op_add pe_int (pv 0)) pa_nil))) pe_int))) rfl rfl rfl rfl rfl)))) (pss_cons (PCo.ps (i := 6) (coL (pv 5) (fun _ hpi => pe_comp1 ["_law_part"] "_law_parts" 5 rfl hpi (fun _ _ _ _ _ => (pg_name (i := 0) (show List.Nodup [("_law_part" : Str), ("_law_parts" : Str)] by decide +kernel) rfl (Or.inl rfl) (Or.inr rfl)).mo) (fun _ _ _ _ _ => PE.mo (pe_c c__law_low (hr.mono (by decide)) np (pa_cons (pv 0) (pa_cons (pe_callB (show CallR _ (.builtin "sum") (fun xs H Q => ∃ p, ∃ ns : List Int, xs = [.ref p] ∧ SqL K H p (ns.map V.int) ∧ Q (.int ns.sum) H) from (call_sum rfl)) (by rfl) T.b_sum (by decide +kernel) (pa_cons (pv 1) pa_nil)) pa_nil)))) rfl rfl rfl rfl rfl)) sc_law.nd rfl (Or.inl rfl)) (pss_cons (ps_set (i := 7) sc_law.nd rfl (Or.inl rfl) (pe_lst pa_nil)) (pss_cons (ps_set (i := 8) sc_law.nd rfl (Or.inl rfl) (pe_callTy call_list_of (by rfl) T.b_list (by decide +kernel) (pa_cons (pv 6) pa_nil))) (pss_cons (ps_forR rfl PassesOwn.never T.b_range (pe_op op_add (pe_op op_mul pe_int (pv 3)) pe_int) (pg_name (i := 9) sc_law.nd rfl (Or.inl rfl)) (pss_cons (ps_set (i := 10) sc_law.nd rfl (Or.inl rfl) (pe_tup (pa_cons pe_int (pa_cons pe_int pa_nil)))) (pss_cons (ps_forL rfl PassesOwn.never (pv 8) (pg_name (i := 11) sc_law.nd rfl (Or.inl rfl)) (pss_one (ps_set (i := 10) sc_law.nd rfl (Or.inl rfl) (pe_c c__law_add (hr.mono (by decide)) np (pa_cons (pv 10) (pa_cons (pv 11) pa_nil)))))) (pss_cons (ps_expr (pe_bm PySem.F.plainAttrs_list PySem.F.slot_list_append PySem.F.type_list_append mt_append (pv 7) (pa_cons (pv 10) pa_nil))) (pss_one (PCo.ps (i := 8) (coZL T.b_zip (pv 8) (pv 4) (fun _ hpi => pe_comp0 ["_law_power", "_law_spot"] rfl hpi (fun _ _ _ _ _ => PG.mo (show PG _ _ (gTup K 2 (gCons (gName 0) (gCons (gName 1) gNil))) from (pg_tup rfl (pgs_cons (pg_name (i := 0) (show List.Nodup [("_law_power" : Str), ("_law_spot" : Str)] by decide +kernel) rfl (Or.inl rfl) (Or.inr rfl)) (pgs_cons (pg_name (i := 1) (show List.Nodup [("_law_power" : Str), ("_law_spot" : Str)] by decide +kernel) rfl (Or.inl rfl) (Or.inr rfl)) pgs_nil))))) (fun _ _ _ _ _ => PE.mo (pe_c c__law_mul (hr.mono (by decide)) np (pa_cons (pv 0) (pa_cons (pv 1) pa_nil)))))) sc_law.nd rfl (Or.inl rfl))))))) (pss_cons (ps_set (i := 12) sc_law.nd rfl (Or.inl rfl) (pe_callTy call_list_of (by rfl) T.b_list (by decide +kernel) (pa_cons (pv 7) pa_nil))) (pss_cons (ps_set (i := 13) sc_law.nd rfl (Or.inl rfl) (pe_c c_weights_back (hr.mono (by decide)) np (pa_cons (pv 12) pa_nil))) (pss_cons (ps_if (pt_cmpR (op_neD hr.units) (pv 12) (pv 7) (nomark _)) (pss_one (ps_ret pe_bl)) pss_nil) (pss_cons (ps_if (pt_cmpR op_gt (pv 2) (pv 3) (nomark _)) (pss_one (ps_ret (pe_and (pe_c c__law_told_weights (hr.mono (by decide)) np (pa_cons (pv 13) pa_nil)) (pe_and (pe_cmpR op_eq (pe_callB call_len_seq (by rfl) T.b_len PySem.boot_len (pa_cons (pe_ix ix_tup (pv 13) pe_int (fun _ _ => rfl)) pa_nil)) (pe_op op_add (pv 3) pe_int) (nomark _)) (pe_and (pe_cmpR op_eq (pe_callB call_len_seq (by rfl) T.b_len PySem.boot_len (pa_cons (pe_ix ix_tup (pv 13) pe_int (fun _ _ => rfl)) pa_nil)) (pv 3) (nomark _)) (pe_one (pe_cmpR (op_notInFT hr.units) (pe_tup (pa_cons pe_int (pa_cons pe_int pa_nil))) (pe_ix ix_tup (pv 13) pe_int (fun _ _ => rfl)) rfl))))))) pss_nil) (pss_cons (ps_set (i := 14) sc_law.nd rfl (Or.inl rfl) (pe_lst (pa_cons (pe_tup (pa_cons pe_int (pa_cons pe_int pa_nil))) pa_nil))) (pss_cons (ps_forL rfl PassesOwn.never (pv 4) (pg_name (i := 15) sc_law.nd rfl (Or.inl rfl)) (pss_cons (ps_set (i := 16) sc_law.nd rfl (Or.inl rfl) (pe_op op_cat (pe_lst (pa_cons (pe_tup (pa_cons pe_int (pa_cons pe_int pa_nil))) pa_nil)) (pv 14))) (pss_cons (ps_forR rfl PassesOwn.never T.b_range (pe_callB call_len_seq (by rfl) T.b_len PySem.boot_len (pa_cons (pv 14) pa_nil)) (pg_name (i := 17) sc_law.nd rfl (Or.inl rfl)) (pss_one (ps_asg (pe_c c__law_take (hr.mono (by decide)) np (pa_cons (pe_ix ix_list (pv 16) (pv 17) (fun _ _ => rfl)) (pa_cons (pe_c c__law_mul (hr.mono (by decide)) np (pa_cons (pv 15) (pa_cons (pe_ix ix_list (pv 14) (pv 17) (fun _ _ => rfl)) pa_nil))) pa_nil))) (pg_sub (pv 16) (pv 17) set_list)))) (pss_one (ps_set (i := 14) sc_law.nd rfl (Or.inl rfl) (pv 16)))))) (pss_one (ps_ret (pe_and (pe_c c__law_bars (hr.mono (by decide)) np (pa_cons (pv 13) (pa_cons (pv 7) pa_nil))) (pe_and (pe_cmpR op_eq (pe_ix ix_tup (pv 13) pe_int (fun _ _ => rfl)) (pe_op op_add (pv 2) pe_int) (nomark _)) (pe_one (pe_cmpR (op_eqD hr.units) (pe_ix ix_tup (pv 13) pe_int (fun _ _ => rfl)) (pe_callTy call_tuple_of (by rfl) T.b_tuple (by decide +kernel) (pa_cons (pv 14) pa_nil)) (nomark _)))))))))))))))))))))), ?_⟩
    refine tSeq_step fun N hN => ?_
    walk_at "rd"
    have dv : ∀ i j : Int, 0 < j → j ≤ 5000000 → CDivB i j := fun i j h1 h2 => ⟨by omega, Bd.mono (m := 64) (show (_ : Nat) < _ by omega) (by decide)⟩
    have cm : ∀ q : Int, 0 ≤ q → ∃ n : Nat, q = (n : Int) := fun q h => ⟨q.toNat, by omega⟩
    refine ⟨sa, ns, 0, rfl, hs, by omega, by omega, fun c c0 c1 => hN _ _ ?_⟩
    clear hN N
    refine tSeq_step fun N hN => ?_
    walk_at "rd"
    obtain ⟨m, em⟩ := cm (1 + c % 7) (by omega)
    have hm : 1 ≤ m ∧ m ≤ 7 := by omega
    rw [em]
    clear em
    refine hN _ _ ?_
    clear hN N
    refine tSeq_step fun N hN => ?_
    walk_at "rd"
    obtain ⟨k, ek⟩ := cm (c.fdiv 7 % 8) (by omega)
    have hk : k ≤ 7 := by omega
    rw [ek]
    clear ek
    refine ⟨dv _ _ (by decide) (by decide), hN _ _ ?_⟩
    clear hN N
    refine tSeq_step fun N hN => ?_
    walk_at "rd"
    obtain ⟨b, eb⟩ := cm (1 + c.fdiv 56 % 5) (by omega)
    have hb : 1 ≤ b ∧ b ≤ 5 := by omega
    rw [eb]
    clear eb
    refine ⟨dv _ _ (by decide) (by decide), sa, ns, m, b, rfl, hs, by omega, by omega, by omega, fun S H1 xs ys s1 nS hS fS ly by_ nd => hN _ _ ?_⟩
    clear hN N
    refine tSeq_step fun N hN => ?_
    walk_at "rd"
    refine ⟨by omega, CO.els (fun i _ x => ∃ w : Int, x = .int w ∧ 1 ≤ w ∧ w ≤ 6) (fun _ _ _ _ _ z => z) (fun _ _ _ _ _ _ _ z => z) (by omega) (fun _ _ => trivial) (fun i H' x R hi sm hx kk => ?_) fun PT H2 ps s2 nP hP lp hps => hN _ _ ?_⟩
    · subst hx
      walk_at "rd"
      exact ⟨sa, ns, 9 + i, rfl, (s1.trans sm).seq hs, by omega, by omega, fun d d0 d1 => ⟨d, rfl, kk _ _ (Same.refl _) ⟨_, rfl, by omega, by omega⟩⟩⟩
    clear hN N
    obtain ⟨ws, rfl, hw⟩ := ints_of hps
    rw [List.length_map] at lp
    clear hps
    obtain ⟨T0, eT⟩ : ∃ T0 : Int, T0 = ws.sum := ⟨_, rfl⟩
    have hT : 1 ≤ T0 ∧ T0 ≤ 42 := by have := sum_le hw; omega
    refine tSeq_step fun N hN => ?_
    walk_at "rd"
    obtain ⟨W, eW⟩ : ∃ W : Nat → Rat, W = fun t => Rat.divInt (ws.getD t 0) T0 := ⟨_, rfl⟩
    obtain ⟨X, eX⟩ : ∃ X : Nat → Rat, X = fun t => Rat.divInt (ys.getD t 0) b := ⟨_, rfl⟩
    have Wv : ∀ t (ht : t < ws.length), W t = Rat.divInt ws[t] T0 := fun t ht => by
      rw [eW]
      show Rat.divInt (ws.getD t 0) T0 = _
      rw [List.getD_eq_getElem?_getD, List.getElem?_eq_getElem ht]
      rfl
    have Xv : ∀ t (ht : t < ys.length), X t = Rat.divInt ys[t] b := fun t ht => by
      rw [eX]
      show Rat.divInt (ys.getD t 0) b = _
      rw [List.getD_eq_getElem?_getD, List.getElem?_eq_getElem ht]
      rfl
    refine ⟨_, SqL.of hP, CO.frs (K := K) W (by simp; omega) (fun H' s => s.seq (SqL.of hP)) (fun i H' x R hi sm hx kk => ?_) fun SH H3 hs3 s3 nSH hSH fSH => hN _ _ ?_⟩
    · have hi' : i < ws.length := by simpa using hi
      rw [List.getElem?_map, List.getElem?_eq_getElem hi'] at hx
      obtain rfl : V.int ws[i] = x := by simpa using hx
      walk_at "rd"
      refine ⟨ws, sm.seq (SqL.of hP), _, _, rfl, by omega, Bd.mono (m := 64) (show (_ : Nat) < _ by omega) (by decide), fun p np => ?_⟩
      refine kk p _ (same_upd np) (Fq.of ?_)
      rw [upd_same, Wv i hi', eT]
    clear hN N
    rw [List.length_map, lp] at fSH
    have eXL : (ys.map fun y => Rat.divInt y b) = (List.range m).map X := by
      refine List.ext_getElem (by simp [ly]) fun j h1 h2 => ?_
      have hj : j < ys.length := by simpa using h1
      rw [List.getElem_map, List.getElem_map, List.getElem_range, Xv j hj]
    rw [eXL] at fS nd
    have fS3 : Frs K H3 ((List.range m).map X) xs := fS.same (s2.trans s3)
    have hS3 := (s2.trans s3) _ _ hS
    refine tSeq_step fun N hN => ?_
    walk_at "rd"
    refine fun NU nN => hN _ _ ?_
    clear hN N
    have v1 := same_upd (o := .lst []) nN
    have hN0 : upd H3 NU (.lst []) NU = some (.lst []) := upd_same
    have nSN : S ≠ NU := ne_of_none hS3 nN
    generalize upd H3 NU (.lst []) = H4 at v1 hN0 ⊢
    refine tSeq_step fun N hN => ?_
    walk_at "rd"
    refine ⟨hs3, .inl (SqL.of (v1 _ _ hSH)), fun P0 nP0 => hN _ _ ?_⟩
    clear hN N
    have v2 := same_upd (o := .lst hs3) nP0
    have hP0 : upd H4 P0 (.lst hs3) P0 = some (.lst hs3) := upd_same
    have nNP : NU ≠ P0 := ne_of_none hN0 nP0
    generalize upd H4 P0 (.lst hs3) = H5 at v2 hP0 ⊢
    have v12 := v1.trans v2
    have s5 : Same H H5 := ((s1.trans s2).trans s3).trans v12
    have nN0 : H NU = none := ((s1.trans s2).trans s3).free nN
    have hS5 := v12 _ _ hS3
    have fS5 := fS3.same v12
    have hN5 := v2 _ _ hN0
    have fP5 := fSH.same v12
    clear v1 v2 v12 s3 s2 s1 hN0 hSH fSH hS3 fS3 hS fS hP nP0
    have Wz : ∀ t, t < m → Sz 10 (W t) := fun t ht => by
      rw [Wv t (by omega)]
      have := hw _ (List.getElem_mem (show t < ws.length by omega))
      exact Sz.low (by omega) (show (_ : Nat) < _ by omega) (show (_ : Nat) < _ by omega)
    have Xz : ∀ t, t < m → Sz 7 (X t) := fun t ht => by
      rw [Xv t (by omega)]
      have := by_ _ (List.getElem_mem (show t < ys.length by omega))
      exact Sz.low (by omega) (show (_ : Nat) < _ by omega) (show (_ : Nat) < _ by omega)
    have Pz : ∀ n t, t < m → Sz (7 * n + 1) (Mt.pw (X t) n) := fun n t ht => by
      induction n with
      | zero => rw [Mt.pw]; exact ⟨by show (_ : Nat) < _; decide, by show (_ : Nat) < _; decide⟩
      | succ n ih => rw [Mt.pw]; exact (ih.mul (Xz t ht)).mono (by omega)
    have Tz : ∀ n t, n ≤ 16 → t < m → Sz 130 (W t * Mt.pw (X t) n) := fun n t hn ht => ((Wz t ht).mul (Pz n t ht)).mono (by omega)
    have Sz_ : ∀ n, n ≤ 16 → ∀ j, j ≤ m → Sz (131 * j + 1) (Mt.Su (fun t => W t * Mt.pw (X t) n) j) := fun n hn j hj => by
      induction j with
      | zero => exact Sz.zero (by decide)
      | succ j ih => rw [Mt.Su]; exact ((ih (by omega)).add (Tz n j hn (by omega))).mono (by omega)
    refine tSeq_step fun N hN => ?_
    walk_at "rd"
    obtain ⟨mu, emu⟩ : ∃ mu : Nat → Rat, mu = fun n => Mt.Su (fun t => W t * Mt.pw (X t) n) m := ⟨_, rfl⟩
    have fP0 : Frs K H5 ((List.range m).map fun t => W t * Mt.pw (X t) 0) hs3 := by
      have e : ((List.range m).map fun t => W t * Mt.pw (X t) 0) = (List.range m).map W := List.map_congr_left fun t _ => by rw [Mt.pw, Rat.mul_one]
      rw [e]
      exact fP5
    have e2k : (2 * (k : Int) + 2).toNat = 2 * k + 2 := by omega
    rw [e2k]
    refine ⟨.inl ⟨by decide, by decide⟩, by omega, by omega, fun n σ H' => ∃ (PA : Addr) (r9 r10 r11 : Option V) (zs ps : List V), σ = [some (.ref sa), some (.int c), some (.int m), some (.int k), some (.ref S), some (.ref PT), some (.ref SH), some (.ref NU), some (.ref PA), r9, r10, r11, none, none, none, none, none, none] ∧ Same H H' ∧ H' S = some (.lst xs) ∧ Frs K H' ((List.range m).map X) xs ∧ H' NU = some (.lst zs) ∧ Frs K H' ((List.range n).map mu) zs ∧ NU ≠ PA ∧ H' PA = some (.lst ps) ∧ Frs K H' ((List.range m).map fun t => W t * Mt.pw (X t) n) ps, ⟨P0, none, none, none, [], hs3, rfl, s5, hS5, fS5, hN5, Frs.nil, nNP, hP0, fP0⟩, ?_, ?_⟩
    · rintro n σ H6 hn ⟨PA, r9, r10, r11, zs, ps, rfl, s6, hS6, fS6, hN6, fN6, nNA, hA6, fA6⟩
      have lz := fN6.len
      have lps := fA6.len
      have lxs := fS6.len
      rw [List.length_map, List.length_range] at lz lps lxs
      refine tSeq_step fun N hN => ?_
      walk_at "rd"
      refine ⟨sz_le 2 (by decide), fun p1 n1 => hN _ _ ?_⟩
      clear hN N
      have u1 := same_upd (o := .tup [.int 0, .int 1]) n1
      have q1 : Fq K (upd H6 p1 (.tup [.int 0, .int 1])) p1 0 := Fq.of upd_same
      generalize upd H6 p1 (.tup [.int 0, .int 1]) = H7 at u1 q1 ⊢
      refine tSeq_step fun N hN => ?_
      walk_at "rd"
      refine ⟨ps, SqL.of (u1 _ _ hA6), fun j σ H' => ∃ (tt : Addr) (r11 : Option V), σ = [some (.ref sa), some (.int c), some (.int m), some (.int k), some (.ref S), some (.ref PT), some (.ref SH), some (.ref NU), some (.ref PA), some (.int n), some (.ref tt), r11, none, none, none, none, none, none] ∧ Same H6 H' ∧ Fq K H' tt (Mt.Su (fun t => W t * Mt.pw (X t) n) j), ⟨p1, r11, rfl, u1, q1⟩, ?_, ?_, ?_⟩
      · rintro j σ H8 hj ⟨tt, r11, rfl, s8, q8⟩
        exact SqL.of (s8 _ _ hA6)
      · rintro j x σ H8 hx ⟨tt, r11, rfl, s8, q8⟩
        have hj : j < ps.length := (List.getElem?_eq_some_iff.mp hx).1
        obtain ⟨pc, ec, qc⟩ := fA6.at (j := j) (by simp; omega)
        cases ec.symm.trans hx
        rw [Mt.cf_map_range, if_pos (by omega)] at qc
        walk_at "rd"
        refine ⟨tt, pc, _, _, rfl, q8, qc.same s8, (Sz_ n (by omega) j (by omega)).mono (by omega), (Tz n j (by omega) (by omega)).mono (by decide), fun r1 H9 s9 n9 h9 => ?_⟩
        exact ⟨r1, rfl, s8.trans s9, Fq.of h9⟩
      · rintro σ H8 ⟨tt, r11, rfl, s8, q8⟩
        refine hN _ _ ?_
        clear hN N
        have emn : Mt.Su (fun t => W t * Mt.pw (X t) n) ps.length = mu n := by rw [emu, ← lps]
        rw [emn] at q8
        have hN8 := s8 _ _ hN6
        refine tSeq_step fun N hN => ?_
        walk_at "rd"
        refine ⟨.inl ⟨rfl, _, SqL.of hN8⟩, zs, hN8, small1000 (by omega), hN _ _ ?_⟩
        clear hN N
        have s9 : Same H (upd H8 NU (.lst (zs ++ [.ref tt]))) := (s6.trans s8).updL nN0
        have hS9 : upd H8 NU (.lst (zs ++ [.ref tt])) S = some (.lst xs) := by rw [upd_ne nSN]; exact s8 _ _ hS6
        have fS9 : Frs K (upd H8 NU (.lst (zs ++ [.ref tt]))) ((List.range m).map X) xs := Frs.updL hN8 (fS6.same s8)
        have hN9 : upd H8 NU (.lst (zs ++ [.ref tt])) NU = some (.lst (zs ++ [.ref tt])) := upd_same
        have fN9 : Frs K (upd H8 NU (.lst (zs ++ [.ref tt]))) ((List.range (n + 1)).map mu) (zs ++ [.ref tt]) := by
          rw [List.range_succ, List.map_append]
          exact Frs.updL hN8 (Frs.snoc (fN6.same s8) q8)
        have hA9 : upd H8 NU (.lst (zs ++ [.ref tt])) PA = some (.lst ps) := by rw [upd_ne (Ne.symm nNA)]; exact s8 _ _ hA6
        have fA9 : Frs K (upd H8 NU (.lst (zs ++ [.ref tt]))) ((List.range m).map fun t => W t * Mt.pw (X t) n) ps := Frs.updL hN8 (fA6.same s8)
        generalize upd H8 NU (.lst (zs ++ [.ref tt])) = H9 at s9 hS9 fS9 hN9 fN9 hA9 fA9 ⊢
        clear q8 s8 hN8 hA6 fA6 hN6 fN6 hS6 fS6 s6
        simp [tSeq, tIfS, tTest, tB, tOp, rI, rI0, rEq, rNe, scal, tVar, tC, tCB, tCons, tNil, tNext, tRet, tRetN, L2.start, rIxL, rIxT, rFqI, tAsg, gName, tUn, rU, tNot, tNotV, tAnd, tOr, tAndV, tOrV, tIf, tTup, tLst, tCall, tCallS, tDrop, tForR, tForT, tForL, tForE, tForV, gTup, gCons, gNil, gSub, rSetL, tRaise, tTry, tH, Ends.gone, cσ, CPow, tCoR, tCoL, tCoT, tCoX, tForX, tExcInit, tFs, sXset, tXget, tRaiseI, tJoinRev, tChain, rAll, tHno, cx_K, cxU_K, rIn, tSl, tNoPart, tPart, rAppend, tBM, tForR2, tBM0, rClear, rReverse, tPar, tVs, tCoZ, tCoRH, tHE, tListRev, tForZ, tForVL, tForZL, tCoZL]
        refine ⟨ps, SqL.of hA9, xs, SqL.of hS9, by omega, ?_⟩
        intro D nD
        refine ⟨fun i ys' σc H' => (∃ r0 r1, σc = [r0, r1]) ∧ Same H9 H' ∧ H' D = some (.lst ys') ∧ Frs K H' ((List.range i).map fun t => W t * Mt.pw (X t) (n + 1)) ys', ⟨⟨none, none, rfl⟩, same_upd nD, upd_same, Frs.nil⟩, fun i ys' σc H' hi h => ⟨SqL.of (h.2.1 _ _ hA9), SqL.of (h.2.1 _ _ hS9)⟩, ?_, ?_⟩
        · rintro i ys' σc H10 x y t hx hy ⟨⟨r0, r1, rfl⟩, s10, hD, fD⟩ nt
          have hi : i < ps.length := (List.getElem?_eq_some_iff.mp hx).1
          obtain ⟨pc, ec, qc⟩ := fA9.at (j := i) (by simp; omega)
          obtain ⟨px, ex, qx⟩ := fS9.at (j := i) (by simp; omega)
          cases ec.symm.trans hx
          cases ex.symm.trans hy
          rw [Mt.cf_map_range, if_pos (by omega)] at qc qx
          have ld := fD.len
          rw [List.length_map, List.length_range] at ld
          have ut := same_upd (o := .tup [.ref pc, .ref px]) nt
          have ht : upd H10 t (.tup [.ref pc, .ref px]) t = some (.tup [.ref pc, .ref px]) := upd_same
          generalize upd H10 t (.tup [.ref pc, .ref px]) = H11 at ut ht ⊢
          walk_at "rd"
          refine ⟨_, SqT.of ht, rfl, _, _, rfl, _, _, rfl, rfl, pc, px, _, _, rfl, (qc.same s10).same ut, (qx.same s10).same ut, (Tz n i (by omega) (by omega)).mono (by decide), (Xz i (by omega)).mono (by decide), fun r1 H12 s12 n12 h12 => ?_⟩
          have hD12 := s12 _ _ (ut _ _ hD)
          refine ⟨hD12, small1000 (by omega), ((s10.trans ut).trans s12).updL nD, upd_same, ?_⟩
          rw [List.range_succ, List.map_append]
          refine Frs.updL hD12 (Frs.snoc (fD.same (ut.trans s12)) ?_)
          have e : W i * Mt.pw (X i) n * X i = W i * Mt.pw (X i) (n + 1) := by rw [Mt.pw, Rat.mul_assoc]
          show Fq K H12 r1 (W i * Mt.pw (X i) (n + 1))
          rw [← e]
          exact Fq.of h12
        · rintro ys' σc H10 ⟨_, s10, hD, fD⟩
          rw [← lps] at fD
          exact ⟨hD, D, rfl, s9.trans s10, s10 _ _ hS9, fS9.same s10, _, s10 _ _ hN9, fN9.same s10, ne_of_none hN9 nD, _, hD, fD⟩
    · rintro σ H6 ⟨PA, r9, r10, r11, zs, ps, rfl, s6, hS6, fS6, hN6, fN6, nNA, hA6, fA6⟩
      refine hN _ _ ?_
      clear hN N
      refine tSeq_step fun N hN => ?_
      walk_at "rd"
      refine ⟨zs, .inl (SqL.of hN6), fun HA nH => hN _ _ ?_⟩
      clear hN N
      have uH := same_upd (o := .lst zs) nH
      have hHA : upd H6 HA (.lst zs) HA = some (.lst zs) := upd_same
      generalize upd H6 HA (.lst zs) = H7 at uH hHA ⊢
      replace s6 := s6.trans uH
      replace hS6 := uH _ _ hS6
      replace fS6 := fS6.same uH
      replace hN6 := uH _ _ hN6
      replace fN6 := fN6.same uH
      clear hA6 fA6 uH nH fP0 fP5 hP0 hS5 fS5 hN5 Sz_ Tz Pz
      have cW : ∀ t, t < m → Mt.cf ((List.range m).map W) t = W t := fun t ht => by rw [Mt.cf_map_range, if_pos ht]
      have cX : ∀ t, t < m → Mt.cf ((List.range m).map X) t = X t := fun t ht => by rw [Mt.cf_map_range, if_pos ht]
      have T0' : (T0 : Rat) ≠ 0 := fun z => by
        have : T0 = 0 := by exact_mod_cast z
        omega
      have b0' : (((b : Nat) : Int) : Rat) ≠ 0 := fun z => by
        have : (b : Int) = 0 := by exact_mod_cast z
        omega
      have hWT : ∀ t, t < m → Mt.cf ((List.range m).map W) t * (T0 : Rat) = ((ws.getD t 0 : Int) : Rat) := fun t ht => by
        rw [cW t ht, eW]
        show Rat.divInt (ws.getD t 0) T0 * (T0 : Rat) = _
        rw [Rat.divInt_eq_div, Rat.div_def, Rat.mul_assoc, Rat.inv_mul_cancel _ T0', Rat.mul_one]
      have hXB : ∀ t, t < m → Mt.cf ((List.range m).map X) t * (((b : Nat) : Int) : Rat) = ((ys.getD t 0 : Int) : Rat) := fun t ht => by
        rw [cX t ht, eX]
        show Rat.divInt (ys.getD t 0) b * (((b : Nat) : Int) : Rat) = _
        rw [Rat.divInt_eq_div, Rat.div_def, Rat.mul_assoc, Rat.inv_mul_cancel _ b0', Rat.mul_one]
      have hmu : ∀ n, mu n = Mt.spM ((List.range m).map W) ((List.range m).map X) m n := fun n => by
        rw [emu]
        exact Mt.Su_congr fun t ht => by rw [cW t ht, cX t ht]
      obtain ⟨ms, ems⟩ : ∃ ms : List Rat, ms = (List.range (2 * k + 2)).map mu := ⟨_, rfl⟩
      rw [← ems] at fN6
      have lms : ms.length = 2 * k + 2 := by rw [ems]; simp
      have hms : ∀ n, n < 2 * k + 2 → Mt.cf ms n = Mt.spM ((List.range m).map W) ((List.range m).map X) m n := fun n hn => by rw [ems, Mt.cf_map_range, if_pos hn, hmu]
      have bW : ∀ t, ((ws.getD t 0 : Int)).natAbs ≤ 6 := fun t => by
        rcases Nat.lt_or_ge t ws.length with z | z
        · rw [List.getD_eq_getElem?_getD, List.getElem?_eq_getElem z]
          have := hw _ (List.getElem_mem z)
          show (ws[t]).natAbs ≤ 6
          omega
        · rw [List.getD_eq_getElem?_getD, List.getElem?_eq_none z]; decide
      have bY : ∀ t, ((ys.getD t 0 : Int)).natAbs ≤ 123 := fun t => by
        rcases Nat.lt_or_ge t ys.length with z | z
        · rw [List.getD_eq_getElem?_getD, List.getElem?_eq_getElem z]
          exact by_ _ (List.getElem_mem z)
        · rw [List.getD_eq_getElem?_getD, List.getElem?_eq_none z]; decide
      have mi : Mi ms (T0 * (b : Int) ^ 15) (fun n => if n < 2 * k + 2 then Mt.sI (fun t => ws.getD t 0 * (ys.getD t 0 ^ n * (b : Int) ^ (15 - n))) m else 0) := by
        refine ⟨Int.mul_ne_zero (by omega) (Int.pow_ne_zero (by omega)), ?_, fun n => ?_, fun n => ?_⟩
        · rw [Int.natAbs_mul, Int.natAbs_pow]
          exact Nat.le_trans (Nat.mul_le_mul (show T0.natAbs ≤ 42 by omega) (Nat.pow_le_pow_left (show ((b : Int)).natAbs ≤ 5 by omega) 15)) (show 42 * 5 ^ 15 ≤ 2 ^ 110 by decide +kernel)
        · split
          · rename_i hn
            rw [hms n hn]
            exact Mt.spM_int hWT hXB (by omega)
          · rw [Mt.cf_ge (by omega), Rat.zero_mul]; rfl
        · split
          · refine Nat.le_trans (Mt.sM_bd bW bY (by omega) (by omega) m) (Nat.le_trans (Nat.mul_le_mul_right _ (show m ≤ 7 by omega)) (by decide +kernel))
          · decide
      have m0 : Mt.cf ms 0 = 1 := by
        have e := Mt.spM_int (n := 0) (N := 0) hWT hXB (Nat.le_refl _)
        rw [← hms 0 (by omega)] at e
        have e3 : (fun t => ws.getD t 0 * (ys.getD t 0 ^ 0 * (b : Int) ^ (0 - 0))) = fun t => ws.getD t 0 := by
          funext t
          rw [Int.pow_zero, Nat.sub_zero, Int.pow_zero, Int.mul_one, Int.mul_one]
        rw [e3, Int.pow_zero, Int.mul_one, ← lp, Mt.sI_sum, ← eT] at e
        have e2 := congrArg (· * (T0 : Rat)⁻¹) e
        simp only [Rat.mul_assoc, Rat.mul_inv_cancel _ T0', Rat.mul_one] at e2
        exact e2
      have pos : ∀ t, t < m → 0 < Mt.cf ((List.range m).map W) t := fun t ht => by
        have e := hWT t ht
        have w1 : (1 : Int) ≤ ws.getD t 0 := by
          rw [List.getD_eq_getElem?_getD, List.getElem?_eq_getElem (show t < ws.length by omega)]
          exact (hw _ (List.getElem_mem _)).1
        have w2 : (1 : Rat) ≤ ((ws.getD t 0 : Int) : Rat) := by exact_mod_cast w1
        have t2 : (0 : Rat) ≤ (T0 : Rat) := by
          have : (0 : Int) ≤ T0 := by omega
          exact_mod_cast this
        rw [← e] at w2
        apply Rat.not_le.mp
        intro h
        have h2 : 0 ≤ -Mt.cf ((List.range m).map W) t := by grind
        have := Rat.mul_nonneg h2 t2
        grind
      have nzs : ∀ p i, i ≤ k → i < m → Rw ms p i → Mt.lf ms (p i) i ≠ 0 := fun p i h1 h2 r => Mt.spots_nz hms pos nd (by simp) h2 (by omega) (r.mo i (Nat.le_refl _))
      have isdu : ∀ p i, m ≤ i → m ≤ k → Rw ms p i → p m = Mt.du ((List.range m).map X) m := fun p i h1 h2 r => Mt.Mo.eq (fun j hj => r.mo j (by omega)) (fun j hj => r.nz j (by omega)) (r.mo m h1) (Mt.du_mo hms (by omega))
      have zdu : m ≤ k → ∀ l, l ≤ m → Mt.lf ms (Mt.du ((List.range m).map X) m) l = 0 := fun h1 l hl => Mt.du_lf hms (by omega)
      clear hms pos hWT hXB cW cX bW bY emu hmu
      have dp : 1 ≤ (lstD ms).dep ∧ (lstD ms).dep ≤ 60 := by
        have z1 := frDs_dep ms
        simp only [lstD, Dt.dep]
        omega
      refine tSeq_step fun N hN => ?_
      walk_at "rd"
      refine ⟨HA, zs, ms, k, _, _, rfl, SqL.of hHA, fN6, lms, hk, m0, mi, fun p L D rw_ lL lD nz r ra rb H8 s8 hr8 pL pD => hN _ _ ?_, fun p i hi rw_ z r rp1 H8 s8 hr8 pp => hN _ _ ?_⟩
      · clear hN N
        have hmk : k < m := by
          rcases Nat.lt_or_ge k m with y | y
          · exact y
          · exfalso
            refine rw_.nz m (by omega) ?_
            rw [isdu p (k + 1) (by omega) y rw_]
            exact zdu y m (Nat.le_refl _)
        refine tSeq_step fun N hN => ?_
        walk_at "rd"
        refine neD_same _ (rep_lst (s8 _ _ hHA) (fN6.same s8)) (rep_lst (s8 _ _ hN6) (fN6.same s8)) dp.1 dp.2 (.inl ⟨rfl, hN _ _ ?_⟩)
        clear hN N
        refine tSeq_step fun N hN => ?_
        walk_at "rd"
        rw [if_pos hmk]
        obtain ⟨us, hu, fu⟩ := id pL
        obtain ⟨vs, hv, fv⟩ := id pD
        have lu := fu.len
        have lv := fv.len
        refine ⟨r, ra, rb, L, D, rfl, hr8, pL, pD, by omega, by omega, fun H9 s9 => .inr ⟨rfl, _, SqT.of (s9 _ _ hr8), _, rfl, ra, rfl, us, .inr (s9.seqT hu), ?_⟩⟩
        rw [if_pos (by omega)]
        refine ⟨_, SqT.of (s9 _ _ hr8), _, rfl, rb, rfl, vs, .inr (s9.seqT hv), ?_⟩
        rw [if_pos (by omega)]
        refine ⟨sz_le 2 (by decide), fun p5 n5 => ?_⟩
        have u5 := same_upd (o := .tup [.int 0, .int 1]) n5
        have n0 : ¬ (0 : Rat) ∈ D := fun hm' => by
          obtain ⟨j, hj, e⟩ := List.getElem_of_mem hm'
          refine nz j (by omega) ?_
          rw [Mt.cf, List.getD_eq_getElem?_getD, List.getElem?_eq_getElem hj, e]
          rfl
        refine ⟨_, SqT.of (u5 _ _ (s9 _ _ hr8)), _, rfl, p5, rb, vs, D, 0, rfl, rfl, (s9.trans u5).seqT hv, fv.same (s9.trans u5), Fq.of upd_same, ?_⟩
        rw [if_pos rfl, decide_eq_false n0]
        exact hq _
      · clear hN N
        have him : i = m := by
          rcases Nat.lt_trichotomy i m with y | y | y
          · exact absurd z (nzs p i hi y rw_)
          · exact y
          · exfalso
            refine rw_.nz m y ?_
            rw [isdu p i (by omega) (by omega) rw_]
            exact zdu (by omega) m (Nat.le_refl _)
        subst him
        have edu := isdu p i (Nat.le_refl _) hi rw_
        have lndu := (rw_.small mi (by omega)).1
        rw [edu] at pp lndu
        refine tSeq_step fun N hN => ?_
        walk_at "rd"
        refine neD_same _ (rep_lst (s8 _ _ hHA) (fN6.same s8)) (rep_lst (s8 _ _ hN6) (fN6.same s8)) dp.1 dp.2 (.inl ⟨rfl, hN _ _ ?_⟩)
        clear hN N
        refine tSeq_step fun N hN => ?_
        walk_at "rd"
        rw [if_neg (by omega)]
        refine hN _ _ ?_
        clear hN N
        refine tSeq_step fun N hN => ?_
        walk_at "rd"
        refine ⟨sz_le 2 (by decide), fun p1 n1 => ⟨sz_le 1 (by decide), fun DU0 nD0 => hN _ _ ?_⟩⟩
        clear hN N
        have u1 := same_upd (o := .tup [.int 1, .int 1]) n1
        have q1 : Fq K (upd H8 p1 (.tup [.int 1, .int 1])) p1 1 := Fq.of upd_same
        generalize upd H8 p1 (.tup [.int 1, .int 1]) = H9 at u1 q1 nD0 ⊢
        have u2 := same_upd (o := .lst [.ref p1]) nD0
        have hD0 : upd H9 DU0 (.lst [.ref p1]) DU0 = some (.lst [.ref p1]) := upd_same
        generalize upd H9 DU0 (.lst [.ref p1]) = H10 at u2 hD0 ⊢
        have s10 := u1.trans u2
        have hS10 := (s8.trans s10) _ _ hS6
        have fS10 := fS6.same (s8.trans s10)
        have lxs := fS10.len
        rw [List.length_map, List.length_range] at lxs
        have fD0 : Frs K H10 (Mt.du ((List.range i).map X) 0) [.ref p1] := Frs.cons (q1.same u2) Frs.nil
        have Xc : ∀ t, t < i → Sz 7 (Mt.cf ((List.range i).map X) t) := fun t ht => by rw [Mt.cf_map_range, if_pos ht]; exact Xz t ht
        have ep : ∀ j, j ≤ 7 → 9 * 2 ^ j - 8 ≤ 1200 ∧ 1 ≤ 9 * 2 ^ j - 8 := by decide
        have dsz : ∀ j, j ≤ i → ∀ n, Sz 1200 (Mt.cf (Mt.du ((List.range i).map X) j) n) := fun j hj n => (du_sz Xc j hj n).mono (ep j (by omega)).1
        have cxx : ∀ t, t < i → Mt.cf ((List.range i).map X) t = X t := fun t ht => by rw [Mt.cf_map_range, if_pos ht]
        have lXL : ((List.range i).map X).length = i := by simp
        generalize (List.range i).map X = XL at *
        refine tSeq_step fun N hN => ?_
        walk_at "rd"
        refine ⟨xs, SqL.of hS10, fun j σ H' => ∃ (DU : Addr) (r15 r16 r17 : Option V) (ds : List V), σ = [some (.ref sa), some (.int c), some (.int i), some (.int k), some (.ref S), some (.ref PT), some (.ref SH), some (.ref NU), some (.ref PA), r9, r10, r11, some (.ref HA), some (.ref r), some (.ref DU), r15, r16, r17] ∧ Same H10 H' ∧ H' DU = some (.lst ds) ∧ Frs K H' (Mt.du XL j) ds, ⟨DU0, none, none, none, _, rfl, Same.refl _, hD0, fD0⟩, ?_, ?_, ?_⟩
        · rintro j σ H11 hj ⟨DU, r15, r16, r17, ds, rfl, s11, hDU, fDU⟩
          exact SqL.of (s11 _ _ hS10)
        · rintro j x σ H11 hx ⟨DU, r15, r16, r17, ds, rfl, s11, hDU, fDU⟩
          have hj : j < xs.length := (List.getElem?_eq_some_iff.mp hx).1
          obtain ⟨px, ex, qx⟩ := fS10.at (j := j) (by omega)
          cases ex.symm.trans hx
          have ld := fDU.len
          rw [Mt.du_len] at ld
          refine tSeq_step fun N hN => ?_
          walk_at "rd"
          refine ⟨sz_le 2 (by decide), fun p2 n2 => ⟨sz_le 1 (by decide), fun p3 n3 => ?_⟩⟩
          have t1 := same_upd (o := .tup [.int 0, .int 1]) n2
          have qz : Fq K (upd H11 p2 (.tup [.int 0, .int 1])) p2 0 := Fq.of upd_same
          generalize upd H11 p2 (.tup [.int 0, .int 1]) = H12 at t1 qz n3 ⊢
          have t2 := same_upd (o := .lst [.ref p2]) n3
          have e3 : upd H12 p3 (.lst [.ref p2]) p3 = some (.lst [.ref p2]) := upd_same
          generalize upd H12 p3 (.lst [.ref p2]) = H13 at t2 e3 ⊢
          have t12 := t1.trans t2
          refine ⟨p3, DU, _, _, rfl, rfl, e3, t12 _ _ hDU, sz_le _ (by simp; omega), fun FR nF => hN _ _ ?_⟩
          clear hN N
          have uF := same_upd (o := .lst ([V.ref p2] ++ ds)) nF
          have hF : upd H13 FR (.lst ([V.ref p2] ++ ds)) FR = some (.lst ([V.ref p2] ++ ds)) := upd_same
          have fF : Frs K (upd H13 FR (.lst ([V.ref p2] ++ ds))) (dl (Mt.du XL j) (Mt.cf XL j) (j + 1) 0) ([V.ref p2] ++ ds) := by
            have e0 := dl_start (Mt.du XL j) (Mt.cf XL j)
            rw [Mt.du_len] at e0
            rw [e0]
            exact Frs.cons ((qz.same t2).same uF) ((fDU.same t12).same uF)
          generalize upd H13 FR (.lst ([V.ref p2] ++ ds)) = H14 at uF hF fF ⊢
          have s14 : Same H11 H14 := t12.trans uF
          have nF11 : H11 FR = none := t12.free nF
          clear uF t12 t1 t2 e3 qz nF n3 n2
          have dlz : ∀ cc n, n < j + 2 → Sz 3000 (Mt.cf (dl (Mt.du XL j) (Mt.cf XL j) (j + 1) cc) n) := fun cc n hn => by
            rw [dl_at hn]
            have a := dsz j (by omega)
            refine ((sh_sz a (by decide) n).sub (n := 1300) ?_).mono (by decide)
            split
            · exact ((Xc j (by omega)).mul (a n)).mono (by decide)
            · exact Sz.zero (by decide)
          refine tSeq_step fun N hN => ?_
          walk_at "rd"
          refine ⟨ds, .inl (SqL.of (s14 _ _ hDU)), by omega, fun cc σ H' => ∃ (r17 : Option V) (us : List V), σ = [some (.ref sa), some (.int c), some (.int i), some (.int k), some (.ref S), some (.ref PT), some (.ref SH), some (.ref NU), some (.ref PA), r9, r10, r11, some (.ref HA), some (.ref r), some (.ref DU), some (.ref px), some (.ref FR), r17] ∧ Same H11 H' ∧ H' FR = some (.lst us) ∧ Frs K H' (dl (Mt.du XL j) (Mt.cf XL j) (j + 1) cc) us, ⟨r17, _, rfl, s14, hF, fF⟩, ?_, ?_⟩
          · rintro cc σ H15 hc ⟨r17, us, rfl, s15, hF15, fF15⟩
            have lu := fF15.len
            rw [dl_len] at lu
            obtain ⟨pa, ea, qa⟩ := fF15.at (j := cc) (by rw [dl_len]; omega)
            obtain ⟨pc, ec, qc⟩ := fDU.at (j := cc) (by rw [Mt.du_len]; omega)
            walk_at "rd"
            refine ⟨us, SqL.of hF15, _, atI_nat ea, ds, SqL.of (s15 _ _ hDU), _, atI_nat ec, ?_⟩
            refine ⟨px, pc, _, _, rfl, (qx.same s11).same s15, qc.same s15, (Xc j (by omega)).mono (by decide), (dsz j (by omega) cc).mono (by decide), fun r1 H16 s16 n16 h16 => ?_⟩
            refine ⟨pa, r1, _, _, rfl, qa.same s16, Fq.of h16, (dlz cc cc (by omega)).mono (by decide), ((Xc j (by omega)).mul (dsz j (by omega) cc)).mono (by decide), fun r2 H17 s17 n17 h17 => ?_⟩
            have hF17 := s17 _ _ (s16 _ _ hF15)
            refine ⟨us, hF17, _, ixN_nat (by omega), ((s15.trans s16).trans s17).updL nF11, _, upd_same, ?_⟩
            rw [← dl_set (show cc < j + 1 + 1 by omega)]
            exact Frs.updL hF17 (Frs.set cc (fF15.same (s16.trans s17)) (Fq.of h17))
          · rintro σ H15 ⟨r17, us, rfl, s15, hF15, fF15⟩
            refine hN _ _ ?_
            clear hN N
            rw [← ld, dl_end] at fF15
            walk_at "rd"
            exact ⟨s11.trans s15, us, hF15, fF15⟩
        · rintro σ H11 ⟨DU, r15, r16, r17, ds, rfl, s11, hDU, fDU⟩
          refine hN _ _ ?_
          clear hN N
          rw [← lxs] at fDU
          have sA := s10.trans s11
          have hr11 := sA _ _ hr8
          have pp11 := pp.same sA
          have ld := Mt.du_len XL i
          walk_at "rd"
          refine ⟨r, rp1, NU, Mt.du XL i, ms, i + 1, zs, rfl, hr11, pp11, SqL.of ((s8.trans sA) _ _ hN6), fN6.same (s8.trans sA), ld, by omega, by omega, by omega, Mt.du_top XL i, fun l hl => zdu hi l (by omega), lndu, fun l => mi.ln l, fun H12 s12 => .inr ⟨rfl, _, SqT.of (s12 _ _ hr11), _, rfl, rfl, ?_⟩⟩
          rw [if_pos rfl]
          refine ⟨_, SqT.of (s12 _ _ hr11), _, rfl, ds, .inl ⟨SqL.of (s12 _ _ hDU), fun l nl => ?_⟩⟩
          have ul := same_upd (o := .tup ds) nl
          exact poly_cmp ((pp11.same s12).same ul).rep (show Pl K _ l (Mt.du XL i) from ⟨ds, SqT.of upd_same, (fDU.same s12).same ul⟩).rep (by simpa using hq _)
end
theorem all_mk {l : PySem.W.OpenLaw} {w : World} {K : PySem.W.Frag} {h : Heap} {mg : Str → Option Value} {fa : Addr} {f_shared_part : Addr} {od_shared_part an_shared_part : Option Addr} {sl_shared_part : Array (Option Value)} {oc_shared_part kV_shared_part dc_shared_part pm_shared_part cd_shared_part ct_shared_part : Value} {f_plus : Addr} {od_plus an_plus : Option Addr} {sl_plus : Array (Option Value)} {oc_plus kV_plus dc_plus pm_plus cd_plus ct_plus : Value} {f_minus : Addr} {od_minus an_minus : Option Addr} {sl_minus : Array (Option Value)} {oc_minus kV_minus dc_minus pm_minus cd_minus ct_minus : Value} {f_times : Addr} {od_times an_times : Option Addr} {sl_times : Array (Option Value)} {oc_times kV_times dc_times pm_times cd_times ct_times : Value} {f_over : Addr} {od_over an_over : Option Addr} {sl_over : Array (Option Value)} {oc_over kV_over dc_over pm_over cd_over ct_over : Value} {f_poly_of : Addr} {od_poly_of an_poly_of : Option Addr} {sl_poly_of : Array (Option Value)} {oc_poly_of kV_poly_of dc_poly_of pm_poly_of cd_poly_of ct_poly_of : Value} {f_number_at : Addr} {od_number_at an_number_at : Option Addr} {sl_number_at : Array (Option Value)} {oc_number_at kV_number_at dc_number_at pm_number_at cd_number_at ct_number_at : Value} {f_poly_plus : Addr} {od_poly_plus an_poly_plus : Option Addr} {sl_poly_plus : Array (Option Value)} {oc_poly_plus kV_poly_plus dc_poly_plus pm_poly_plus cd_poly_plus ct_poly_plus : Value} {f_poly_scaled : Addr} {od_poly_scaled an_poly_scaled : Option Addr} {sl_poly_scaled : Array (Option Value)} {oc_poly_scaled kV_poly_scaled dc_poly_scaled pm_poly_scaled cd_poly_scaled ct_poly_scaled : Value} {f_poly_minus : Addr} {od_poly_minus an_poly_minus : Option Addr} {sl_poly_minus : Array (Option Value)} {oc_poly_minus kV_poly_minus dc_poly_minus pm_poly_minus cd_poly_minus ct_poly_minus : Value} {f_poly_times : Addr} {od_poly_times an_poly_times : Option Addr} {sl_poly_times : Array (Option Value)} {oc_poly_times kV_poly_times dc_poly_times pm_poly_times cd_poly_times ct_poly_times : Value} {f_degree_of : Addr} {od_degree_of an_degree_of : Option Addr} {sl_degree_of : Array (Option Value)} {oc_degree_of kV_degree_of dc_degree_of pm_degree_of cd_degree_of ct_degree_of : Value} {f_one_further : Addr} {od_one_further an_one_further : Option Addr} {sl_one_further : Array (Option Value)} {oc_one_further kV_one_further dc_one_further pm_one_further cd_one_further ct_one_further : Value} {f_ruled : Addr} {od_ruled an_ruled : Option Addr} {sl_ruled : Array (Option Value)} {oc_ruled kV_ruled dc_ruled pm_ruled cd_ruled ct_ruled : Value} {f_check_moments : Addr} {od_check_moments an_check_moments : Option Addr} {sl_check_moments : Array (Option Value)} {oc_check_moments kV_check_moments dc_check_moments pm_check_moments cd_check_moments ct_check_moments : Value} {f_weights_back : Addr} {od_weights_back an_weights_back : Option Addr} {sl_weights_back : Array (Option Value)} {oc_weights_back kV_weights_back dc_weights_back pm_weights_back cd_weights_back ct_weights_back : Value} {f__law_cell_at : Addr} {od__law_cell_at an__law_cell_at : Option Addr} {sl__law_cell_at : Array (Option Value)} {oc__law_cell_at kV__law_cell_at dc__law_cell_at pm__law_cell_at cd__law_cell_at ct__law_cell_at : Value} {f__law_stir : Addr} {od__law_stir an__law_stir : Option Addr} {sl__law_stir : Array (Option Value)} {oc__law_stir kV__law_stir dc__law_stir pm__law_stir cd__law_stir ct__law_stir : Value} {f__law_drawn : Addr} {od__law_drawn an__law_drawn : Option Addr} {sl__law_drawn : Array (Option Value)} {oc__law_drawn kV__law_drawn dc__law_drawn pm__law_drawn cd__law_drawn ct__law_drawn : Value} {f__law_whole : Addr} {od__law_whole an__law_whole : Option Addr} {sl__law_whole : Array (Option Value)} {oc__law_whole kV__law_whole dc__law_whole pm__law_whole cd__law_whole ct__law_whole : Value} {f__law_divisor : Addr} {od__law_divisor an__law_divisor : Option Addr} {sl__law_divisor : Array (Option Value)} {oc__law_divisor kV__law_divisor dc__law_divisor pm__law_divisor cd__law_divisor ct__law_divisor : Value} {f__law_low : Addr} {od__law_low an__law_low : Option Addr} {sl__law_low : Array (Option Value)} {oc__law_low kV__law_low dc__law_low pm__law_low cd__law_low ct__law_low : Value} {f__law_add : Addr} {od__law_add an__law_add : Option Addr} {sl__law_add : Array (Option Value)} {oc__law_add kV__law_add dc__law_add pm__law_add cd__law_add ct__law_add : Value} {f__law_take : Addr} {od__law_take an__law_take : Option Addr} {sl__law_take : Array (Option Value)} {oc__law_take kV__law_take dc__law_take pm__law_take cd__law_take ct__law_take : Value} {f__law_mul : Addr} {od__law_mul an__law_mul : Option Addr} {sl__law_mul : Array (Option Value)} {oc__law_mul kV__law_mul dc__law_mul pm__law_mul cd__law_mul ct__law_mul : Value} {f__law_is_fraction : Addr} {od__law_is_fraction an__law_is_fraction : Option Addr} {sl__law_is_fraction : Array (Option Value)} {oc__law_is_fraction kV__law_is_fraction dc__law_is_fraction pm__law_is_fraction cd__law_is_fraction ct__law_is_fraction : Value} {f__law_are_fractions : Addr} {od__law_are_fractions an__law_are_fractions : Option Addr} {sl__law_are_fractions : Array (Option Value)} {oc__law_are_fractions kV__law_are_fractions dc__law_are_fractions pm__law_are_fractions cd__law_are_fractions ct__law_are_fractions : Value} {f__law_told_weights : Addr} {od__law_told_weights an__law_told_weights : Option Addr} {sl__law_told_weights : Array (Option Value)} {oc__law_told_weights kV__law_told_weights dc__law_told_weights pm__law_told_weights cd__law_told_weights ct__law_told_weights : Value} {f__law_bars : Addr} {od__law_bars an__law_bars : Option Addr} {sl__law_bars : Array (Option Value)} {oc__law_bars kV__law_bars dc__law_bars pm__law_bars cd__law_bars ct__law_bars : Value} {f__law_spots : Addr} {od__law_spots an__law_spots : Option Addr} {sl__law_spots : Array (Option Value)} {oc__law_spots kV__law_spots dc__law_spots pm__law_spots cd__law_spots ct__law_spots : Value} {f_law : Addr} {od_law an_law : Option Addr} {sl_law : Array (Option Value)} {oc_law kV_law dc_law pm_law cd_law ct_law : Value} {C_NOUGHT : Addr} {C_NoFraction : Addr} {C_NoMoments : Addr} {C_ONE : Addr} {C_TooFar : Addr} {tk_MOST_MOMENTS : Tok} (X : K.In h) (G : h.Ns mainGlobals mg) (hfa : mg "law" = some (.ref fa))
    (a_shared_part : PySem.W.nsIn K mainGlobals "shared_part" = some (some (.ref f_shared_part)))
    (l_shared_part : K.lookup f_shared_part = some ⟨oc_shared_part, od_shared_part, .func (PySem.W.fnOf "shared_part" "shared_part" (defArgs s_shared_part) (defBody s_shared_part) (defScope s_shared_part) .none kV_shared_part dc_shared_part pm_shared_part an_shared_part cd_shared_part ct_shared_part), sl_shared_part⟩)
    (e_shared_part : PySem.W.codeIn K cd_shared_part "shared_part" = true)
    (k_shared_part : PySem.W.keepIn K (.ref f_shared_part) = true)
    (a_plus : PySem.W.nsIn K mainGlobals "plus" = some (some (.ref f_plus)))
    (l_plus : K.lookup f_plus = some ⟨oc_plus, od_plus, .func (PySem.W.fnOf "plus" "plus" (defArgs s_plus) (defBody s_plus) (defScope s_plus) .none kV_plus dc_plus pm_plus an_plus cd_plus ct_plus), sl_plus⟩)
    (e_plus : PySem.W.codeIn K cd_plus "plus" = true)
    (k_plus : PySem.W.keepIn K (.ref f_plus) = true)
    (a_minus : PySem.W.nsIn K mainGlobals "minus" = some (some (.ref f_minus)))
    (l_minus : K.lookup f_minus = some ⟨oc_minus, od_minus, .func (PySem.W.fnOf "minus" "minus" (defArgs s_minus) (defBody s_minus) (defScope s_minus) .none kV_minus dc_minus pm_minus an_minus cd_minus ct_minus), sl_minus⟩)
    (e_minus : PySem.W.codeIn K cd_minus "minus" = true)
    (k_minus : PySem.W.keepIn K (.ref f_minus) = true)
    (a_times : PySem.W.nsIn K mainGlobals "times" = some (some (.ref f_times)))
    (l_times : K.lookup f_times = some ⟨oc_times, od_times, .func (PySem.W.fnOf "times" "times" (defArgs s_times) (defBody s_times) (defScope s_times) .none kV_times dc_times pm_times an_times cd_times ct_times), sl_times⟩)
    (e_times : PySem.W.codeIn K cd_times "times" = true)
    (k_times : PySem.W.keepIn K (.ref f_times) = true)
    (a_over : PySem.W.nsIn K mainGlobals "over" = some (some (.ref f_over)))
    (l_over : K.lookup f_over = some ⟨oc_over, od_over, .func (PySem.W.fnOf "over" "over" (defArgs s_over) (defBody s_over) (defScope s_over) .none kV_over dc_over pm_over an_over cd_over ct_over), sl_over⟩)
    (e_over : PySem.W.codeIn K cd_over "over" = true)
    (k_over : PySem.W.keepIn K (.ref f_over) = true)
    (a_poly_of : PySem.W.nsIn K mainGlobals "poly_of" = some (some (.ref f_poly_of)))
    (l_poly_of : K.lookup f_poly_of = some ⟨oc_poly_of, od_poly_of, .func (PySem.W.fnOf "poly_of" "poly_of" (defArgs s_poly_of) (defBody s_poly_of) (defScope s_poly_of) .none kV_poly_of dc_poly_of pm_poly_of an_poly_of cd_poly_of ct_poly_of), sl_poly_of⟩)
    (e_poly_of : PySem.W.codeIn K cd_poly_of "poly_of" = true)
    (k_poly_of : PySem.W.keepIn K (.ref f_poly_of) = true)
    (a_number_at : PySem.W.nsIn K mainGlobals "number_at" = some (some (.ref f_number_at)))
    (l_number_at : K.lookup f_number_at = some ⟨oc_number_at, od_number_at, .func (PySem.W.fnOf "number_at" "number_at" (defArgs s_number_at) (defBody s_number_at) (defScope s_number_at) .none kV_number_at dc_number_at pm_number_at an_number_at cd_number_at ct_number_at), sl_number_at⟩)
    (e_number_at : PySem.W.codeIn K cd_number_at "number_at" = true)
    (k_number_at : PySem.W.keepIn K (.ref f_number_at) = true)
    (a_poly_plus : PySem.W.nsIn K mainGlobals "poly_plus" = some (some (.ref f_poly_plus)))
    (l_poly_plus : K.lookup f_poly_plus = some ⟨oc_poly_plus, od_poly_plus, .func (PySem.W.fnOf "poly_plus" "poly_plus" (defArgs s_poly_plus) (defBody s_poly_plus) (defScope s_poly_plus) .none kV_poly_plus dc_poly_plus pm_poly_plus an_poly_plus cd_poly_plus ct_poly_plus), sl_poly_plus⟩)
    (e_poly_plus : PySem.W.codeIn K cd_poly_plus "poly_plus" = true)
    (k_poly_plus : PySem.W.keepIn K (.ref f_poly_plus) = true)
    (a_poly_scaled : PySem.W.nsIn K mainGlobals "poly_scaled" = some (some (.ref f_poly_scaled)))
    (l_poly_scaled : K.lookup f_poly_scaled = some ⟨oc_poly_scaled, od_poly_scaled, .func (PySem.W.fnOf "poly_scaled" "poly_scaled" (defArgs s_poly_scaled) (defBody s_poly_scaled) (defScope s_poly_scaled) .none kV_poly_scaled dc_poly_scaled pm_poly_scaled an_poly_scaled cd_poly_scaled ct_poly_scaled), sl_poly_scaled⟩)
    (e_poly_scaled : PySem.W.codeIn K cd_poly_scaled "poly_scaled" = true)
    (k_poly_scaled : PySem.W.keepIn K (.ref f_poly_scaled) = true)
    (a_poly_minus : PySem.W.nsIn K mainGlobals "poly_minus" = some (some (.ref f_poly_minus)))
    (l_poly_minus : K.lookup f_poly_minus = some ⟨oc_poly_minus, od_poly_minus, .func (PySem.W.fnOf "poly_minus" "poly_minus" (defArgs s_poly_minus) (defBody s_poly_minus) (defScope s_poly_minus) .none kV_poly_minus dc_poly_minus pm_poly_minus an_poly_minus cd_poly_minus ct_poly_minus), sl_poly_minus⟩)
    (e_poly_minus : PySem.W.codeIn K cd_poly_minus "poly_minus" = true)
    (k_poly_minus : PySem.W.keepIn K (.ref f_poly_minus) = true)
    (a_poly_times : PySem.W.nsIn K mainGlobals "poly_times" = some (some (.ref f_poly_times)))
    (l_poly_times : K.lookup f_poly_times = some ⟨oc_poly_times, od_poly_times, .func (PySem.W.fnOf "poly_times" "poly_times" (defArgs s_poly_times) (defBody s_poly_times) (defScope s_poly_times) .none kV_poly_times dc_poly_times pm_poly_times an_poly_times cd_poly_times ct_poly_times), sl_poly_times⟩)
    (e_poly_times : PySem.W.codeIn K cd_poly_times "poly_times" = true)
    (k_poly_times : PySem.W.keepIn K (.ref f_poly_times) = true)
    (a_degree_of : PySem.W.nsIn K mainGlobals "degree_of" = some (some (.ref f_degree_of)))
    (l_degree_of : K.lookup f_degree_of = some ⟨oc_degree_of, od_degree_of, .func (PySem.W.fnOf "degree_of" "degree_of" (defArgs s_degree_of) (defBody s_degree_of) (defScope s_degree_of) .none kV_degree_of dc_degree_of pm_degree_of an_degree_of cd_degree_of ct_degree_of), sl_degree_of⟩)
    (e_degree_of : PySem.W.codeIn K cd_degree_of "degree_of" = true)
    (k_degree_of : PySem.W.keepIn K (.ref f_degree_of) = true)
    (a_one_further : PySem.W.nsIn K mainGlobals "one_further" = some (some (.ref f_one_further)))
    (l_one_further : K.lookup f_one_further = some ⟨oc_one_further, od_one_further, .func (PySem.W.fnOf "one_further" "one_further" (defArgs s_one_further) (defBody s_one_further) (defScope s_one_further) .none kV_one_further dc_one_further pm_one_further an_one_further cd_one_further ct_one_further), sl_one_further⟩)
    (e_one_further : PySem.W.codeIn K cd_one_further "one_further" = true)
    (k_one_further : PySem.W.keepIn K (.ref f_one_further) = true)
    (a_ruled : PySem.W.nsIn K mainGlobals "ruled" = some (some (.ref f_ruled)))
    (l_ruled : K.lookup f_ruled = some ⟨oc_ruled, od_ruled, .func (PySem.W.fnOf "ruled" "ruled" (defArgs s_ruled) (defBody s_ruled) (defScope s_ruled) .none kV_ruled dc_ruled pm_ruled an_ruled cd_ruled ct_ruled), sl_ruled⟩)
    (e_ruled : PySem.W.codeIn K cd_ruled "ruled" = true)
    (k_ruled : PySem.W.keepIn K (.ref f_ruled) = true)
    (a_check_moments : PySem.W.nsIn K mainGlobals "check_moments" = some (some (.ref f_check_moments)))
    (l_check_moments : K.lookup f_check_moments = some ⟨oc_check_moments, od_check_moments, .func (PySem.W.fnOf "check_moments" "check_moments" (defArgs s_check_moments) (defBody s_check_moments) (defScope s_check_moments) .none kV_check_moments dc_check_moments pm_check_moments an_check_moments cd_check_moments ct_check_moments), sl_check_moments⟩)
    (e_check_moments : PySem.W.codeIn K cd_check_moments "check_moments" = true)
    (k_check_moments : PySem.W.keepIn K (.ref f_check_moments) = true)
    (a_weights_back : PySem.W.nsIn K mainGlobals "weights_back" = some (some (.ref f_weights_back)))
    (l_weights_back : K.lookup f_weights_back = some ⟨oc_weights_back, od_weights_back, .func (PySem.W.fnOf "weights_back" "weights_back" (defArgs s_weights_back) (defBody s_weights_back) (defScope s_weights_back) .none kV_weights_back dc_weights_back pm_weights_back an_weights_back cd_weights_back ct_weights_back), sl_weights_back⟩)
    (e_weights_back : PySem.W.codeIn K cd_weights_back "weights_back" = true)
    (k_weights_back : PySem.W.keepIn K (.ref f_weights_back) = true)
    (a__law_cell_at : PySem.W.nsIn K mainGlobals "_law_cell_at" = some (some (.ref f__law_cell_at)))
    (l__law_cell_at : K.lookup f__law_cell_at = some ⟨oc__law_cell_at, od__law_cell_at, .func (PySem.W.fnOf "_law_cell_at" "_law_cell_at" (defArgs s__law_cell_at) (defBody s__law_cell_at) (defScope s__law_cell_at) .none kV__law_cell_at dc__law_cell_at pm__law_cell_at an__law_cell_at cd__law_cell_at ct__law_cell_at), sl__law_cell_at⟩)
    (e__law_cell_at : PySem.W.codeIn K cd__law_cell_at "_law_cell_at" = true)
    (k__law_cell_at : PySem.W.keepIn K (.ref f__law_cell_at) = true)
    (a__law_stir : PySem.W.nsIn K mainGlobals "_law_stir" = some (some (.ref f__law_stir)))
    (l__law_stir : K.lookup f__law_stir = some ⟨oc__law_stir, od__law_stir, .func (PySem.W.fnOf "_law_stir" "_law_stir" (defArgs s__law_stir) (defBody s__law_stir) (defScope s__law_stir) .none kV__law_stir dc__law_stir pm__law_stir an__law_stir cd__law_stir ct__law_stir), sl__law_stir⟩)
    (e__law_stir : PySem.W.codeIn K cd__law_stir "_law_stir" = true)
    (k__law_stir : PySem.W.keepIn K (.ref f__law_stir) = true)
    (a__law_drawn : PySem.W.nsIn K mainGlobals "_law_drawn" = some (some (.ref f__law_drawn)))
    (l__law_drawn : K.lookup f__law_drawn = some ⟨oc__law_drawn, od__law_drawn, .func (PySem.W.fnOf "_law_drawn" "_law_drawn" (defArgs s__law_drawn) (defBody s__law_drawn) (defScope s__law_drawn) .none kV__law_drawn dc__law_drawn pm__law_drawn an__law_drawn cd__law_drawn ct__law_drawn), sl__law_drawn⟩)
    (e__law_drawn : PySem.W.codeIn K cd__law_drawn "_law_drawn" = true)
    (k__law_drawn : PySem.W.keepIn K (.ref f__law_drawn) = true)
    (a__law_whole : PySem.W.nsIn K mainGlobals "_law_whole" = some (some (.ref f__law_whole)))
    (l__law_whole : K.lookup f__law_whole = some ⟨oc__law_whole, od__law_whole, .func (PySem.W.fnOf "_law_whole" "_law_whole" (defArgs s__law_whole) (defBody s__law_whole) (defScope s__law_whole) .none kV__law_whole dc__law_whole pm__law_whole an__law_whole cd__law_whole ct__law_whole), sl__law_whole⟩)
    (e__law_whole : PySem.W.codeIn K cd__law_whole "_law_whole" = true)
    (k__law_whole : PySem.W.keepIn K (.ref f__law_whole) = true)
    (a__law_divisor : PySem.W.nsIn K mainGlobals "_law_divisor" = some (some (.ref f__law_divisor)))
    (l__law_divisor : K.lookup f__law_divisor = some ⟨oc__law_divisor, od__law_divisor, .func (PySem.W.fnOf "_law_divisor" "_law_divisor" (defArgs s__law_divisor) (defBody s__law_divisor) (defScope s__law_divisor) .none kV__law_divisor dc__law_divisor pm__law_divisor an__law_divisor cd__law_divisor ct__law_divisor), sl__law_divisor⟩)
    (e__law_divisor : PySem.W.codeIn K cd__law_divisor "_law_divisor" = true)
    (k__law_divisor : PySem.W.keepIn K (.ref f__law_divisor) = true)
    (a__law_low : PySem.W.nsIn K mainGlobals "_law_low" = some (some (.ref f__law_low)))
    (l__law_low : K.lookup f__law_low = some ⟨oc__law_low, od__law_low, .func (PySem.W.fnOf "_law_low" "_law_low" (defArgs s__law_low) (defBody s__law_low) (defScope s__law_low) .none kV__law_low dc__law_low pm__law_low an__law_low cd__law_low ct__law_low), sl__law_low⟩)
    (e__law_low : PySem.W.codeIn K cd__law_low "_law_low" = true)
    (k__law_low : PySem.W.keepIn K (.ref f__law_low) = true)
    (a__law_add : PySem.W.nsIn K mainGlobals "_law_add" = some (some (.ref f__law_add)))
    (l__law_add : K.lookup f__law_add = some ⟨oc__law_add, od__law_add, .func (PySem.W.fnOf "_law_add" "_law_add" (defArgs s__law_add) (defBody s__law_add) (defScope s__law_add) .none kV__law_add dc__law_add pm__law_add an__law_add cd__law_add ct__law_add), sl__law_add⟩)
    (e__law_add : PySem.W.codeIn K cd__law_add "_law_add" = true)
    (k__law_add : PySem.W.keepIn K (.ref f__law_add) = true)
    (a__law_take : PySem.W.nsIn K mainGlobals "_law_take" = some (some (.ref f__law_take)))
    (l__law_take : K.lookup f__law_take = some ⟨oc__law_take, od__law_take, .func (PySem.W.fnOf "_law_take" "_law_take" (defArgs s__law_take) (defBody s__law_take) (defScope s__law_take) .none kV__law_take dc__law_take pm__law_take an__law_take cd__law_take ct__law_take), sl__law_take⟩)
    (e__law_take : PySem.W.codeIn K cd__law_take "_law_take" = true)
    (k__law_take : PySem.W.keepIn K (.ref f__law_take) = true)
    (a__law_mul : PySem.W.nsIn K mainGlobals "_law_mul" = some (some (.ref f__law_mul)))
    (l__law_mul : K.lookup f__law_mul = some ⟨oc__law_mul, od__law_mul, .func (PySem.W.fnOf "_law_mul" "_law_mul" (defArgs s__law_mul) (defBody s__law_mul) (defScope s__law_mul) .none kV__law_mul dc__law_mul pm__law_mul an__law_mul cd__law_mul ct__law_mul), sl__law_mul⟩)
    (e__law_mul : PySem.W.codeIn K cd__law_mul "_law_mul" = true)
    (k__law_mul : PySem.W.keepIn K (.ref f__law_mul) = true)
    (a__law_is_fraction : PySem.W.nsIn K mainGlobals "_law_is_fraction" = some (some (.ref f__law_is_fraction)))
    (l__law_is_fraction : K.lookup f__law_is_fraction = some ⟨oc__law_is_fraction, od__law_is_fraction, .func (PySem.W.fnOf "_law_is_fraction" "_law_is_fraction" (defArgs s__law_is_fraction) (defBody s__law_is_fraction) (defScope s__law_is_fraction) .none kV__law_is_fraction dc__law_is_fraction pm__law_is_fraction an__law_is_fraction cd__law_is_fraction ct__law_is_fraction), sl__law_is_fraction⟩)
    (e__law_is_fraction : PySem.W.codeIn K cd__law_is_fraction "_law_is_fraction" = true)
    (k__law_is_fraction : PySem.W.keepIn K (.ref f__law_is_fraction) = true)
    (a__law_are_fractions : PySem.W.nsIn K mainGlobals "_law_are_fractions" = some (some (.ref f__law_are_fractions)))
    (l__law_are_fractions : K.lookup f__law_are_fractions = some ⟨oc__law_are_fractions, od__law_are_fractions, .func (PySem.W.fnOf "_law_are_fractions" "_law_are_fractions" (defArgs s__law_are_fractions) (defBody s__law_are_fractions) (defScope s__law_are_fractions) .none kV__law_are_fractions dc__law_are_fractions pm__law_are_fractions an__law_are_fractions cd__law_are_fractions ct__law_are_fractions), sl__law_are_fractions⟩)
    (e__law_are_fractions : PySem.W.codeIn K cd__law_are_fractions "_law_are_fractions" = true)
    (k__law_are_fractions : PySem.W.keepIn K (.ref f__law_are_fractions) = true)
    (a__law_told_weights : PySem.W.nsIn K mainGlobals "_law_told_weights" = some (some (.ref f__law_told_weights)))
    (l__law_told_weights : K.lookup f__law_told_weights = some ⟨oc__law_told_weights, od__law_told_weights, .func (PySem.W.fnOf "_law_told_weights" "_law_told_weights" (defArgs s__law_told_weights) (defBody s__law_told_weights) (defScope s__law_told_weights) .none kV__law_told_weights dc__law_told_weights pm__law_told_weights an__law_told_weights cd__law_told_weights ct__law_told_weights), sl__law_told_weights⟩)
    (e__law_told_weights : PySem.W.codeIn K cd__law_told_weights "_law_told_weights" = true)
    (k__law_told_weights : PySem.W.keepIn K (.ref f__law_told_weights) = true)
    (a__law_bars : PySem.W.nsIn K mainGlobals "_law_bars" = some (some (.ref f__law_bars)))
    (l__law_bars : K.lookup f__law_bars = some ⟨oc__law_bars, od__law_bars, .func (PySem.W.fnOf "_law_bars" "_law_bars" (defArgs s__law_bars) (defBody s__law_bars) (defScope s__law_bars) .none kV__law_bars dc__law_bars pm__law_bars an__law_bars cd__law_bars ct__law_bars), sl__law_bars⟩)
    (e__law_bars : PySem.W.codeIn K cd__law_bars "_law_bars" = true)
    (k__law_bars : PySem.W.keepIn K (.ref f__law_bars) = true)
    (a__law_spots : PySem.W.nsIn K mainGlobals "_law_spots" = some (some (.ref f__law_spots)))
    (l__law_spots : K.lookup f__law_spots = some ⟨oc__law_spots, od__law_spots, .func (PySem.W.fnOf "_law_spots" "_law_spots" (defArgs s__law_spots) (defBody s__law_spots) (defScope s__law_spots) .none kV__law_spots dc__law_spots pm__law_spots an__law_spots cd__law_spots ct__law_spots), sl__law_spots⟩)
    (e__law_spots : PySem.W.codeIn K cd__law_spots "_law_spots" = true)
    (k__law_spots : PySem.W.keepIn K (.ref f__law_spots) = true)
    (a_law : PySem.W.nsIn K mainGlobals "law" = some (some (.ref f_law)))
    (l_law : K.lookup f_law = some ⟨oc_law, od_law, .func (PySem.W.fnOf "law" "law" (defArgs s_law) (defBody s_law) (defScope s_law) .none kV_law dc_law pm_law an_law cd_law ct_law), sl_law⟩)
    (e_law : PySem.W.codeIn K cd_law "law" = true)
    (k_law : PySem.W.keepIn K (.ref f_law) = true)
    (a_NOUGHT : PySem.W.nsIn K mainGlobals "NOUGHT" = some (some (.ref C_NOUGHT)))
    (a_NoFraction : PySem.W.nsIn K mainGlobals "NoFraction" = some (some (.ref C_NoFraction)))
    (a_NoMoments : PySem.W.nsIn K mainGlobals "NoMoments" = some (some (.ref C_NoMoments)))
    (a_ONE : PySem.W.nsIn K mainGlobals "ONE" = some (some (.ref C_ONE)))
    (a_TooFar : PySem.W.nsIn K mainGlobals "TooFar" = some (some (.ref C_TooFar)))
    (n_abs : PySem.W.nsIn K mainGlobals "abs" = some none)
    (n_all : PySem.W.nsIn K mainGlobals "all" = some none)
    (n_bool : PySem.W.nsIn K mainGlobals "bool" = some none)
    (n_enumerate : PySem.W.nsIn K mainGlobals "enumerate" = some none)
    (n_int : PySem.W.nsIn K mainGlobals "int" = some none)
    (n_isinstance : PySem.W.nsIn K mainGlobals "isinstance" = some none)
    (n_len : PySem.W.nsIn K mainGlobals "len" = some none)
    (n_list : PySem.W.nsIn K mainGlobals "list" = some none)
    (n_max : PySem.W.nsIn K mainGlobals "max" = some none)
    (n_range : PySem.W.nsIn K mainGlobals "range" = some none)
    (n_sum : PySem.W.nsIn K mainGlobals "sum" = some none)
    (n_tuple : PySem.W.nsIn K mainGlobals "tuple" = some none)
    (n_zip : PySem.W.nsIn K mainGlobals "zip" = some none)
    (a_MOST_MOMENTS : PySem.W.nsIn K mainGlobals "MOST_MOMENTS" = some (some (.int 16 tk_MOST_MOMENTS)))
    (x_nought : frIn K C_NOUGHT 0 1 = true)
    (x_one : frIn K C_ONE 1 1 = true)
    (x_tf : PySem.W.excIn K C_TooFar vmro "ValueError.__new__" = true)
    (x_nf : PySem.W.excIn K C_NoFraction vmro "ValueError.__new__" = true)
    (x_nm : PySem.W.excIn K C_NoMoments vmro "ValueError.__new__" = true)
    : ∃ fd : FuncData, (∀ (s : Shared) (v : Value), BindsTo s fd ⟨[v], []⟩ [("_law_script", v)]) ∧ ∀ base : Heap, K.In base → base.Ns mainGlobals mg → FnOk l.prog w K mg base (CXe l.prog w) 7 fa fd ["_law_script"] (spLaw K) := by
  have e := hfa.symm.trans (PySem.W.mg_of X G a_law)
  cases e
  have T : Tx w K mg C_NOUGHT C_NoFraction C_NoMoments C_ONE C_TooFar := { b_abs := PySem.W.mg_none_of X G n_abs, b_all := PySem.W.mg_none_of X G n_all, b_bool := PySem.W.mg_none_of X G n_bool, b_enumerate := PySem.W.mg_none_of X G n_enumerate, b_int := PySem.W.mg_none_of X G n_int, b_isinstance := PySem.W.mg_none_of X G n_isinstance, b_len := PySem.W.mg_none_of X G n_len, b_list := PySem.W.mg_none_of X G n_list, b_max := PySem.W.mg_none_of X G n_max, b_range := PySem.W.mg_none_of X G n_range, b_sum := PySem.W.mg_none_of X G n_sum, b_tuple := PySem.W.mg_none_of X G n_tuple, b_zip := PySem.W.mg_none_of X G n_zip, m_NOUGHT := PySem.W.mg_of X G a_NOUGHT, m_NoFraction := PySem.W.mg_of X G a_NoFraction, m_NoMoments := PySem.W.mg_of X G a_NoMoments, m_ONE := PySem.W.mg_of X G a_ONE, m_TooFar := PySem.W.mg_of X G a_TooFar, nought := frIn_sq x_nought, one := frIn_sq x_one, x_TooFar := x_tf, x_NoMoments := x_nm, x_NoFraction := x_nf, g_MOSTM := ⟨_, PySem.W.mg_of X G a_MOST_MOMENTS⟩ }
  refine ⟨PySem.W.fnOf "law" "law" (defArgs s_law) (defBody s_law) (defScope s_law) .none kV_law dc_law pm_law an_law cd_law ct_law, fun s v => .of_eq rfl, fun base _ _ => ?_⟩
  have h_shared_part := ok_shared_part (P := l.prog) (w := w) (base := base) (fun_mk (st := s_shared_part) l_shared_part e_shared_part k_shared_part) (PySem.W.mg_of X G a_shared_part) T 
  have h_plus := ok_plus (P := l.prog) (w := w) (base := base) (fun_mk (st := s_plus) l_plus e_plus k_plus) (PySem.W.mg_of X G a_plus) T h_shared_part
  have h_minus := ok_minus (P := l.prog) (w := w) (base := base) (fun_mk (st := s_minus) l_minus e_minus k_minus) (PySem.W.mg_of X G a_minus) T h_plus
  have h_times := ok_times (P := l.prog) (w := w) (base := base) (fun_mk (st := s_times) l_times e_times k_times) (PySem.W.mg_of X G a_times) T h_shared_part
  have h_over := ok_over (P := l.prog) (w := w) (base := base) (fun_mk (st := s_over) l_over e_over k_over) (PySem.W.mg_of X G a_over) T h_times
  have h_poly_of := ok_poly_of (P := l.prog) (w := w) (base := base) (fun_mk (st := s_poly_of) l_poly_of e_poly_of k_poly_of) (PySem.W.mg_of X G a_poly_of) T 
  have h_number_at := ok_number_at (P := l.prog) (w := w) (base := base) (fun_mk (st := s_number_at) l_number_at e_number_at k_number_at) (PySem.W.mg_of X G a_number_at) T 
  have h_poly_plus := ok_poly_plus (P := l.prog) (w := w) (base := base) (fun_mk (st := s_poly_plus) l_poly_plus e_poly_plus k_poly_plus) (PySem.W.mg_of X G a_poly_plus) T h_number_at h_plus h_poly_of
  have h_poly_scaled := ok_poly_scaled (P := l.prog) (w := w) (base := base) (fun_mk (st := s_poly_scaled) l_poly_scaled e_poly_scaled k_poly_scaled) (PySem.W.mg_of X G a_poly_scaled) T h_poly_of h_times
  have h_poly_minus := ok_poly_minus (P := l.prog) (w := w) (base := base) (fun_mk (st := s_poly_minus) l_poly_minus e_poly_minus k_poly_minus) (PySem.W.mg_of X G a_poly_minus) T h_poly_plus h_poly_scaled
  have h_poly_times := ok_poly_times (P := l.prog) (w := w) (base := base) (fun_mk (st := s_poly_times) l_poly_times e_poly_times k_poly_times) (PySem.W.mg_of X G a_poly_times) T h_plus h_poly_of h_times
  have h_degree_of := ok_degree_of (P := l.prog) (w := w) (base := base) (fun_mk (st := s_degree_of) l_degree_of e_degree_of k_degree_of) (PySem.W.mg_of X G a_degree_of) T 
  have h_one_further := ok_one_further (P := l.prog) (w := w) (base := base) (fun_mk (st := s_one_further) l_one_further e_one_further k_one_further) (PySem.W.mg_of X G a_one_further) T h_minus h_poly_minus h_poly_of h_poly_scaled h_poly_times
  have h_ruled := ok_ruled (P := l.prog) (w := w) (base := base) (fun_mk (st := s_ruled) l_ruled e_ruled k_ruled) (PySem.W.mg_of X G a_ruled) T h_degree_of h_plus h_times
  have h_check_moments := ok_check_moments (P := l.prog) (w := w) (base := base) (fun_mk (st := s_check_moments) l_check_moments e_check_moments k_check_moments) (PySem.W.mg_of X G a_check_moments) T 
  have h_weights_back := ok_weights_back (P := l.prog) (w := w) (base := base) (fun_mk (st := s_weights_back) l_weights_back e_weights_back k_weights_back) (PySem.W.mg_of X G a_weights_back) T h_check_moments h_minus h_one_further h_over h_ruled
  have h__law_cell_at := ok__law_cell_at (P := l.prog) (w := w) (base := base) (fun_mk (st := s__law_cell_at) l__law_cell_at e__law_cell_at k__law_cell_at) (PySem.W.mg_of X G a__law_cell_at) T 
  have h__law_stir := ok__law_stir (P := l.prog) (w := w) (base := base) (fun_mk (st := s__law_stir) l__law_stir e__law_stir k__law_stir) (PySem.W.mg_of X G a__law_stir) T 
  have h__law_drawn := ok__law_drawn (P := l.prog) (w := w) (base := base) (fun_mk (st := s__law_drawn) l__law_drawn e__law_drawn k__law_drawn) (PySem.W.mg_of X G a__law_drawn) T h__law_cell_at h__law_stir
  have h__law_whole := ok__law_whole (P := l.prog) (w := w) (base := base) (fun_mk (st := s__law_whole) l__law_whole e__law_whole k__law_whole) (PySem.W.mg_of X G a__law_whole) T 
  have h__law_divisor := ok__law_divisor (P := l.prog) (w := w) (base := base) (fun_mk (st := s__law_divisor) l__law_divisor e__law_divisor k__law_divisor) (PySem.W.mg_of X G a__law_divisor) T 
  have h__law_low := ok__law_low (P := l.prog) (w := w) (base := base) (fun_mk (st := s__law_low) l__law_low e__law_low k__law_low) (PySem.W.mg_of X G a__law_low) T h__law_divisor
  have h__law_add := ok__law_add (P := l.prog) (w := w) (base := base) (fun_mk (st := s__law_add) l__law_add e__law_add k__law_add) (PySem.W.mg_of X G a__law_add) T h__law_low
  have h__law_take := ok__law_take (P := l.prog) (w := w) (base := base) (fun_mk (st := s__law_take) l__law_take e__law_take k__law_take) (PySem.W.mg_of X G a__law_take) T h__law_low
  have h__law_mul := ok__law_mul (P := l.prog) (w := w) (base := base) (fun_mk (st := s__law_mul) l__law_mul e__law_mul k__law_mul) (PySem.W.mg_of X G a__law_mul) T h__law_low
  have h__law_is_fraction := ok__law_is_fraction (P := l.prog) (w := w) (base := base) (fun_mk (st := s__law_is_fraction) l__law_is_fraction e__law_is_fraction k__law_is_fraction) (PySem.W.mg_of X G a__law_is_fraction) T h__law_divisor h__law_whole
  have h__law_are_fractions := ok__law_are_fractions (P := l.prog) (w := w) (base := base) (fun_mk (st := s__law_are_fractions) l__law_are_fractions e__law_are_fractions k__law_are_fractions) (PySem.W.mg_of X G a__law_are_fractions) T h__law_is_fraction
  have h__law_told_weights := ok__law_told_weights (P := l.prog) (w := w) (base := base) (fun_mk (st := s__law_told_weights) l__law_told_weights e__law_told_weights k__law_told_weights) (PySem.W.mg_of X G a__law_told_weights) T h__law_is_fraction
  have h__law_bars := ok__law_bars (P := l.prog) (w := w) (base := base) (fun_mk (st := s__law_bars) l__law_bars e__law_bars k__law_bars) (PySem.W.mg_of X G a__law_bars) T h__law_add h__law_are_fractions h__law_mul h__law_whole
  have h__law_spots := ok__law_spots (P := l.prog) (w := w) (base := base) (fun_mk (st := s__law_spots) l__law_spots e__law_spots k__law_spots) (PySem.W.mg_of X G a__law_spots) T h__law_add h__law_drawn h__law_low
  exact fn_law (fun_mk (st := s_law) l_law e_law k_law) T h__law_add h__law_bars h__law_drawn h__law_low h__law_mul h__law_spots h__law_take h__law_told_weights h_weights_back
theorem walk {l : PySem.W.OpenLaw} {q : Program} {loose : List Str} {XP : (Str → Option Value) → Heap → Prop} {YP : World → Heap → Prop} {d : DefRec} {K : Params → PySem.W.Frag} (hn : l.most = some 63) (hdf : d.params.defaults = [])
    (hY : ∀ (w : World) (h : Heap), YP w h → (K w.params).In h)
    (F : ∀ (w : World) (mg : Str → Option Value) (fa : Addr) (h : Heap), (K w.params).In h → h.Ns mainGlobals mg → mg d.name = some (.ref fa) →
      ∃ fd : FuncData, (∀ (s : Shared) (u : Value), BindsTo s fd ⟨[u], []⟩ [("_law_script", u)]) ∧ ∀ base : Heap, (K w.params).In base → base.Ns mainGlobals mg → FnOk l.prog w (K w.params) mg base (CXe l.prog w) 7 fa fd ["_law_script"] (spLaw (K w.params))) :
    PySem.W.WalkO q loose XP YP l.row.toRowW d [] (fun f vs => PySem.call f vs) :=
  L2.walk_of (n := 63) (k := 7) (x := "_law_script") (CX := fun w => CXe l.prog w) (sp := fun w => spLaw (K w.params)) hn (by decide) hdf ⟨rfl, by decide, by decide⟩ hY F (fun _ _ a ns hl _ hS => ⟨a, ns, rfl, hS, hl, fun _ => rfl⟩) fun _ _ _ _ _ ⟨_, _, _, _, _, _, _, _, z⟩ => z
end K25
theorem PySem.W.Fast.tw13877017855682353957 : True := trivial
theorem PySem.W.Fast.tw10300689960707526035 : True := trivial
theorem PySem.W.Fast.tw4049392049971446189 : True := trivial
theorem PySem.W.Fast.tw12684624825280377129 : True := trivial
theorem PySem.W.Fast.tw6669026114517524236 : True := trivial
theorem PySem.W.Fast.tw7331472524622698896 : True := trivial
theorem PySem.W.Fast.tw10817544333401213017 : True := trivial
theorem PySem.W.Fast.tw5334220470258646281 : True := trivial
theorem PySem.W.Fast.tw7306524546684152612 : True := trivial
theorem PySem.W.Fast.tw6185741564916872312 : True := trivial
theorem PySem.W.Fast.tw8963310594486458410 : True := trivial
theorem PySem.W.Fast.tw12885776692007170768 : True := trivial
theorem PySem.W.Fast.tw2290104948760630133 : True := trivial
theorem PySem.W.Fast.tw7480442457197762338 : True := trivial
theorem PySem.W.Fast.tw9911248856565001856 : True := trivial
theorem PySem.W.Fast.tw14644499247656510688 : True := trivial
theorem PySem.W.Fast.tw3191230658527139340 : True := trivial
theorem PySem.W.Fast.tw6051511871736058627 : True := trivial
theorem PySem.W.Fast.tw12122965297449996341 : True := trivial
theorem PySem.W.Fast.tw10323492085396643320 : True := trivial
theorem PySem.W.Fast.tw7446775361655151992 : True := trivial
theorem PySem.W.Fast.tw17205719889447601794 : True := trivial
theorem PySem.W.Fast.tw8116615847574469593 : True := trivial
theorem PySem.W.Fast.tw272566792299193481 : True := trivial
theorem PySem.W.Fast.tw11681594954513828380 : True := trivial
theorem PySem.W.Fast.tw8641683912282043699 : True := trivial
theorem PySem.W.Fast.tw9392469016474026558 : True := trivial
theorem PySem.W.Fast.tw10351762499973229317 : True := trivial
theorem PySem.W.Fast.tw15926418929736188179 : True := trivial
theorem PySem.W.Fast.tw10503603399665173303 : True := trivial
theorem PySem.W.Fast.tw177444890076429066 : True := trivial
theorem PySem.W.Fast.tw6933725133203262880 : True := trivial
theorem PySem.W.Fast.tw8869953973027649906 : True := trivial
theorem PySem.W.Fast.tw10240883204537103168 : True := trivial
theorem PySem.W.Fast.tw1356306129621890946 : True := trivial
theorem PySem.W.Fast.tw14734531427504947955 : True := trivial
theorem PySem.W.Fast.tw12668239482870477992 : True := trivial
theorem PySem.W.Fast.tw7582463818202098624 : True := trivial
theorem PySem.W.Fast.tw9398644298673300468 : True := trivial
theorem PySem.W.Fast.tw5800319597823622790 : True := trivial
theorem PySem.W.Fast.tw781949589283373225 : True := trivial
theorem PySem.W.Fast.tw14549722995143214829 : True := trivial
theorem PySem.W.Fast.tw13281599707950901220 : True := trivial
theorem PySem.W.Fast.tw3794708288930924599 : True := trivial
theorem PySem.W.Fast.tw17973432276073743890 : True := trivial
theorem PySem.W.Fast.tw9374419646758075413 : True := trivial
theorem PySem.W.Fast.tw11612011298192059747 : True := trivial
theorem PySem.W.Fast.tw9951551074606375659 : True := trivial
theorem PySem.W.Fast.tw15537229349318302709 : True := trivial
theorem PySem.W.Fast.tw17811652221196327575 : True := trivial
theorem PySem.W.Fast.tw14592255284246623675 : True := trivial
theorem PySem.W.Fast.tw14434378429289353191 : True := trivial
theorem PySem.W.Fast.tw7537043279921126629 : True := trivial
theorem PySem.W.Fast.tw12038211602742539114 : True := trivial
theorem PySem.W.Fast.tw17773368252926135466 : True := trivial
theorem PySem.W.Fast.tw14693723945265051310 : True := trivial
theorem PySem.W.Fast.tw11272573413245937226 : True := trivial
theorem PySem.W.Fast.tw13836471826973356385 : True := trivial
theorem PySem.W.Fast.tw8319766558976993953 : True := trivial
theorem PySem.W.Fast.tw10100654508486928683 : True := trivial
theorem PySem.W.Fast.tw2184760113515868508 : True := trivial
theorem PySem.W.Fast.tw9817839527438393975 : True := trivial
theorem PySem.W.Fast.tw6709347401796167330 : True := trivial
theorem PySem.W.Fast.tw10411502297926291863 : True := trivial
theorem PySem.W.Fast.tw7367672438487518340 : True := trivial
theorem PySem.W.Fast.tw16918111401691594360 : True := trivial
theorem PySem.W.Fast.tw10712237865948433015 : True := trivial
theorem PySem.W.Fast.tw3124897259160175387 : True := trivial
theorem PySem.W.Fast.tw60512035683326754 : True := trivial
theorem PySem.W.Fast.tw10384990451240001269 : True := trivial
theorem PySem.W.Fast.tw18391070351742873419 : True := trivial
theorem PySem.W.Fast.tw5894881599975830363 : True := trivial
theorem PySem.W.Fast.tw9466160437915103655 : True := trivial
theorem PySem.W.Fast.tw6037935373019213225 : True := trivial
theorem PySem.W.Fast.tw16175822020384541952 : True := trivial
theorem PySem.W.Fast.tw3771177294871108914 : True := trivial
theorem PySem.W.Fast.tw6258113231371414886 : True := trivial
theorem PySem.W.Fast.tw14054869932213953272 : True := trivial
theorem PySem.W.Fast.tw15417539757646806344 : True := trivial
theorem PySem.W.Fast.tw17271098393244490033 : True := trivial
theorem PySem.W.Fast.tw1447616412059166700 : True := trivial
theorem PySem.W.Fast.tw5509606208523844073 : True := trivial
theorem PySem.W.Fast.tw18274208025868315186 : True := trivial
theorem PySem.W.Fast.tw7698537216333127307 : True := trivial
theorem PySem.W.Fast.tw1250400852592088631 : True := trivial
theorem PySem.W.Fast.tw8830336985908931275 : True := trivial
theorem PySem.W.Fast.tw16099833199679287927 : True := trivial
theorem PySem.W.Fast.tw6902341001362200273 : True := trivial
theorem PySem.W.Fast.tw15860507121636340902 : True := trivial
theorem PySem.W.Fast.tw11008605863798759708 : True := trivial
theorem PySem.W.Fast.tw17635387221181551919 : True := trivial
theorem PySem.W.Fast.tw8780721395073679440 : True := trivial
theorem PySem.W.Fast.tw11183385298301124942 : True := trivial
theorem PySem.W.Fast.tw17928437197829207932 : True := trivial
theorem PySem.W.Fast.tw6685093656493631942 : True := trivial
theorem PySem.W.Fast.tw13912656054362426281 : True := trivial
theorem PySem.W.Fast.tw1613043589761390881 : True := trivial
theorem PySem.W.Fast.tw6176228426647776771 : True := trivial
theorem PySem.W.Fast.tw5989751766504356332 : True := trivial
theorem PySem.W.Fast.tw4624206972332632567 : True := trivial
theorem PySem.W.Fast.tw6484291056256261873 : True := trivial
theorem PySem.W.Fast.tw16866435149701069857 : True := trivial
theorem PySem.W.Fast.tw3758279893543399101 : True := trivial
theorem PySem.W.Fast.tw16996321925521740415 : True := trivial
theorem PySem.W.Fast.tw2221278768781007911 : True := trivial
theorem PySem.W.Fast.tw9679307773219997336 : True := trivial
theorem PySem.W.Fast.tw14856306580694850112 : True := trivial
theorem PySem.W.Fast.tw4374662318581990966 : True := trivial
theorem PySem.W.Fast.tw16568734086977641130 : True := trivial
theorem PySem.W.Fast.tw2052526501731979277 : True := trivial
theorem PySem.W.Fast.tw4928153820259970593 : True := trivial
theorem PySem.W.Fast.tw8398752352997041998 : True := trivial
theorem PySem.W.Fast.tw8346011330051044544 : True := trivial
theorem PySem.W.Fast.tw15872712639864511344 : True := trivial
theorem PySem.W.Fast.tw13155638983666650601 : True := trivial
theorem PySem.W.Fast.tw17665038890086882219 : True := trivial
theorem PySem.W.Fast.tw8758336750642153556 : True := trivial
theorem PySem.W.Fast.tw7824469516339216961 : True := trivial
theorem PySem.W.Fast.tw6991901982770472251 : True := trivial
theorem PySem.W.Fast.tw3881723513256406625 : True := trivial
theorem PySem.W.Fast.tw3119720339559087940 : True := trivial
theorem PySem.W.Fast.tw5887682955076989468 : True := trivial
theorem PySem.W.Fast.tw14705208459980552592 : True := trivial
theorem PySem.W.Fast.tw16885967295321461817 : True := trivial
theorem PySem.W.Fast.tw13887592367097131866 : True := trivial
theorem PySem.W.Fast.tw12569905393748687014 : True := trivial
theorem PySem.W.Fast.tw13862801551105470683 : True := trivial
theorem PySem.W.Fast.tw7424166223176821765 : True := trivial
theorem PySem.W.Fast.tw5517968226254588489 : True := trivial
theorem PySem.W.Fast.tw8261851389989557432 : True := trivial
theorem PySem.W.Fast.tw7072907107058258936 : True := trivial
theorem PySem.W.Fast.tw13362021120819470762 : True := trivial
theorem PySem.W.Fast.tw12999983475611580516 : True := trivial
theorem PySem.W.Fast.tw5549690029484748058 : True := trivial
theorem PySem.W.Fast.tw4089348193791573415 : True := trivial
theorem PySem.W.Fast.tw2219947396839071537 : True := trivial
theorem PySem.W.Fast.tw15188742467469503610 : True := trivial
theorem PySem.W.Fast.tw10366996962975507259 : True := trivial
theorem PySem.W.Fast.tw11113980682310581524 : True := trivial
theorem PySem.W.Fast.tw11125341500924917501 : True := trivial
theorem PySem.W.Fast.tw11099112690248162066 : True := trivial
theorem PySem.W.Fast.tw3240632177026440795 : True := trivial
theorem PySem.W.Fast.tw15058979957705412973 : True := trivial
theorem PySem.W.Fast.tw7104854091191345807 : True := trivial
theorem PySem.W.Fast.tw7101127586171228319 : True := trivial
theorem PySem.W.Fast.tw16334668028593539513 : True := trivial
theorem PySem.W.Fast.tw6012655718173688364 : True := trivial
theorem PySem.W.Fast.tw12928869011401607491 : True := trivial
theorem PySem.W.Fast.tw10569921035419847978 : True := trivial
theorem PySem.W.Fast.tw12452892170462586407 : True := trivial
theorem PySem.W.Fast.tw9916920867507687868 : True := trivial
theorem PySem.W.Fast.tw5391155326561172315 : True := trivial
theorem PySem.W.Fast.tw15944370526620163402 : True := trivial
theorem PySem.W.Fast.tw1546010632405320378 : True := trivial
theorem PySem.W.Fast.tw17183033869297179871 : True := trivial
theorem PySem.W.Fast.tw7716951088876825166 : True := trivial
theorem PySem.W.Fast.tw11389039866815192192 : True := trivial
theorem PySem.W.Fast.tw15031402520591861090 : True := trivial
theorem PySem.W.Fast.tw5466169955069756145 : True := trivial
theorem PySem.W.Fast.tw4950633401447319154 : True := trivial
theorem PySem.W.Fast.tw9710293054992207566 : True := trivial
theorem PySem.W.Fast.tw13257599262874455531 : True := trivial
theorem PySem.W.Fast.tw11438482232991683166 : True := trivial
theorem PySem.W.Fast.tw5227552416540570198 : True := trivial
theorem PySem.W.Fast.tw3799145884663593862 : True := trivial
theorem PySem.W.Fast.tw17880081730735935746 : True := trivial
theorem PySem.W.Fast.tw259737361464278519 : True := trivial
theorem PySem.W.Fast.tw11555700483020233474 : True := trivial
theorem PySem.W.Fast.tw12050997401660017569 : True := trivial
theorem PySem.W.Fast.tw5121632591068034165 : True := trivial
theorem PySem.W.Fast.tw14545125157390094761 : True := trivial
theorem PySem.W.Fast.tw10744017083865733075 : True := trivial
theorem PySem.W.Fast.tw1474869689772321490 : True := trivial
theorem PySem.W.Fast.tw5232935683090620074 : True := trivial
theorem PySem.W.Fast.tw5554950264355373166 : True := trivial
theorem PySem.W.Fast.tw17889279854341704346 : True := trivial
theorem PySem.W.Fast.tw16707883833869248484 : True := trivial
theorem PySem.W.Fast.tw4851954014528219944 : True := trivial
theorem PySem.W.Fast.tw17265450023475228054 : True := trivial
theorem PySem.W.Fast.tw12238417802155139150 : True := trivial
theorem PySem.W.Fast.tw8041397933410958632 : True := trivial
theorem PySem.W.Fast.tw12344359060156722441 : True := trivial
theorem PySem.W.Fast.tw3723679214285358249 : True := trivial
theorem PySem.W.Fast.tw12037304302610338065 : True := trivial
theorem PySem.W.Fast.tw9311411040094024773 : True := trivial
theorem PySem.W.Fast.tw8565285546949288210 : True := trivial
theorem PySem.W.Fast.tw4464768565580628596 : True := trivial
theorem PySem.W.Fast.tw7280733758666324589 : True := trivial
theorem PySem.W.Fast.tw1974521524236073783 : True := trivial
theorem PySem.W.Fast.tw13164653095937067467 : True := trivial
theorem PySem.W.Fast.tw10262870425981079966 : True := trivial
theorem PySem.W.Fast.tw6114667344458087895 : True := trivial
theorem PySem.W.Fast.tw6358549398225417914 : True := trivial
theorem PySem.W.Fast.tw6413531577248637343 : True := trivial
theorem PySem.W.Fast.tw16647230603375105719 : True := trivial
theorem PySem.W.Fast.tw17205235314856838713 : True := trivial
theorem PySem.W.Fast.tw9538152705848554226 : True := trivial
theorem PySem.W.Fast.tw17219402412615632441 : True := trivial
theorem PySem.W.Fast.tw9849938296104031723 : True := trivial
theorem PySem.W.Fast.tw3121658714520858862 : True := trivial
theorem PySem.W.Fast.tw15724070832371026152 : True := trivial
theorem PySem.W.Fast.tw5920695364222510340 : True := trivial
theorem PySem.W.Fast.tw9958524081970198945 : True := trivial
theorem PySem.W.Fast.tw10855545933825153024 : True := trivial
theorem PySem.W.Fast.tw11746494645987679456 : True := trivial
theorem PySem.W.Fast.tw13932787172020502973 : True := trivial
theorem PySem.W.Fast.tw9423127910288836345 : True := trivial
theorem PySem.W.Fast.tw16319863946716555124 : True := trivial
theorem PySem.W.Fast.tw6681456612248361213 : True := trivial
theorem PySem.W.Fast.tw3397152983773298289 : True := trivial
theorem PySem.W.Fast.tw16930071427387909961 : True := trivial
theorem PySem.W.Fast.tw8981754152007872846 : True := trivial
theorem PySem.W.Fast.tw18050737824114989081 : True := trivial
theorem PySem.W.Fast.tw15160063661640953089 : True := trivial
theorem PySem.W.Fast.tw2643034459034126872 : True := trivial
theorem PySem.W.Fast.tw15354450523484209077 : True := trivial
theorem PySem.W.Fast.tw9265928309586438406 : True := trivial
theorem PySem.W.Fast.tw6191602341614832434 : True := trivial
theorem PySem.W.Fast.tw8385581150971972859 : True := trivial
theorem PySem.W.Fast.tw13038652252557190852 : True := trivial
theorem PySem.W.Fast.tw13744930740451750084 : True := trivial
theorem PySem.W.Fast.tw5237472027463216643 : True := trivial
theorem PySem.W.Fast.tw17935803166602911908 : True := trivial
theorem PySem.W.Fast.tw4965934275060349631 : True := trivial
theorem PySem.W.Fast.tw10523030051986436954 : True := trivial
theorem PySem.W.Fast.tw3314299173404900467 : True := trivial
theorem PySem.W.Fast.tw14788567910195711154 : True := trivial
theorem PySem.W.Fast.tw11886983544574301697 : True := trivial
theorem PySem.W.Fast.tw4075198051159166195 : True := trivial
theorem PySem.W.Fast.tw3141286080217809713 : True := trivial
theorem PySem.W.Fast.tw15096849536263978701 : True := trivial
theorem PySem.W.Fast.tw13790825305980759993 : True := trivial
theorem PySem.W.Fast.tw2647382105144214540 : True := trivial
theorem PySem.W.Fast.tw14086435220232249129 : True := trivial
theorem PySem.W.Fast.tw4571235519365446107 : True := trivial
theorem PySem.W.Fast.tw13166050259053594260 : True := trivial
theorem PySem.W.Fast.tw3452432127907194039 : True := trivial
theorem PySem.W.Fast.tw11413327269414976065 : True := trivial
theorem PySem.W.Fast.tw4201404962439392246 : True := trivial
theorem PySem.W.Fast.tw4311993336970972382 : True := trivial
theorem PySem.W.Fast.tw17895750830561098232 : True := trivial
theorem PySem.W.Fast.tw8587485735264026195 : True := trivial
theorem PySem.W.Fast.tw16165581148579156831 : True := trivial
theorem PySem.W.Fast.tw9149579592093869642 : True := trivial
theorem PySem.W.Fast.tw13517217415153500165 : True := trivial
theorem PySem.W.Fast.tw2842069233896989460 : True := trivial
theorem PySem.W.Fast.tw11969491583953020246 : True := trivial
theorem PySem.W.Fast.tw13170959219069432463 : True := trivial
theorem PySem.W.Fast.tw8600310407869416707 : True := trivial
theorem PySem.W.Fast.tw11706989609481856668 : True := trivial
theorem PySem.W.Fast.tw16090144457575056840 : True := trivial
theorem PySem.W.Fast.tw8949585946665459157 : True := trivial
theorem PySem.W.Fast.tw11690779895446920789 : True := trivial
theorem PySem.W.Fast.tw2766144053099886915 : True := trivial
theorem PySem.W.Fast.tw3153981387274252910 : True := trivial
theorem PySem.W.Fast.tw11568820244017297776 : True := trivial
theorem PySem.W.Fast.tw4134405084362599812 : True := trivial
theorem PySem.W.Fast.tw14040688977107851186 : True := trivial
theorem PySem.W.Fast.tw6908898897508697168 : True := trivial
theorem PySem.W.Fast.tw4366771616060119726 : True := trivial
theorem PySem.W.Fast.tw14942288771927313553 : True := trivial
theorem PySem.W.Fast.tw11830224989646312717 : True := trivial
theorem PySem.W.Fast.tw18444402925841122601 : True := trivial
theorem PySem.W.Fast.tw17956236752477911858 : True := trivial
theorem PySem.W.Fast.tw6190683962617398625 : True := trivial
theorem PySem.W.Fast.tw18309521823026842495 : True := trivial
theorem PySem.W.Fast.tw8967400238182629455 : True := trivial
theorem PySem.W.Fast.tw11238992184975687466 : True := trivial
theorem PySem.W.Fast.tw7377231839182098547 : True := trivial
theorem PySem.W.Fast.tw7904299603248872445 : True := trivial
theorem PySem.W.Fast.tw15579690133398928254 : True := trivial
theorem PySem.W.Fast.tw10937068416954208900 : True := trivial
theorem PySem.W.Fast.tw3486585344303991152 : True := trivial
theorem PySem.W.Fast.tw17360731644257427984 : True := trivial
theorem PySem.W.Fast.tw9931105879579610650 : True := trivial
theorem PySem.W.Fast.tw8398265200631440216 : True := trivial
theorem PySem.W.Fast.tw10948105732989141666 : True := trivial
theorem PySem.W.Fast.tw4383696537325909703 : True := trivial
theorem PySem.W.Fast.tw13887259591910734255 : True := trivial
theorem PySem.W.Fast.tw14341670625471757438 : True := trivial
theorem PySem.W.Fast.tw16033300846672790544 : True := trivial
theorem PySem.W.Fast.tw8873075258840597236 : True := trivial
theorem PySem.W.Fast.tw12367789470179290407 : True := trivial
theorem PySem.W.Fast.tw3175900549946444807 : True := trivial
theorem PySem.W.Fast.tw15547025670297335959 : True := trivial
theorem PySem.W.Fast.tw7484703139928413591 : True := trivial
theorem PySem.W.Fast.tw13374333338405068065 : True := trivial
theorem PySem.W.Fast.tw13740492173140500283 : True := trivial
theorem PySem.W.Fast.tw11124120015380590758 : True := trivial
theorem PySem.W.Fast.tw1880004806417454111 : True := trivial
theorem PySem.W.Fast.tw10396730572762678062 : True := trivial
theorem PySem.W.Fast.tw5093414261251641253 : True := trivial
theorem PySem.W.Fast.tw1978381402699396831 : True := trivial
theorem PySem.W.Fast.tw1832950581626505914 : True := trivial
theorem PySem.W.Fast.tw7621626276157392276 : True := trivial
theorem PySem.W.Fast.tw221928287703254854 : True := trivial
theorem PySem.W.Fast.tw14643026980619871931 : True := trivial
theorem PySem.W.Fast.tw7475215925273973063 : True := trivial
theorem PySem.W.Fast.tw8316164896964228485 : True := trivial
theorem PySem.W.Fast.tw17190323068691521162 : True := trivial
theorem PySem.W.Fast.tw4522603935334483726 : True := trivial
theorem PySem.W.Fast.tw16845957614103629643 : True := trivial
theorem PySem.W.Fast.tw18191635650257045602 : True := trivial
theorem PySem.W.Fast.tw10600272416434676548 : True := trivial
theorem PySem.W.Fast.tw10328551617650258317 : True := trivial
theorem PySem.W.Fast.tw10043258918911222507 : True := trivial
theorem PySem.W.Fast.tw14318228903221171843 : True := trivial
theorem PySem.W.Fast.tw5133854940660342731 : True := trivial
theorem PySem.W.Fast.tw12271148870274183111 : True := trivial
theorem PySem.W.Fast.tw3863081101242222981 : True := trivial
theorem PySem.W.Fast.tw11364945178230085844 : True := trivial
theorem PySem.W.Fast.tw4880681492175851766 : True := trivial
theorem PySem.W.Fast.tw4630523022070988191 : True := trivial
theorem PySem.W.Fast.tw12934366284850853342 : True := trivial
theorem PySem.W.Fast.tw18318272231755943524 : True := trivial
theorem PySem.W.Fast.tw17358989909205144539 : True := trivial
theorem PySem.W.Fast.tw18332591581507041490 : True := trivial
theorem PySem.W.Fast.tw4875284142763127693 : True := trivial
theorem PySem.W.Fast.tw13738062897215470947 : True := trivial
theorem PySem.W.Fast.tw14422854681897329672 : True := trivial
theorem PySem.W.Fast.tw15983361074999791956 : True := trivial
theorem PySem.W.Fast.tw163771649205065558 : True := trivial
theorem PySem.W.Fast.tw16570161489006206621 : True := trivial
theorem PySem.W.Fast.tw3592819598929325780 : True := trivial
theorem PySem.W.Fast.tw4307780627298915566 : True := trivial
theorem PySem.W.Fast.tw5687164562649088339 : True := trivial
theorem PySem.W.Fast.tw18029822212308030086 : True := trivial
theorem PySem.W.Fast.tw11753911788186510138 : True := trivial
theorem PySem.W.Fast.tw4855037742675743610 : True := trivial
theorem PySem.W.Fast.tw4380463586392230606 : True := trivial
theorem PySem.W.Fast.tw9974833237415790495 : True := trivial
theorem PySem.W.Fast.tw10659455920674956253 : True := trivial
theorem PySem.W.Fast.tw7065728677720855336 : True := trivial
theorem PySem.W.Fast.tw15409469204958413700 : True := trivial
theorem PySem.W.Fast.tw14534292636091287244 : True := trivial
theorem PySem.W.Fast.tw12608594136753584997 : True := trivial
theorem PySem.W.Fast.tw17187937010589838034 : True := trivial
theorem PySem.W.Fast.tw13979125428852664461 : True := trivial
theorem PySem.W.Fast.tw954579891468135510 : True := trivial
theorem PySem.W.Fast.tw1684711728336014477 : True := trivial
theorem PySem.W.Fast.tw16660352626714614890 : True := trivial
theorem PySem.W.Fast.tw9760761800110307208 : True := trivial
theorem PySem.W.Fast.tw13019516715954839674 : True := trivial
theorem PySem.W.Fast.tw17077328352040997376 : True := trivial
theorem PySem.W.Fast.tw6273698102556931102 : True := trivial
theorem PySem.W.Fast.tw2441977115406747372 : True := trivial
theorem PySem.W.Fast.tw8385416940198757553 : True := trivial
theorem PySem.W.Fast.tw14262311369887146027 : True := trivial
theorem PySem.W.Fast.tw13862517886428426677 : True := trivial
theorem PySem.W.Fast.tw16168307203403654108 : True := trivial
theorem PySem.W.Fast.tw4910818528291772988 : True := trivial
theorem PySem.W.Fast.tw18016561206815002456 : True := trivial
theorem PySem.W.Fast.tw14413310016256413735 : True := trivial
theorem PySem.W.Fast.tw9028278621573647958 : True := trivial
theorem PySem.W.Fast.tw6365986940314602622 : True := trivial
theorem PySem.W.Fast.tw8262387755180884247 : True := trivial
theorem PySem.W.Fast.tw9781219259635684066 : True := trivial
theorem PySem.W.Fast.tw5718218075158130329 : True := trivial
theorem PySem.W.Fast.tw10058279763877716387 : True := trivial
theorem PySem.W.Fast.tw3363012541414029888 : True := trivial
theorem PySem.W.Fast.tw5785288160071944764 : True := trivial
theorem PySem.W.Fast.tw16654392527093188655 : True := trivial
theorem PySem.W.Fast.tw15064841680179782079 : True := trivial
theorem PySem.W.Fast.tw3410532249739626317 : True := trivial
theorem PySem.W.Fast.tw11370297223500027734 : True := trivial
theorem PySem.W.Fast.tw12398989561113260289 : True := trivial
theorem PySem.W.Fast.tw2022955838076314472 : True := trivial
theorem PySem.W.Fast.tw5425078442967504107 : True := trivial
theorem PySem.W.Fast.tw9715330926659197883 : True := trivial
theorem PySem.W.Fast.tw15777614101206193722 : True := trivial
theorem PySem.W.Fast.tw15514333700897963026 : True := trivial
theorem PySem.W.Fast.tw18408940001418599362 : True := trivial
theorem PySem.W.Fast.tw1792750840890097726 : True := trivial
theorem PySem.W.Fast.tw8785389635943606442 : True := trivial
theorem PySem.W.Fast.tw7551900180779437447 : True := trivial
theorem PySem.W.Fast.tw1071270285815354372 : True := trivial
theorem PySem.W.Fast.tw6737894079578449101 : True := trivial
theorem PySem.W.Fast.tw10991100085482387248 : True := trivial
theorem PySem.W.Fast.tw11268877543562880858 : True := trivial
theorem PySem.W.Fast.tw5351407520477575872 : True := trivial
theorem PySem.W.Fast.tw3605995968454864824 : True := trivial
theorem PySem.W.Fast.tw16358846277010095169 : True := trivial
theorem PySem.W.Fast.tw18412326204876702112 : True := trivial
theorem PySem.W.Fast.tw11886471384296109797 : True := trivial
theorem PySem.W.Fast.tw7744795893194501208 : True := trivial
theorem PySem.W.Fast.tw17916555668071284467 : True := trivial
theorem PySem.W.Fast.tw7220067050785401784 : True := trivial
theorem PySem.W.Fast.tw13621646935061615615 : True := trivial
theorem PySem.W.Fast.tw8936238417654272723 : True := trivial
theorem PySem.W.Fast.tw8556449155379819054 : True := trivial
theorem PySem.W.Fast.tw1851213294362439713 : True := trivial
theorem PySem.W.Fast.tw17310259426344545483 : True := trivial
theorem PySem.W.Fast.tw14709269248407824463 : True := trivial
theorem PySem.W.Fast.tw11043463847655510693 : True := trivial
theorem PySem.W.Fast.tw13282948775050131280 : True := trivial
theorem PySem.W.Fast.tw6998504507405534781 : True := trivial
theorem PySem.W.Fast.tw803126788610123066 : True := trivial
theorem PySem.W.Fast.tw14003223847067093423 : True := trivial
theorem PySem.W.Fast.tw13960543736097169481 : True := trivial
theorem PySem.W.Fast.tw14434497493887647475 : True := trivial
theorem PySem.W.Fast.tw7009010024858123131 : True := trivial
theorem PySem.W.Fast.tw2469321993866878499 : True := trivial
theorem PySem.W.Fast.tw5445822166013602115 : True := trivial
theorem PySem.W.Fast.tw8185356893914906790 : True := trivial
theorem PySem.W.Fast.tw11901428094714294394 : True := trivial
theorem PySem.W.Fast.tw11761599918800306431 : True := trivial
theorem PySem.W.Fast.tw15867831679181733241 : True := trivial
theorem PySem.W.Fast.tw17856386396044274904 : True := trivial
theorem PySem.W.Fast.tw16187355311203417409 : True := trivial
theorem PySem.W.Fast.tw13798886289921386842 : True := trivial
theorem PySem.W.Fast.tw9021268753325955057 : True := trivial
theorem PySem.W.Fast.tw15422929398299361791 : True := trivial
theorem PySem.W.Fast.tw5050041550806035950 : True := trivial
theorem PySem.W.Fast.tw12565072146133571101 : True := trivial
theorem PySem.W.Fast.tw15734497814775863419 : True := trivial
theorem PySem.W.Fast.tw13045102513409070692 : True := trivial
theorem PySem.W.Fast.tw6303721105411816771 : True := trivial
theorem PySem.W.Fast.tw12681980307410955734 : True := trivial
theorem PySem.W.Fast.tw4866201842702307489 : True := trivial
theorem PySem.W.Fast.tw4447424627899817021 : True := trivial
theorem PySem.W.Fast.tw933604825393031949 : True := trivial
theorem PySem.W.Fast.tw3660831494634783207 : True := trivial
theorem PySem.W.Fast.tw8627571706356959719 : True := trivial
theorem PySem.W.Fast.tw16667530770572678244 : True := trivial
theorem PySem.W.Fast.tw14574187004709232248 : True := trivial
theorem PySem.W.Fast.tw4543229209615825172 : True := trivial
theorem PySem.W.Fast.tw15363385926674838807 : True := trivial
theorem PySem.W.Fast.tw14247015407477699898 : True := trivial
theorem PySem.W.Fast.tw3248056569169008900 : True := trivial
theorem PySem.W.Fast.tw17486210482893584190 : True := trivial
theorem PySem.W.Fast.tw8270963760388025732 : True := trivial
theorem PySem.W.Fast.tw15362662737508213096 : True := trivial
theorem PySem.W.Fast.tw1130702036832582616 : True := trivial
theorem PySem.W.Fast.tw854100480071064390 : True := trivial
theorem PySem.W.Fast.tw7876498177927440919 : True := trivial
theorem PySem.W.Fast.tw14426032877707262198 : True := trivial
theorem PySem.W.Fast.tw17435786064967374425 : True := trivial
theorem PySem.W.Fast.tw9945125375714959462 : True := trivial
theorem PySem.W.Fast.tw1515628490009967645 : True := trivial
theorem PySem.W.Fast.tw8821097190683251954 : True := trivial
theorem PySem.W.Fast.tw8364493573223374003 : True := trivial
theorem PySem.W.Fast.tw11814538603425675070 : True := trivial
theorem PySem.W.Fast.tw10463516826803593695 : True := trivial
theorem PySem.W.Fast.tw3433715343614678720 : True := trivial
theorem PySem.W.Fast.tw16203974811964375840 : True := trivial
theorem PySem.W.Fast.tw9190068370833220417 : True := trivial
theorem PySem.W.Fast.tw2175085132999781290 : True := trivial
theorem PySem.W.Fast.tw4212656039786372094 : True := trivial
theorem PySem.W.Fast.tw9834152561193871818 : True := trivial
theorem PySem.W.Fast.tw14214525843065671760 : True := trivial
theorem PySem.W.Fast.tw3745878588109620460 : True := trivial
theorem PySem.W.Fast.tw16778801036474072943 : True := trivial
theorem PySem.W.Fast.tw11919879934368828066 : True := trivial
theorem PySem.W.Fast.tw18255406555635928036 : True := trivial
theorem PySem.W.Fast.tw12656683731133454982 : True := trivial
theorem PySem.W.Fast.tw988154294925097036 : True := trivial
theorem PySem.W.Fast.tw12286917114003060677 : True := trivial
theorem PySem.W.Fast.tw3036971774912026972 : True := trivial
theorem PySem.W.Fast.tw5121669691465319554 : True := trivial
theorem PySem.W.Fast.tw17114560103409271520 : True := trivial
theorem PySem.W.Fast.tw9600883419200843219 : True := trivial
theorem PySem.W.Fast.tw16630298440289240191 : True := trivial
theorem PySem.W.Fast.tw2542439191037473243 : True := trivial
theorem PySem.W.Fast.tw8358952650974689245 : True := trivial
theorem PySem.W.Fast.tw8370768861966775839 : True := trivial
theorem PySem.W.Fast.tw11170866100375686783 : True := trivial
theorem PySem.W.Fast.tw6294172689356748546 : True := trivial
theorem PySem.W.Fast.tw12747661446726514355 : True := trivial
theorem PySem.W.Fast.tw1528880478021126131 : True := trivial
theorem PySem.W.Fast.tw2570049919642074741 : True := trivial
theorem PySem.W.Fast.tw5642405971591002035 : True := trivial
theorem PySem.W.Fast.tw14895113388844271148 : True := trivial
theorem PySem.W.Fast.tw9405622635950998223 : True := trivial
theorem PySem.W.Fast.tw10075648155873729402 : True := trivial
theorem PySem.W.Fast.tw5526621567583555915 : True := trivial
theorem PySem.W.Fast.tw1523981349090494454 : True := trivial
theorem PySem.W.Fast.tw12614594252939065453 : True := trivial
theorem PySem.W.Fast.tw5927034713253602309 : True := trivial
theorem PySem.W.Fast.tw7003447992265824739 : True := trivial
theorem PySem.W.Fast.tw6786291211494843298 : True := trivial
theorem PySem.W.Fast.tw2386801226903242225 : True := trivial
theorem PySem.W.Fast.tw12105875867514476900 : True := trivial
theorem PySem.W.Fast.tw13776558526360437910 : True := trivial
theorem PySem.W.Fast.tw10734052159380069635 : True := trivial
theorem PySem.W.Fast.tw16489434512666066084 : True := trivial
theorem PySem.W.Fast.tw13036961808555660827 : True := trivial
theorem PySem.W.Fast.tw10098247202971573904 : True := trivial
theorem PySem.W.Fast.tw4704932112603862979 : True := trivial
theorem PySem.W.Fast.tw6483712823712021779 : True := trivial
theorem PySem.W.Fast.tw11338330227948159124 : True := trivial
theorem PySem.W.Fast.tw5455531742473673751 : True := trivial
theorem PySem.W.Fast.tw4692573609905694170 : True := trivial
theorem PySem.W.Fast.tw13432238285734564415 : True := trivial
theorem PySem.W.Fast.tw646533248075075549 : True := trivial
theorem PySem.W.Fast.tw17949101595500238438 : True := trivial
theorem PySem.W.Fast.tw4883529552881802994 : True := trivial
theorem PySem.W.Fast.tw3231869212628884077 : True := trivial
theorem PySem.W.Fast.tw5893140080394715996 : True := trivial
theorem PySem.W.Fast.tw18136393874307710035 : True := trivial
theorem PySem.W.Fast.tw3269375418288840717 : True := trivial
theorem PySem.W.Fast.tw1534791525090867515 : True := trivial
theorem PySem.W.Fast.tw11474316309366139242 : True := trivial
theorem PySem.W.Fast.tw16037770707600028170 : True := trivial
theorem PySem.W.Fast.tw6963683293088587188 : True := trivial
theorem PySem.W.Fast.tw5686076658774538537 : True := trivial
theorem PySem.W.Fast.tw11887131594151617335 : True := trivial
theorem PySem.W.Fast.tw3037155855026070873 : True := trivial
theorem PySem.W.Fast.tw12237845155437116871 : True := trivial
theorem PySem.W.Fast.tw5188354477106951578 : True := trivial
theorem PySem.W.Fast.tw7878999335055378801 : True := trivial
theorem PySem.W.Fast.tw16113418038688244395 : True := trivial
theorem PySem.W.Fast.tw16839527729896137902 : True := trivial
theorem PySem.W.Fast.tw16252742000128156825 : True := trivial
theorem PySem.W.Fast.tw631278607963603612 : True := trivial
theorem PySem.W.Fast.tw15528440984788683098 : True := trivial
theorem PySem.W.Fast.tw13578465131491457335 : True := trivial
theorem PySem.W.Fast.tw13682582593228493605 : True := trivial
theorem PySem.W.Fast.tw6717068740753405020 : True := trivial
theorem PySem.W.Fast.tw8443918417292933105 : True := trivial
theorem PySem.W.Fast.tw6165518967965374457 : True := trivial
theorem PySem.W.Fast.tw13998561418513969694 : True := trivial
theorem PySem.W.Fast.tw15811150449645695771 : True := trivial
theorem PySem.W.Fast.tw297534843690233840 : True := trivial
theorem PySem.W.Fast.tw10879247358048275087 : True := trivial
theorem PySem.W.Fast.tw13716728141424138994 : True := trivial
theorem PySem.W.Fast.tw12536468923271053799 : True := trivial
theorem PySem.W.Fast.tw18256207951059811658 : True := trivial
theorem PySem.W.Fast.tw12119085232724465149 : True := trivial
theorem PySem.W.Fast.tw17236790070294299783 : True := trivial
theorem PySem.W.Fast.tw11922294107810843848 : True := trivial
theorem PySem.W.Fast.tw2348134552253663861 : True := trivial
theorem PySem.W.Fast.tw13720452590271441910 : True := trivial
theorem PySem.W.Fast.tw8497073278161073815 : True := trivial
theorem PySem.W.Fast.tw5773873283002947118 : True := trivial
theorem PySem.W.Fast.tw10070806003771169828 : True := trivial
theorem PySem.W.Fast.tw17494024767096706982 : True := trivial
theorem PySem.W.Fast.tw10498787085683078356 : True := trivial
theorem PySem.W.Fast.tw13814829982316680697 : True := trivial
theorem PySem.W.Fast.tw6284311201930554706 : True := trivial
theorem PySem.W.Fast.tw12428137278529572756 : True := trivial
theorem PySem.W.Fast.tw9404220579221333652 : True := trivial
theorem PySem.W.Fast.tw1925014476734053901 : True := trivial
theorem PySem.W.Fast.tw1457231742703717205 : True := trivial
theorem PySem.W.Fast.tw17228829683380698084 : True := trivial
theorem PySem.W.Fast.tw16810721735761095737 : True := trivial
theorem PySem.W.Fast.tw7673201216848465367 : True := trivial
theorem PySem.W.Fast.tw13034842779382403967 : True := trivial
theorem PySem.W.Fast.tw2320370128757835230 : True := trivial
theorem PySem.W.Fast.tw2835406000438479212 : True := trivial
theorem PySem.W.Fast.tw17748257962693935479 : True := trivial
theorem PySem.W.Fast.tw11148835199810992436 : True := trivial
theorem PySem.W.Fast.tw2519223297770758701 : True := trivial
theorem PySem.W.Fast.tw6802871236722078237 : True := trivial
theorem PySem.W.Fast.tw10603030708089886733 : True := trivial
theorem PySem.W.Fast.tw6098911937827077338 : True := trivial
theorem PySem.W.Fast.tw11756224648800305688 : True := trivial
theorem PySem.W.Fast.tw7623448476254284118 : True := trivial
theorem PySem.W.Fast.tw6128956603506233542 : True := trivial
theorem PySem.W.Fast.tw12057172152490896848 : True := trivial
theorem PySem.W.Fast.tw3756039710653389210 : True := trivial
theorem PySem.W.Fast.tw12513312929928010212 : True := trivial
theorem PySem.W.Fast.tw716395733039628916 : True := trivial
theorem PySem.W.Fast.tw7795499325963094019 : True := trivial
theorem PySem.W.Fast.tw96808032606952953 : True := trivial
theorem PySem.W.Fast.tw1113854964537970827 : True := trivial
theorem PySem.W.Fast.tw4774787500465665900 : True := trivial
theorem PySem.W.Fast.tw7650740308815290550 : True := trivial
theorem PySem.W.Fast.tw18177020846639350158 : True := trivial
theorem PySem.W.Fast.tw17165959807354445019 : True := trivial
theorem PySem.W.Fast.tw12174437598163137653 : True := trivial
theorem PySem.W.Fast.tw10171785679649363785 : True := trivial
theorem PySem.W.Fast.tw16854685090207387163 : True := trivial
theorem PySem.W.Fast.tw6650689330454936820 : True := trivial
theorem PySem.W.Fast.tw16926167587554276874 : True := trivial
theorem PySem.W.Fast.tw694638976343355896 : True := trivial
theorem PySem.W.Fast.tw7571325056675494600 : True := trivial
theorem PySem.W.Fast.tw1889783197171848065 : True := trivial
theorem PySem.W.Fast.tw202424784841538888 : True := trivial
theorem PySem.W.Fast.tw13535921172804868425 : True := trivial
theorem PySem.W.Fast.tw4046244036564151253 : True := trivial
theorem PySem.W.Fast.tw15016446838094624236 : True := trivial
theorem PySem.W.Fast.tw15808023974253695614 : True := trivial
theorem PySem.W.Fast.tw3453231183772712005 : True := trivial
theorem PySem.W.Fast.tw14060296291407201184 : True := trivial
theorem PySem.W.Fast.tw1676527718472792202 : True := trivial
theorem PySem.W.Fast.tw9906732897947000568 : True := trivial
theorem PySem.W.Fast.tw4935349412821588224 : True := trivial
theorem PySem.W.Fast.tw8560830083329768494 : True := trivial
theorem PySem.W.Fast.tw12550847708127918209 : True := trivial
theorem PySem.W.Fast.tw13228500310151179189 : True := trivial
theorem PySem.W.Fast.tw8212651354010552967 : True := trivial
theorem PySem.W.Fast.tw769770580806640054 : True := trivial
theorem PySem.W.Fast.tw17434770722290473668 : True := trivial
theorem PySem.W.Fast.tw9977633206755029540 : True := trivial
theorem PySem.W.Fast.tw3737111475336155792 : True := trivial
theorem PySem.W.Fast.tw17710348509170526438 : True := trivial
theorem PySem.W.Fast.tw11833642523281123695 : True := trivial
theorem PySem.W.Fast.tw11133194954985738723 : True := trivial
theorem PySem.W.Fast.tw1499049010119714345 : True := trivial
theorem PySem.W.Fast.tw6059355611209869692 : True := trivial
theorem PySem.W.Fast.tw6956196559196975666 : True := trivial
theorem PySem.W.Fast.tw15092192789856304610 : True := trivial
theorem PySem.W.Fast.tw7239734964539101202 : True := trivial
theorem PySem.W.Fast.tw5677398953608577678 : True := trivial
theorem PySem.W.Fast.tw16913257077007060532 : True := trivial
theorem PySem.W.Fast.tw4124071145457557958 : True := trivial
theorem PySem.W.Fast.tw5760728278438327831 : True := trivial
theorem PySem.W.Fast.tw17628333610974602114 : True := trivial
theorem PySem.W.Fast.tw3663287386098301786 : True := trivial
theorem PySem.W.Fast.tw17819489792270947847 : True := trivial
theorem PySem.W.Fast.tw15086611310620192734 : True := trivial
theorem PySem.W.Fast.tw14526656976380534739 : True := trivial
theorem PySem.W.Fast.tw12227975746941487972 : True := trivial
theorem PySem.W.Fast.tw777545368969846513 : True := trivial
theorem PySem.W.Fast.tw18097878616018573466 : True := trivial
theorem PySem.W.Fast.tw423413409005148391 : True := trivial
theorem PySem.W.Fast.tw16225729163505651609 : True := trivial
theorem PySem.W.Fast.tw16959339983551601873 : True := trivial
theorem PySem.W.Fast.tw15451423268315691755 : True := trivial
theorem PySem.W.Fast.tw13930108885548679033 : True := trivial
theorem PySem.W.Fast.tw11164090227067685067 : True := trivial
theorem PySem.W.Fast.tw10893058105143560323 : True := trivial
theorem PySem.W.Fast.tw10138288037173417660 : True := trivial
theorem PySem.W.Fast.tw7788125087400996511 : True := trivial
theorem PySem.W.Fast.tw8451117473376427769 : True := trivial
theorem PySem.W.Fast.tw15940076004235911472 : True := trivial
theorem PySem.W.Fast.tw7254173781680265101 : True := trivial
theorem PySem.W.Fast.tw10250545846799174009 : True := trivial
theorem PySem.W.Fast.tw415295340793412900 : True := trivial
theorem PySem.W.Fast.tw3487079120437062947 : True := trivial
theorem PySem.W.Fast.tw11129782467840896226 : True := trivial
theorem PySem.W.Fast.tw1669531657074870974 : True := trivial
theorem PySem.W.Fast.tw15465618850070715394 : True := trivial
theorem PySem.W.Fast.tw782512895755037154 : True := trivial
theorem PySem.W.Fast.tw6204398628845314848 : True := trivial
theorem PySem.W.Fast.tw10457652003167721748 : True := trivial
theorem PySem.W.Fast.tw5360667145149936370 : True := trivial
theorem PySem.W.Fast.tw15222593586312723654 : True := trivial
theorem PySem.W.Fast.tw5567127975326106495 : True := trivial
theorem PySem.W.Fast.tw14376590589495447055 : True := trivial
theorem PySem.W.Fast.tw17233174913024211088 : True := trivial
theorem PySem.W.Fast.tw5128000363403675706 : True := trivial
theorem PySem.W.Fast.tw2321093106618260357 : True := trivial
theorem PySem.W.Fast.tw11230882056598543303 : True := trivial
theorem PySem.W.Fast.tw9975214039998771225 : True := trivial
theorem PySem.W.Fast.tw14065031147081585903 : True := trivial
theorem PySem.W.Fast.tw18138409508948383901 : True := trivial
theorem PySem.W.Fast.tw9023837295071876010 : True := trivial
theorem PySem.W.Fast.tw13627200185904477271 : True := trivial
theorem PySem.W.Fast.tw1581098389284428592 : True := trivial
theorem PySem.W.Fast.tw7554139656144152132 : True := trivial
theorem PySem.W.Fast.tw10222240739171182961 : True := trivial
theorem PySem.W.Fast.tw13665799791669308371 : True := trivial
theorem PySem.W.Fast.tw6110921726453061038 : True := trivial
theorem PySem.W.Fast.tw3374918315142208811 : True := trivial
theorem PySem.W.Fast.tw3631158967797782555 : True := trivial
theorem PySem.W.Fast.tw14674046528073812094 : True := trivial
theorem PySem.W.Fast.tw3559870319088242935 : True := trivial
theorem PySem.W.Fast.tw2474924112828173808 : True := trivial
theorem PySem.W.Fast.tw8323697392807855169 : True := trivial
theorem PySem.W.Fast.tw9342946889213398824 : True := trivial
theorem PySem.W.Fast.tw7015309270462644152 : True := trivial
theorem PySem.W.Fast.tw15500915004241621607 : True := trivial
theorem PySem.W.Fast.tw11571338779150729545 : True := trivial
theorem PySem.W.Fast.tw7437315406074142293 : True := trivial
theorem PySem.W.Fast.tw12993765251063227171 : True := trivial
theorem PySem.W.Fast.tw17540601175118339868 : True := trivial
theorem PySem.W.Fast.tw315526498664022017 : True := trivial
theorem PySem.W.Fast.tw15143468727737375631 : True := trivial
theorem PySem.W.Fast.tw10682882219330475004 : True := trivial
theorem PySem.W.Fast.tw5797107389171389199 : True := trivial
theorem PySem.W.Fast.tw10741549260775146317 : True := trivial
theorem PySem.W.Fast.tw8406602055523094848 : True := trivial
theorem PySem.W.Fast.tw10427563095368103850 : True := trivial
theorem PySem.W.Fast.tw16601711933487414943 : True := trivial
theorem PySem.W.Fast.tw12615729639153932718 : True := trivial
theorem PySem.W.Fast.tw11782517374874485029 : True := trivial
theorem PySem.W.Fast.tw5200980116837603986 : True := trivial
theorem PySem.W.Fast.tw12075227449284220052 : True := trivial
theorem PySem.W.Fast.tw14254347823890601142 : True := trivial
theorem PySem.W.Fast.tw14601100040762371683 : True := trivial
theorem PySem.W.Fast.tw8218837418248873713 : True := trivial
theorem PySem.W.Fast.tw17688569341457532368 : True := trivial
theorem PySem.W.Fast.tw5479045026171434264 : True := trivial
theorem PySem.W.Fast.tw12970304434261782792 : True := trivial
theorem PySem.W.Fast.tw12042235263947273244 : True := trivial
theorem PySem.W.Fast.tw2897071538748549672 : True := trivial
theorem PySem.W.Fast.tw16188403824882755342 : True := trivial
theorem PySem.W.Fast.tw17998232351796346012 : True := trivial
theorem PySem.W.Fast.tw5688012233581232436 : True := trivial
theorem PySem.W.Fast.tw16989847465272471179 : True := trivial
theorem PySem.W.Fast.tw12324350233914131687 : True := trivial
theorem PySem.W.Fast.tw5631060437629734445 : True := trivial
theorem PySem.W.Fast.tw8265619710199885652 : True := trivial
theorem PySem.W.Fast.tw14646002817245963873 : True := trivial
theorem PySem.W.Fast.tw7315721950385366250 : True := trivial
theorem PySem.W.Fast.tw16995155658275393172 : True := trivial
theorem PySem.W.Fast.tw936105492018935411 : True := trivial
theorem PySem.W.Fast.tw2542096816895066248 : True := trivial
theorem PySem.W.Fast.tw4241780405489729177 : True := trivial
theorem PySem.W.Fast.tw1157566046156472572 : True := trivial
theorem PySem.W.Fast.tw3436783186477082889 : True := trivial
theorem PySem.W.Fast.tw13703089930895294940 : True := trivial
theorem PySem.W.Fast.tw5360391460633121937 : True := trivial
theorem PySem.W.Fast.tw18268975125147434941 : True := trivial
theorem PySem.W.Fast.tw13923323089556126942 : True := trivial
theorem PySem.W.Fast.tw15545077455258380417 : True := trivial
theorem PySem.W.Fast.tw324350922020921769 : True := trivial
theorem PySem.W.Fast.tw6716413060726881101 : True := trivial
theorem PySem.W.Fast.tw1115181059831202896 : True := trivial
theorem PySem.W.Fast.tw1811247753503647567 : True := trivial
theorem PySem.W.Fast.tw7367794894904172806 : True := trivial
theorem PySem.W.Fast.tw9129067523755380185 : True := trivial
theorem PySem.W.Fast.tw1024263650768974156 : True := trivial
theorem PySem.W.Fast.tw1445431792208856364 : True := trivial
theorem PySem.W.Fast.tw5176779986962158512 : True := trivial
theorem PySem.W.Fast.tw13224973085894959619 : True := trivial
theorem PySem.W.Fast.tw1002384098107427624 : True := trivial
theorem PySem.W.Fast.tw9592914335780331406 : True := trivial
theorem PySem.W.Fast.tw1739679170365583168 : True := trivial
theorem PySem.W.Fast.tw17471651118390727043 : True := trivial
theorem PySem.W.Fast.tw7429102138840939689 : True := trivial
theorem PySem.W.Fast.tw7517249081692290930 : True := trivial
theorem PySem.W.Fast.tw15203155402517439294 : True := trivial
theorem PySem.W.Fast.tw2208710897077916013 : True := trivial
theorem PySem.W.Fast.tw1651828294769401359 : True := trivial
theorem PySem.W.Fast.tw900329776062270953 : True := trivial
theorem PySem.W.Fast.tw422924454977526868 : True := trivial
theorem PySem.W.Fast.tw5743341847818683559 : True := trivial
theorem PySem.W.Fast.tw17729910675233845463 : True := trivial
theorem PySem.W.Fast.tw9040441310725969604 : True := trivial
theorem PySem.W.Fast.tw3875077272898761696 : True := trivial
theorem PySem.W.Fast.tw14999603579032852281 : True := trivial
theorem PySem.W.Fast.tw13501700476686313763 : True := trivial
theorem PySem.W.Fast.tw8955149270023705228 : True := trivial
theorem PySem.W.Fast.tw15664800120761762467 : True := trivial
theorem PySem.W.Fast.tw15086679067544052495 : True := trivial
theorem PySem.W.Fast.tw15646999486289935869 : True := trivial
theorem PySem.W.Fast.tw10990512076675407100 : True := trivial
theorem PySem.W.Fast.tw1248408106031088487 : True := trivial
theorem PySem.W.Fast.tw16959796384690608933 : True := trivial
theorem PySem.W.Fast.tw11180889807800191590 : True := trivial
theorem PySem.W.Fast.tw3546864943645211228 : True := trivial
theorem PySem.W.Fast.tw11941817419783086406 : True := trivial
theorem PySem.W.Fast.tw10682124193814936447 : True := trivial
theorem PySem.W.Fast.tw13782760715267874076 : True := trivial
theorem PySem.W.Fast.tw4424774181184318566 : True := trivial
theorem PySem.W.Fast.tw11889327075690400238 : True := trivial
theorem PySem.W.Fast.tw240718302696122305 : True := trivial
theorem PySem.W.Fast.tw6054462233701754656 : True := trivial
theorem PySem.W.Fast.tw1191302201500504244 : True := trivial
theorem PySem.W.Fast.tw7310784286763320364 : True := trivial
theorem PySem.W.Fast.tw16089627769470377275 : True := trivial
theorem PySem.W.Fast.tw3414938933613319884 : True := trivial
theorem PySem.W.Fast.tw17208728793264675645 : True := trivial
theorem PySem.W.Fast.tw8433001083528435644 : True := trivial
theorem PySem.W.Fast.tw10845167581708404545 : True := trivial
theorem PySem.W.Fast.tw11884901046411061374 : True := trivial
theorem PySem.W.Fast.tw5564554342732065485 : True := trivial
theorem PySem.W.Fast.tw8293343818725755271 : True := trivial
theorem PySem.W.Fast.tw15964320565702140397 : True := trivial
theorem PySem.W.Fast.tw4178468117704063950 : True := trivial
theorem PySem.W.Fast.tw11891866819424188044 : True := trivial
theorem PySem.W.Fast.tw5004614452629213680 : True := trivial
theorem PySem.W.Fast.tw16282397612663774686 : True := trivial
theorem PySem.W.Fast.tw2673921451785854369 : True := trivial
theorem PySem.W.Fast.tw14838069604098684347 : True := trivial
theorem PySem.W.Fast.tw16744891129857465481 : True := trivial
theorem PySem.W.Fast.tw7643454851738128428 : True := trivial
theorem PySem.W.Fast.tw4917128381553516992 : True := trivial
theorem PySem.W.Fast.tw7167058295569413375 : True := trivial
theorem PySem.W.Fast.tw9395460767641770328 : True := trivial
theorem PySem.W.Fast.tw4063188909627934678 : True := trivial
theorem PySem.W.Fast.tw17710509764432444771 : True := trivial
theorem PySem.W.Fast.tw4065738224005783075 : True := trivial
theorem PySem.W.Fast.tw10896127646899397916 : True := trivial
theorem PySem.W.Fast.tw10390547088868908285 : True := trivial
theorem PySem.W.Fast.tw11499476439409104643 : True := trivial
theorem PySem.W.Fast.tw17535758475763946437 : True := trivial
theorem PySem.W.Fast.tw17358586770754860238 : True := trivial
theorem PySem.W.Fast.tw8970329024036493219 : True := trivial
theorem PySem.W.Fast.tw7503239691996892564 : True := trivial
theorem PySem.W.Fast.tw5365552785859704685 : True := trivial
theorem PySem.W.Fast.tw6455525630259541376 : True := trivial
theorem PySem.W.Fast.tw15034348543899248196 : True := trivial
theorem PySem.W.Fast.tw2958964784122013248 : True := trivial
theorem PySem.W.Fast.tw17863983603273972916 : True := trivial
theorem PySem.W.Fast.tw6211564538339849607 : True := trivial
theorem PySem.W.Fast.tw2859009574154204049 : True := trivial
theorem PySem.W.Fast.tw13028950498350237462 : True := trivial
theorem PySem.W.Fast.tw17992953233343868246 : True := trivial
theorem PySem.W.Fast.tw15270081998804978243 : True := trivial
theorem PySem.W.Fast.tw1100969138184119031 : True := trivial
theorem PySem.W.Fast.tw15464994846267879224 : True := trivial
theorem PySem.W.Fast.tw13680088618799468508 : True := trivial
theorem PySem.W.Fast.tw8046412816923994129 : True := trivial
theorem PySem.W.Fast.tw4361848391101912505 : True := trivial
theorem PySem.W.Fast.tw18289326786918094310 : True := trivial
theorem PySem.W.Fast.tw15840499118701028891 : True := trivial
theorem PySem.W.Fast.tw12240556661188021555 : True := trivial
theorem PySem.W.Fast.tw7206413129109357668 : True := trivial
theorem PySem.W.Fast.tw5687875822919308303 : True := trivial
theorem PySem.W.Fast.tw11949731090229314134 : True := trivial
theorem PySem.W.Fast.tw3220819831804338358 : True := trivial
theorem PySem.W.Fast.tw15093404285081729554 : True := trivial
theorem PySem.W.Fast.tw13411222610808090443 : True := trivial
theorem PySem.W.Fast.tw4120203180715789994 : True := trivial
theorem PySem.W.Fast.tw13790441068417516138 : True := trivial
theorem PySem.W.Fast.tw15180904641397675415 : True := trivial
theorem PySem.W.Fast.tw6434716436094865303 : True := trivial
theorem PySem.W.Fast.tw11590095895262788519 : True := trivial
theorem PySem.W.Fast.tw7160178571322557800 : True := trivial
theorem PySem.W.Fast.tw3377031709808355168 : True := trivial
theorem PySem.W.Fast.tw1119692019100850379 : True := trivial
theorem PySem.W.Fast.tw1054665686785157302 : True := trivial
theorem PySem.W.Fast.tw16898443176297858636 : True := trivial
theorem PySem.W.Fast.tw8717655202536187860 : True := trivial
theorem PySem.W.Fast.tw234157527485662665 : True := trivial
theorem PySem.W.Fast.tw10817087294700851470 : True := trivial
theorem PySem.W.Fast.tw11720927254954138887 : True := trivial
theorem PySem.W.Fast.tw16247372268217038110 : True := trivial
theorem PySem.W.Fast.tw4014888908376054902 : True := trivial
theorem PySem.W.Fast.tw14077537212279813423 : True := trivial
theorem PySem.W.Fast.tw15543424080031289966 : True := trivial
theorem PySem.W.Fast.tw13128940566674828738 : True := trivial
theorem PySem.W.Fast.tw10653937905122536400 : True := trivial
theorem PySem.W.Fast.tw18184206619143594245 : True := trivial
theorem PySem.W.Fast.tw1440928998624698445 : True := trivial
theorem PySem.W.Fast.tw14751636358342749851 : True := trivial
theorem PySem.W.Fast.tw561839426549803148 : True := trivial
theorem PySem.W.Fast.tw7352696799384224938 : True := trivial
theorem PySem.W.Fast.tw7421936940387245058 : True := trivial
theorem PySem.W.Fast.tw15464498109839947704 : True := trivial
theorem PySem.W.Fast.tw14320368274361229947 : True := trivial
theorem PySem.W.Fast.tw10834563461691313889 : True := trivial
theorem PySem.W.Fast.tw16930903464328061415 : True := trivial
theorem PySem.W.Fast.tw4619161330374519435 : True := trivial
theorem PySem.W.Fast.tw6051456380461878669 : True := trivial
theorem PySem.W.Fast.tw14827019114485857844 : True := trivial
theorem PySem.W.Fast.tw11878224214856793120 : True := trivial
theorem PySem.W.Fast.tw5111927902151390066 : True := trivial
theorem PySem.W.Fast.tw4049852632409805496 : True := trivial
theorem PySem.W.Fast.tw75107213177421537 : True := trivial
theorem PySem.W.Fast.tw5038652610391317019 : True := trivial
theorem PySem.W.Fast.tw2212884035344651422 : True := trivial
theorem PySem.W.Fast.tw14016871403472268276 : True := trivial
theorem PySem.W.Fast.tw10881262849020577165 : True := trivial
theorem PySem.W.Fast.tw3305021928457346015 : True := trivial
theorem PySem.W.Fast.tw13193827133512185001 : True := trivial
theorem PySem.W.Fast.tw10304443442871796088 : True := trivial
theorem PySem.W.Fast.tw13873128312316550263 : True := trivial
theorem PySem.W.Fast.tw3733426791124571727 : True := trivial
theorem PySem.W.Fast.tw548185170519956978 : True := trivial
theorem PySem.W.Fast.tw16177890302282332313 : True := trivial
theorem PySem.W.Fast.tw6381970776665610877 : True := trivial
theorem PySem.W.Fast.tw617411183891161694 : True := trivial
theorem PySem.W.Fast.tw6779972119495318956 : True := trivial
theorem PySem.W.Fast.tw15561299879579729322 : True := trivial
theorem PySem.W.Fast.tw13750362387133725244 : True := trivial
theorem PySem.W.Fast.tw17452401152780550647 : True := trivial
theorem PySem.W.Fast.tw9781366387848700086 : True := trivial
theorem PySem.W.Fast.tw6159527439291489278 : True := trivial
theorem PySem.W.Fast.tw4903140337459573900 : True := trivial
theorem PySem.W.Fast.tw3726692428535440781 : True := trivial
theorem PySem.W.Fast.tw7940257120599124102 : True := trivial
theorem PySem.W.Fast.tw639203364012738271 : True := trivial
theorem PySem.W.Fast.tw15950317591093280438 : True := trivial
theorem PySem.W.Fast.tw9044660499174077101 : True := trivial
theorem PySem.W.Fast.tw6955995831131931425 : True := trivial
theorem PySem.W.Fast.tw6254678055155556113 : True := trivial
theorem PySem.W.Fast.tw17745917674657334740 : True := trivial
theorem PySem.W.Fast.tw13092646853663387607 : True := trivial
theorem PySem.W.Fast.tw6118709929966994460 : True := trivial
theorem PySem.W.Fast.tw10592143020325398701 : True := trivial
theorem PySem.W.Fast.tw2007020872209043866 : True := trivial
theorem PySem.W.Fast.tw2479673718181399863 : True := trivial
theorem PySem.W.Fast.tw12101321897891148091 : True := trivial
theorem PySem.W.Fast.tw16970736366142199125 : True := trivial
theorem PySem.W.Fast.tw14818300599197701095 : True := trivial
theorem PySem.W.Fast.tw731037880116922076 : True := trivial
theorem PySem.W.Fast.tw11647104737255613806 : True := trivial
theorem PySem.W.Fast.tw6885264076984323303 : True := trivial
theorem PySem.W.Fast.tw11221614360330762439 : True := trivial
theorem PySem.W.Fast.tw8043719835088977532 : True := trivial
theorem PySem.W.Fast.tw9558580430640288359 : True := trivial
theorem PySem.W.Fast.tw4496138133086834048 : True := trivial
theorem PySem.W.Fast.tw11131294366041763085 : True := trivial
theorem PySem.W.Fast.tw18118089056649847441 : True := trivial
theorem PySem.W.Fast.tw8123280686057406631 : True := trivial
theorem PySem.W.Fast.tw6984510383140932815 : True := trivial
theorem PySem.W.Fast.tw10876718399002695689 : True := trivial
theorem PySem.W.Fast.tw17698513394127545577 : True := trivial
theorem PySem.W.Fast.tw14924035769959569593 : True := trivial
theorem PySem.W.Fast.tw16669204267840673050 : True := trivial
theorem PySem.W.Fast.tw4022943303320584128 : True := trivial
theorem PySem.W.Fast.tw13863907388955720962 : True := trivial
theorem PySem.W.Fast.tw10434410811198617490 : True := trivial
theorem PySem.W.Fast.tw1460592752627544004 : True := trivial
theorem PySem.W.Fast.tw4501427169211200869 : True := trivial
theorem PySem.W.Fast.tw17238334990929188131 : True := trivial
theorem PySem.W.Fast.tw5613564839762922699 : True := trivial
theorem PySem.W.Fast.tw1138054401348754773 : True := trivial
theorem PySem.W.Fast.tw6733733300535615718 : True := trivial
theorem PySem.W.Fast.tw7910000874812488500 : True := trivial
theorem PySem.W.Fast.tw1401348334823625676 : True := trivial
theorem PySem.W.Fast.tw17681675395528051381 : True := trivial
theorem PySem.W.Fast.tw16671584861853296218 : True := trivial
theorem PySem.W.Fast.tw2911304723605900219 : True := trivial
theorem PySem.W.Fast.tw11892450179064916213 : True := trivial
theorem PySem.W.Fast.tw10274281663072799361 : True := trivial
theorem PySem.W.Fast.tw17531066245022958510 : True := trivial
theorem PySem.W.Fast.tw249268311365445087 : True := trivial
theorem PySem.W.Fast.tw12433819594656583128 : True := trivial
theorem PySem.W.Fast.tw3048295861261863239 : True := trivial
theorem PySem.W.Fast.tw7665557629367189281 : True := trivial
theorem PySem.W.Fast.tw3322916871519881482 : True := trivial
theorem PySem.W.Fast.tw5621135084872519185 : True := trivial
theorem PySem.W.Fast.tw3244915139692059702 : True := trivial
theorem PySem.W.Fast.tw11373860009979281837 : True := trivial
theorem PySem.W.Fast.tw4576312971165956929 : True := trivial
theorem PySem.W.Fast.tw12159356546602029108 : True := trivial
theorem PySem.W.Fast.tw1473873882223092446 : True := trivial
theorem PySem.W.Fast.tw17326378012964033525 : True := trivial
theorem PySem.W.Fast.tw13505634111684986880 : True := trivial
theorem PySem.W.Fast.tw4491070935633535552 : True := trivial
theorem PySem.W.Fast.tw2183354883422723226 : True := trivial
theorem PySem.W.Fast.tw8881881722478801024 : True := trivial
theorem PySem.W.Fast.tw12491137583050058788 : True := trivial
theorem PySem.W.Fast.tw5820677069073856674 : True := trivial
theorem PySem.W.Fast.tw18439153708095367486 : True := trivial
theorem PySem.W.Fast.tw13487932019170511721 : True := trivial
theorem PySem.W.Fast.tw3631342898911086884 : True := trivial
theorem PySem.W.Fast.tw15008888406718131991 : True := trivial
theorem PySem.W.Fast.tw3245690198990260419 : True := trivial
theorem PySem.W.Fast.tw9970149954801154951 : True := trivial
theorem PySem.W.Fast.tw18007311787631140127 : True := trivial
theorem PySem.W.Fast.tw3509612452255467832 : True := trivial
theorem PySem.W.Fast.tw11220148731459338473 : True := trivial
theorem PySem.W.Fast.tw15073976191269071398 : True := trivial
theorem PySem.W.Fast.tw2026526298927822724 : True := trivial
theorem PySem.W.Fast.tw17318185144681244880 : True := trivial
theorem PySem.W.Fast.tw10722687299729165347 : True := trivial
theorem PySem.W.Fast.tw15280571147462980471 : True := trivial
theorem PySem.W.Fast.tw1522714222254045953 : True := trivial
theorem PySem.W.Fast.tw2499952284501701698 : True := trivial
theorem PySem.W.Fast.tw17153864223049426455 : True := trivial
theorem PySem.W.Fast.tw11033202908186136491 : True := trivial
theorem PySem.W.Fast.tw15294372729766231387 : True := trivial
theorem PySem.W.Fast.tw7269156265989859696 : True := trivial
theorem PySem.W.Fast.tw3316693835382251832 : True := trivial
theorem PySem.W.Fast.tw4459867693769334884 : True := trivial
theorem PySem.W.Fast.tw8028706015134176358 : True := trivial
theorem PySem.W.Fast.tw13062816640992796294 : True := trivial
theorem PySem.W.Fast.tw14653597392407703014 : True := trivial
theorem PySem.W.Fast.tw7146619243867429265 : True := trivial
theorem PySem.W.Fast.tw6270739031434888682 : True := trivial
theorem PySem.W.Fast.tw7279832601521359624 : True := trivial
theorem PySem.W.Fast.tw12578697938810986920 : True := trivial
theorem PySem.W.Fast.tw8580952939044363926 : True := trivial
theorem PySem.W.Fast.tw5082803617385562598 : True := trivial
theorem PySem.W.Fast.tw17627888285421370541 : True := trivial
theorem PySem.W.Fast.tw10326305508896926569 : True := trivial
theorem PySem.W.Fast.tw13169131376626975740 : True := trivial
theorem PySem.W.Fast.tw7533844362360998055 : True := trivial
theorem PySem.W.Fast.tw4670936065686665616 : True := trivial
theorem PySem.W.Fast.tw18011917969977783276 : True := trivial
theorem PySem.W.Fast.tw9307147267341515524 : True := trivial
theorem PySem.W.Fast.tw14030747186921150951 : True := trivial
theorem PySem.W.Fast.tw16306085678867906773 : True := trivial
theorem PySem.W.Fast.tw15036426180884371529 : True := trivial
theorem PySem.W.Fast.tw12352647315222448365 : True := trivial
theorem PySem.W.Fast.tw12106817607861236224 : True := trivial
theorem PySem.W.Fast.tw16976513730080366438 : True := trivial
theorem PySem.W.Fast.tw1183164368431907708 : True := trivial
theorem PySem.W.Fast.tw12159902949289309259 : True := trivial
theorem PySem.W.Fast.tw1914498997260634226 : True := trivial
theorem PySem.W.Fast.tw11212162594070685413 : True := trivial
theorem PySem.W.Fast.tw15295268967220409611 : True := trivial
theorem PySem.W.Fast.tw18045279387724153596 : True := trivial
theorem PySem.W.Fast.tw11030709086333359818 : True := trivial
theorem PySem.W.Fast.tw9158282295804107746 : True := trivial
theorem PySem.W.Fast.tw13180506487365199027 : True := trivial
theorem PySem.W.Fast.tw14276837205820415700 : True := trivial
theorem PySem.W.Fast.tw4781909289067407956 : True := trivial
theorem PySem.W.Fast.tw2744964165103012344 : True := trivial
theorem PySem.W.Fast.tw8643689579328312528 : True := trivial
theorem PySem.W.Fast.tw7636692460821389857 : True := trivial
theorem PySem.W.Fast.tw6995938358348666330 : True := trivial
theorem PySem.W.Fast.tw17333642731112070528 : True := trivial
theorem PySem.W.Fast.tw2493852462861944007 : True := trivial
theorem PySem.W.Fast.tw12289791916637676009 : True := trivial
theorem PySem.W.Fast.tw7823642839362482045 : True := trivial
theorem PySem.W.Fast.tw16864070811931216343 : True := trivial
theorem PySem.W.Fast.tw13777884979045220424 : True := trivial
theorem PySem.W.Fast.tw7984005622600811582 : True := trivial
theorem PySem.W.Fast.tw2718230929992321242 : True := trivial
theorem PySem.W.Fast.tw4854836537670284445 : True := trivial
theorem PySem.W.Fast.tw6669979753225021625 : True := trivial
theorem PySem.W.Fast.tw12052946619624972012 : True := trivial
theorem PySem.W.Fast.tw14099264025400116705 : True := trivial
theorem PySem.W.Fast.tw16956026549707277991 : True := trivial
theorem PySem.W.Fast.tw12492706631133145529 : True := trivial
theorem PySem.W.Fast.tw10438107938389776486 : True := trivial
theorem PySem.W.Fast.tw16518966875795538508 : True := trivial
theorem PySem.W.Fast.tw17122419990608756057 : True := trivial
theorem PySem.W.Fast.tw3828600065266996373 : True := trivial
theorem PySem.W.Fast.tw852909308319079094 : True := trivial
theorem PySem.W.Fast.tw8264295883673293957 : True := trivial
theorem PySem.W.Fast.tw8213870715266153217 : True := trivial
theorem PySem.W.Fast.tw17188153615822868445 : True := trivial
theorem PySem.W.Fast.tw11645242706772967497 : True := trivial
theorem PySem.W.Fast.tw3048737439352596187 : True := trivial
theorem PySem.W.Fast.tw4632746426512504457 : True := trivial
theorem PySem.W.Fast.tw16835632058233231875 : True := trivial
theorem PySem.W.Fast.tw17944484139440726891 : True := trivial
theorem PySem.W.Fast.tw14081028361409052522 : True := trivial
theorem PySem.W.Fast.tw1184369860474447525 : True := trivial
theorem PySem.W.Fast.tw17264528990345763935 : True := trivial
theorem PySem.W.Fast.tw4103368248131105430 : True := trivial
theorem PySem.W.Fast.tw12095568005785538554 : True := trivial
theorem PySem.W.Fast.tw9725081124742079405 : True := trivial
theorem PySem.W.Fast.tw3285688323563571037 : True := trivial
theorem PySem.W.Fast.tw2163396203501607766 : True := trivial
theorem PySem.W.Fast.tw5496108285797250764 : True := trivial
theorem PySem.W.Fast.tw7307835018763330869 : True := trivial
theorem PySem.W.Fast.tw12023347595514398114 : True := trivial
theorem PySem.W.Fast.tw15080451633018295571 : True := trivial
theorem PySem.W.Fast.tw8919238540435503564 : True := trivial
theorem PySem.W.Fast.tw39223128170460774 : True := trivial
theorem PySem.W.Fast.tw12059811197483016027 : True := trivial
theorem PySem.W.Fast.tw18009351487108665460 : True := trivial
theorem PySem.W.Fast.tw8443883325691967819 : True := trivial
theorem PySem.W.Fast.tw1112933728933045726 : True := trivial
theorem PySem.W.Fast.tw8656871886723844664 : True := trivial
theorem PySem.W.Fast.tw12356216858384018092 : True := trivial
theorem PySem.W.Fast.tw12204822037958834277 : True := trivial
theorem PySem.W.Fast.tw3758747625995025095 : True := trivial
theorem PySem.W.Fast.tw14987656770723979968 : True := trivial
theorem PySem.W.Fast.tw13887614008090906788 : True := trivial
theorem PySem.W.Fast.tw778066698497633090 : True := trivial
theorem PySem.W.Fast.tw5506185702809301650 : True := trivial
theorem PySem.W.Fast.tw13390405245628097463 : True := trivial
theorem PySem.W.Fast.tw11001827053656025661 : True := trivial
theorem PySem.W.Fast.tw6486330250855627079 : True := trivial
theorem PySem.W.Fast.tw3068674790428959891 : True := trivial
theorem PySem.W.Fast.tw8501816500410589319 : True := trivial
theorem PySem.W.Fast.tw5869644904382631284 : True := trivial
theorem PySem.W.Fast.tw8099508160688151147 : True := trivial
theorem PySem.W.Fast.tw12626433290891069907 : True := trivial
theorem PySem.W.Fast.tw17012771729986315721 : True := trivial
theorem PySem.W.Fast.tw6461119209212424190 : True := trivial
theorem PySem.W.Fast.tw14068174651391594043 : True := trivial
theorem PySem.W.Fast.tw4570933597525984197 : True := trivial
theorem PySem.W.Fast.tw1531506088123273180 : True := trivial
theorem PySem.W.Fast.tw11668664064218394991 : True := trivial
theorem PySem.W.Fast.tw12067254496379030410 : True := trivial
theorem PySem.W.Fast.tw1018544967766779894 : True := trivial
theorem PySem.W.Fast.tw7504463169408158610 : True := trivial
theorem PySem.W.Fast.tw12364483101859490617 : True := trivial
theorem PySem.W.Fast.tw10424040719118117674 : True := trivial
theorem PySem.W.Fast.tw6118723611678991343 : True := trivial
theorem PySem.W.Fast.tw10990039945769425979 : True := trivial
theorem PySem.W.Fast.tw12657926195765580084 : True := trivial
theorem PySem.W.Fast.tw5403222603937492712 : True := trivial
theorem PySem.W.Fast.tw16938841835400838836 : True := trivial
theorem PySem.W.Fast.tw5205264780788100401 : True := trivial
theorem PySem.W.Fast.tw3485919955186247978 : True := trivial
theorem PySem.W.Fast.tw12320294078663932799 : True := trivial
theorem PySem.W.Fast.tw2116277423610657561 : True := trivial
theorem PySem.W.Fast.tw162931236525981892 : True := trivial
theorem PySem.W.Fast.tw8092469433202949045 : True := trivial
theorem PySem.W.Fast.tw8500298280180586997 : True := trivial
theorem PySem.W.Fast.tw1660426158034640917 : True := trivial
theorem PySem.W.Fast.tw8339947668379204855 : True := trivial
theorem PySem.W.Fast.tw13206648685948515084 : True := trivial
theorem PySem.W.Fast.tw15936289131812169770 : True := trivial
theorem PySem.W.Fast.tw759283833510348109 : True := trivial
theorem PySem.W.Fast.tw9282210565697655213 : True := trivial
theorem PySem.W.Fast.tw10743660361718549445 : True := trivial
theorem PySem.W.Fast.tw16349167912895854274 : True := trivial
theorem PySem.W.Fast.tw4409055036850419036 : True := trivial
theorem PySem.W.Fast.tw8280906588933847297 : True := trivial
theorem PySem.W.Fast.tw1925426895036411464 : True := trivial
theorem PySem.W.Fast.tw214253636078846163 : True := trivial
theorem PySem.W.Fast.tw1486403250124165603 : True := trivial
theorem PySem.W.Fast.tw13895224172345751972 : True := trivial
theorem PySem.W.Fast.tw17891970006548278871 : True := trivial
theorem PySem.W.Fast.tw3234545650944691910 : True := trivial
theorem PySem.W.Fast.tw13272823291660607374 : True := trivial
theorem PySem.W.Fast.tw16942016051026134634 : True := trivial
theorem PySem.W.Fast.tw1163119050696783492 : True := trivial
theorem PySem.W.Fast.tw14823260322733181859 : True := trivial
theorem PySem.W.Fast.tw9160119633332673879 : True := trivial
theorem PySem.W.Fast.tw13892386320918002365 : True := trivial
theorem PySem.W.Fast.tw604064410858278232 : True := trivial
theorem PySem.W.Fast.tw12613850472398308204 : True := trivial
theorem PySem.W.Fast.tw15982066608934224067 : True := trivial
theorem PySem.W.Fast.tw4281688994921279480 : True := trivial
theorem PySem.W.Fast.tw11354916585563109163 : True := trivial
theorem PySem.W.Fast.tw14494406559920757740 : True := trivial
theorem PySem.W.Fast.tw16568407180308605277 : True := trivial
theorem PySem.W.Fast.tw10812782307556481431 : True := trivial
theorem PySem.W.Fast.tw7655397727706972826 : True := trivial
theorem PySem.W.Fast.tw1928970973393325365 : True := trivial
theorem PySem.W.Fast.tw9440324618487570412 : True := trivial
theorem PySem.W.Fast.tw11948318958460948234 : True := trivial
theorem PySem.W.Fast.tw3902518302944817211 : True := trivial
theorem PySem.W.Fast.tw9864206174702937484 : True := trivial
theorem PySem.W.Fast.tw12383746350954571383 : True := trivial
theorem PySem.W.Fast.tw16994589018735450956 : True := trivial
theorem PySem.W.Fast.tw6301067636956754054 : True := trivial
theorem PySem.W.Fast.tw8920855296724415794 : True := trivial
theorem PySem.W.Fast.tw4320975438205394704 : True := trivial
theorem PySem.W.Fast.tw8008934988977804887 : True := trivial
theorem PySem.W.Fast.tw17454340771771504253 : True := trivial
theorem PySem.W.Fast.tw2357859368896330054 : True := trivial
theorem PySem.W.Fast.tw9155369828184403483 : True := trivial
theorem PySem.W.Fast.tw3470301380625323561 : True := trivial
theorem PySem.W.Fast.tw2909336099087329023 : True := trivial
theorem PySem.W.Fast.tw7452970579982374504 : True := trivial
theorem PySem.W.Fast.tw1515468810168912790 : True := trivial
theorem PySem.W.Fast.tw11703058395885122489 : True := trivial
theorem PySem.W.Fast.tw8260884110105931486 : True := trivial
theorem PySem.W.Fast.tw16099073265745262373 : True := trivial
theorem PySem.W.Fast.tw14522877407134834255 : True := trivial
theorem PySem.W.Fast.tw3245298021578250854 : True := trivial
theorem PySem.W.Fast.tw16438473967408657393 : True := trivial
theorem PySem.W.Fast.tw15523024532285533559 : True := trivial
theorem PySem.W.Fast.tw6415083280736862718 : True := trivial
theorem PySem.W.Fast.tw18314215205059896087 : True := trivial
theorem PySem.W.Fast.tw2178290416477234688 : True := trivial
theorem PySem.W.Fast.tw2895056955429358442 : True := trivial
theorem PySem.W.Fast.tw15044549073308837283 : True := trivial
theorem PySem.W.Fast.tw6817869903417182923 : True := trivial
theorem PySem.W.Fast.tw6726466142303724330 : True := trivial
theorem PySem.W.Fast.tw6460015796740523375 : True := trivial
theorem PySem.W.Fast.tw9358506072568934595 : True := trivial
theorem PySem.W.Fast.tw13502316181871515051 : True := trivial
theorem PySem.W.Fast.tw3587806917864248966 : True := trivial
theorem PySem.W.Fast.tw6354756966951482339 : True := trivial
theorem PySem.W.Fast.tw11165495887080471151 : True := trivial
theorem PySem.W.Fast.tw2872855648239079014 : True := trivial
theorem PySem.W.Fast.tw1018393461209489623 : True := trivial
theorem PySem.W.Fast.tw3822470832265841459 : True := trivial
theorem PySem.W.Fast.tw7588356117385774362 : True := trivial
theorem PySem.W.Fast.tw5145458379065512219 : True := trivial
theorem PySem.W.Fast.tw9421479766169892075 : True := trivial
theorem PySem.W.Fast.tw8522858059986034461 : True := trivial
theorem PySem.W.Fast.tw9451963250826242884 : True := trivial
theorem PySem.W.Fast.tw12566776448898256177 : True := trivial
theorem PySem.W.Fast.tw17236185217804572255 : True := trivial
theorem PySem.W.Fast.tw7769138456121929117 : True := trivial
theorem PySem.W.Fast.tw10588631827081750683 : True := trivial
theorem PySem.W.Fast.tw12519658617336592324 : True := trivial
theorem PySem.W.Fast.tw16490125878136114106 : True := trivial
theorem PySem.W.Fast.tw12189629432594462136 : True := trivial
theorem PySem.W.Fast.tw1454377307346605324 : True := trivial
theorem PySem.W.Fast.tw9075029632811239065 : True := trivial
theorem PySem.W.Fast.tw6790582599764972476 : True := trivial
theorem PySem.W.Fast.tw5290046879038954326 : True := trivial
theorem PySem.W.Fast.tw8965552941553212242 : True := trivial
theorem PySem.W.Fast.tw6974716517638306030 : True := trivial
theorem PySem.W.Fast.tw12213523038126380047 : True := trivial
theorem PySem.W.Fast.tw10159840099331129639 : True := trivial
theorem PySem.W.Fast.tw13622859990858221387 : True := trivial
theorem PySem.W.Fast.tw6784897933084059289 : True := trivial
theorem PySem.W.Fast.tw10102173459841710536 : True := trivial
theorem PySem.W.Fast.tw7515973413080585743 : True := trivial
theorem PySem.W.Fast.tw16419275220647022044 : True := trivial
theorem PySem.W.Fast.tw191664493847806217 : True := trivial
theorem PySem.W.Fast.tw11634251290518498430 : True := trivial
theorem PySem.W.Fast.tw2441796159062946656 : True := trivial
theorem PySem.W.Fast.tw11753788052171030653 : True := trivial
theorem PySem.W.Fast.tw1008230686916325213 : True := trivial
theorem PySem.W.Fast.tw14574232306467490209 : True := trivial
theorem PySem.W.Fast.tw6397222754468315813 : True := trivial
theorem PySem.W.Fast.tw3663723806505262969 : True := trivial
theorem PySem.W.Fast.tw5821637837954024502 : True := trivial
theorem PySem.W.Fast.tw2301637733520063523 : True := trivial
theorem PySem.W.Fast.tw7310914084788162323 : True := trivial
theorem PySem.W.Fast.tw104824184103011418 : True := trivial
theorem PySem.W.Fast.tw4152789703359737602 : True := trivial
open PySem PySem.W PyProof.Rows
set_option maxRecDepth 100000 in
set_option maxHeartbeats 0 in
theorem PySem.Challenge.cw_heightfractions_k25_barred_by_few_spots_holds : PySem.Challenge.rw_heightfractions_k25_barred_by_few_spots.Holds := by
  w_on; o_law; k_head; (case hw => w_witness2)
  k_fill
  refine K25.walk (l := PySem.Challenge.rw_heightfractions_k25_barred_by_few_spots) rfl rfl (fun w h Y => PySem.W.kIn_of Y) ?F
  case F =>
    intro w mg fa h KX G hmg
    refine' K25.all_mk KX G hmg ?a_shared_part ?l_shared_part ?e_shared_part ?k_shared_part ?a_plus ?l_plus ?e_plus ?k_plus ?a_minus ?l_minus ?e_minus ?k_minus ?a_times ?l_times ?e_times ?k_times ?a_over ?l_over ?e_over ?k_over ?a_poly_of ?l_poly_of ?e_poly_of ?k_poly_of ?a_number_at ?l_number_at ?e_number_at ?k_number_at ?a_poly_plus ?l_poly_plus ?e_poly_plus ?k_poly_plus ?a_poly_scaled ?l_poly_scaled ?e_poly_scaled ?k_poly_scaled ?a_poly_minus ?l_poly_minus ?e_poly_minus ?k_poly_minus ?a_poly_times ?l_poly_times ?e_poly_times ?k_poly_times ?a_degree_of ?l_degree_of ?e_degree_of ?k_degree_of ?a_one_further ?l_one_further ?e_one_further ?k_one_further ?a_ruled ?l_ruled ?e_ruled ?k_ruled ?a_check_moments ?l_check_moments ?e_check_moments ?k_check_moments ?a_weights_back ?l_weights_back ?e_weights_back ?k_weights_back ?a__law_cell_at ?l__law_cell_at ?e__law_cell_at ?k__law_cell_at ?a__law_stir ?l__law_stir ?e__law_stir ?k__law_stir ?a__law_drawn ?l__law_drawn ?e__law_drawn ?k__law_drawn ?a__law_whole ?l__law_whole ?e__law_whole ?k__law_whole ?a__law_divisor ?l__law_divisor ?e__law_divisor ?k__law_divisor ?a__law_low ?l__law_low ?e__law_low ?k__law_low ?a__law_add ?l__law_add ?e__law_add ?k__law_add ?a__law_take ?l__law_take ?e__law_take ?k__law_take ?a__law_mul ?l__law_mul ?e__law_mul ?k__law_mul ?a__law_is_fraction ?l__law_is_fraction ?e__law_is_fraction ?k__law_is_fraction ?a__law_are_fractions ?l__law_are_fractions ?e__law_are_fractions ?k__law_are_fractions ?a__law_told_weights ?l__law_told_weights ?e__law_told_weights ?k__law_told_weights ?a__law_bars ?l__law_bars ?e__law_bars ?k__law_bars ?a__law_spots ?l__law_spots ?e__law_spots ?k__law_spots ?a_law ?l_law ?e_law ?k_law ?a_NOUGHT ?a_NoFraction ?a_NoMoments ?a_ONE ?a_TooFar ?n_abs ?n_all ?n_bool ?n_enumerate ?n_int ?n_isinstance ?n_len ?n_list ?n_max ?n_range ?n_sum ?n_tuple ?n_zip ?a_MOST_MOMENTS ?x_nought ?x_one ?x_tf ?x_nf ?x_nm
    (case a_shared_part => k_is)
    (case l_shared_part => k_is)
    (case e_shared_part => k_is)
    (case k_shared_part => k_is)
    (case a_plus => k_is)
    (case l_plus => k_is)
    (case e_plus => k_is)
    (case k_plus => k_is)
    (case a_minus => k_is)
    (case l_minus => k_is)
    (case e_minus => k_is)
    (case k_minus => k_is)
    (case a_times => k_is)
    (case l_times => k_is)
    (case e_times => k_is)
    (case k_times => k_is)
    (case a_over => k_is)
    (case l_over => k_is)
    (case e_over => k_is)
    (case k_over => k_is)
    (case a_poly_of => k_is)
    (case l_poly_of => k_is)
    (case e_poly_of => k_is)
    (case k_poly_of => k_is)
    (case a_number_at => k_is)
    (case l_number_at => k_is)
    (case e_number_at => k_is)
    (case k_number_at => k_is)
    (case a_poly_plus => k_is)
    (case l_poly_plus => k_is)
    (case e_poly_plus => k_is)
    (case k_poly_plus => k_is)
    (case a_poly_scaled => k_is)
    (case l_poly_scaled => k_is)
    (case e_poly_scaled => k_is)
    (case k_poly_scaled => k_is)
    (case a_poly_minus => k_is)
    (case l_poly_minus => k_is)
    (case e_poly_minus => k_is)
    (case k_poly_minus => k_is)
    (case a_poly_times => k_is)
    (case l_poly_times => k_is)
    (case e_poly_times => k_is)
    (case k_poly_times => k_is)
    (case a_degree_of => k_is)
    (case l_degree_of => k_is)
    (case e_degree_of => k_is)
    (case k_degree_of => k_is)
    (case a_one_further => k_is)
    (case l_one_further => k_is)
    (case e_one_further => k_is)
    (case k_one_further => k_is)
    (case a_ruled => k_is)
    (case l_ruled => k_is)
    (case e_ruled => k_is)
    (case k_ruled => k_is)
    (case a_check_moments => k_is)
    (case l_check_moments => k_is)
    (case e_check_moments => k_is)
    (case k_check_moments => k_is)
    (case a_weights_back => k_is)
    (case l_weights_back => k_is)
    (case e_weights_back => k_is)
    (case k_weights_back => k_is)
    (case a__law_cell_at => k_is)
    (case l__law_cell_at => k_is)
    (case e__law_cell_at => k_is)
    (case k__law_cell_at => k_is)
    (case a__law_stir => k_is)
    (case l__law_stir => k_is)
    (case e__law_stir => k_is)
    (case k__law_stir => k_is)
    (case a__law_drawn => k_is)
    (case l__law_drawn => k_is)
    (case e__law_drawn => k_is)
    (case k__law_drawn => k_is)
    (case a__law_whole => k_is)
    (case l__law_whole => k_is)
    (case e__law_whole => k_is)
    (case k__law_whole => k_is)
    (case a__law_divisor => k_is)
    (case l__law_divisor => k_is)
    (case e__law_divisor => k_is)
    (case k__law_divisor => k_is)
    (case a__law_low => k_is)
    (case l__law_low => k_is)
    (case e__law_low => k_is)
    (case k__law_low => k_is)
    (case a__law_add => k_is)
    (case l__law_add => k_is)
    (case e__law_add => k_is)
    (case k__law_add => k_is)
    (case a__law_take => k_is)
    (case l__law_take => k_is)
    (case e__law_take => k_is)
    (case k__law_take => k_is)
    (case a__law_mul => k_is)
    (case l__law_mul => k_is)
    (case e__law_mul => k_is)
    (case k__law_mul => k_is)
    (case a__law_is_fraction => k_is)
    (case l__law_is_fraction => k_is)
    (case e__law_is_fraction => k_is)
    (case k__law_is_fraction => k_is)
    (case a__law_are_fractions => k_is)
    (case l__law_are_fractions => k_is)
    (case e__law_are_fractions => k_is)
    (case k__law_are_fractions => k_is)
    (case a__law_told_weights => k_is)
    (case l__law_told_weights => k_is)
    (case e__law_told_weights => k_is)
    (case k__law_told_weights => k_is)
    (case a__law_bars => k_is)
    (case l__law_bars => k_is)
    (case e__law_bars => k_is)
    (case k__law_bars => k_is)
    (case a__law_spots => k_is)
    (case l__law_spots => k_is)
    (case e__law_spots => k_is)
    (case k__law_spots => k_is)
    (case a_law => k_is)
    (case l_law => k_is)
    (case e_law => k_is)
    (case k_law => k_is)
    (case a_NOUGHT => k_is)
    (case a_NoFraction => k_is)
    (case a_NoMoments => k_is)
    (case a_ONE => k_is)
    (case a_TooFar => k_is)
    (case n_abs => k_is)
    (case n_all => k_is)
    (case n_bool => k_is)
    (case n_enumerate => k_is)
    (case n_int => k_is)
    (case n_isinstance => k_is)
    (case n_len => k_is)
    (case n_list => k_is)
    (case n_max => k_is)
    (case n_range => k_is)
    (case n_sum => k_is)
    (case n_tuple => k_is)
    (case n_zip => k_is)
    (case a_MOST_MOMENTS => k_is)
    (case x_nought => kernel_rfl)
    (case x_one => kernel_rfl)
    (case x_tf => kernel_rfl)
    (case x_nf => kernel_rfl)
    (case x_nm => kernel_rfl)
