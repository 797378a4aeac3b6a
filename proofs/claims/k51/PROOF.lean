import PyProof.Rows.All
import Wide.All
import OpenK.AllK
import Wide.FinOn
import Lean
import PyProof.EqAt
import PyProof.EqKinds
import PyProof.TupleCall
import PyProof.NeKinds
import KE.KRevIter
import PyProof.EnumStmt
import PyProof.StationsW
import PyProof.ExcClass3
import PyProof.InstStoreFacts
import PyProof.StrCalls
import PyProof.StrCalls2
import PyProof.StrWalks
import PyProof.StrBlockG
import PyProof.ConsumeWalk
import PyProof.StrOps2
import KE.KIntText
import KE.IntTextText
import PyProof.JoinWalk
import PyProof.CollectIter
import PyProof.StrLawsTight
import PyProof.StrLawsChain
import PyProof.Conv_int_bool
import PyProof.MinMaxWalk
import PyProof.WalksMore
import PyProof.WalkInts
import PyProof.ZipIter
import PyProof.DictWalks
import PySem.Challenge.RW_heightfractions_k51_whole_four_roads
set_option Elab.async false
set_option linter.all false
set_option maxRecDepth 100000
set_option maxHeartbeats 4000000
namespace L2
open PySem PySem.Spec PyProof.Rows
abbrev Key := Sum Int Str
def keyIs : Key → Value → Bool
  | .inl k, v => Value.isInt k v
  | .inr x, v => Value.isStrOf x v
def keyH (w : World) : Key → Int
  | .inl k => hashInt k
  | .inr x => hashStr w x
theorem keyIs_shape : ∀ {k : Key} {v : Value}, keyIs k v = true → (∃ i t, k = Sum.inl i ∧ v = Value.int i t) ∨ (∃ x t, k = Sum.inr x ∧ v = Value.str x t)
  | .inl i, v, h => by
    obtain ⟨t, e⟩ := Value.isInt_shape (k := i) (v := v) h
    exact .inl ⟨i, t, rfl, e⟩
  | .inr x, v, h => by
    obtain ⟨t, e⟩ := Value.isStrOf_shape (x := x) (v := v) h
    exact .inr ⟨x, t, rfl, e⟩
theorem keyIs_int (i : Int) (t : Tok) : keyIs (.inl i) (.int i t) = true := by simp [keyIs, Value.isInt]
theorem keyIs_str (x : Str) (t : Tok) : keyIs (.inr x) (.str x t) = true := by simp [keyIs, Value.isStrOf]
theorem key_ll (a b : Int) : decide ((Sum.inl a : Key) = Sum.inl b) = (a == b) := by
  by_cases e : a = b
  · subst e; simp
  · have h : ¬ (Sum.inl a : Key) = Sum.inl b := fun q => e (Sum.inl.inj q)
    rw [decide_eq_false h]
    exact (beq_eq_false_iff_ne.mpr e).symm
theorem key_rr (a b : Str) : decide ((Sum.inr a : Key) = Sum.inr b) = decide (a = b) := by
  by_cases e : a = b
  · subst e; simp
  · have h : ¬ (Sum.inr a : Key) = Sum.inr b := fun q => e (Sum.inr.inj q)
    rw [decide_eq_false h, decide_eq_false e]
theorem key_lr (a : Int) (b : Str) : decide ((Sum.inl a : Key) = Sum.inr b) = false := decide_eq_false (fun q => nomatch q)
theorem key_rl (a : Str) (b : Int) : decide ((Sum.inr a : Key) = Sum.inl b) = false := decide_eq_false (fun q => nomatch q)
def mixKind (prog : Program) (w : World) : PySem.KeyKind prog w Key where
  is := keyIs
  hash := keyH w
  inj := fun v a b ha hb => by
    rcases keyIs_shape ha with ⟨i, t, rfl, rfl⟩ | ⟨x, t, rfl, rfl⟩
    · rcases keyIs_shape hb with ⟨j, u, rfl, e⟩ | ⟨y, u, rfl, e⟩
      · injection e with e1 _; rw [e1]
      · exact nomatch e
    · rcases keyIs_shape hb with ⟨j, u, rfl, e⟩ | ⟨y, u, rfl, e⟩
      · exact nomatch e
      · injection e with e1 _; rw [e1]
  byValue := fun k v h => by
    rcases keyIs_shape h with ⟨i, t, rfl, rfl⟩ | ⟨x, t, rfl, rfl⟩ <;> rfl
  pyHash := fun hv h => by
    rcases keyIs_shape hv with ⟨i, t, rfl, rfl⟩ | ⟨x, t, rfl, rfl⟩
    · exact wpAny_pyHash_int h
    · exact wpAny_pyHash_str h
  eqBool := fun hu hv h => by
    rcases keyIs_shape hu with ⟨i, t, rfl, rfl⟩ | ⟨x, t, rfl, rfl⟩
    · rcases keyIs_shape hv with ⟨j, u, rfl, rfl⟩ | ⟨y, u, rfl, rfl⟩
      · rw [key_ll] at h; exact wpAny_eqBool_int h
      · rw [key_lr] at h; exact SeqAt.EqAt.int_str i t y u _ _ _ _ h
    · rcases keyIs_shape hv with ⟨j, u, rfl, rfl⟩ | ⟨y, u, rfl, rfl⟩
      · rw [key_rl] at h; exact SeqAt.EqAt.str_int x t j u _ _ _ _ h
      · rw [key_rr] at h; exact wpAny_eqBool_str h
  «strs» := fun k x t v h => by
    rcases keyIs_shape h with ⟨i, u, rfl, e⟩ | ⟨y, u, rfl, e⟩
    · exact nomatch e
    · injection e with e1 _
      subst e1
      cases v <;> rfl
theorem mixKind_int (prog : Program) (w : World) (i : Int) (t : Tok) : (mixKind prog w).is (.inl i) (.int i t) = true := keyIs_int i t
theorem mixKind_str (prog : Program) (w : World) (x : Str) (t : Tok) : (mixKind prog w).is (.inr x) (.str x t) = true := keyIs_str x t
end L2
namespace L2
open PySem PySem.Spec PyProof.Rows
inductive V where
  | non | bl (b : Bool) | int (i : Int) | str (x : Str) | byt (b : Array UInt8) | flt (b : UInt64) | ref (a : Addr) | ty (n : String)
  deriving DecidableEq
def RelV : V → Value → Prop
  | .non, u => u = Value.none
  | .bl b, u => u = Value.bool b
  | .int i, u => ∃ t, u = Value.int i t
  | .str x, u => ∃ t, u = Value.str x t
  | .byt b, u => ∃ t, u = Value.bytes b t
  | .flt b, u => ∃ t, u = Value.float b t
  | .ref a, u => u = Value.ref a
  | .ty n, u => u = Value.type n
abbrev Vals : List V → List Value → Prop := Paired RelV
theorem Vals.length {xs : List V} {us : List Value} (r : Vals xs us) : xs.length = us.length := Paired.length r
theorem Vals.get : ∀ {xs : List V} {us : List Value} {i : Nat} {x : V}, Vals xs us → xs[i]? = some x → ∃ u, us[i]? = some u ∧ RelV x u
  | _, _, _, _, .nil, e => by simp at e
  | _, _, 0, _, .cons r _, e => by simp at e; subst e; exact ⟨_, rfl, r⟩
  | _, _, i + 1, x, .cons _ t, e => by
    obtain ⟨u, h1, h2⟩ := Vals.get (i := i) (x := x) t (by simpa using e)
    exact ⟨u, by simpa using h1, h2⟩
theorem Vals.set {x : V} {u : Value} (r : RelV x u) : ∀ {xs : List V} {us : List Value} (i : Nat), Vals xs us → Vals (xs.set i x) (us.set i u)
  | _, _, _, .nil => .nil
  | _, _, 0, .cons _ t => .cons r t
  | _, _, i + 1, .cons q t => .cons q (Vals.set r i t)
theorem Vals.append : ∀ {xs ys : List V} {us ws : List Value}, Vals xs us → Vals ys ws → Vals (xs ++ ys) (us ++ ws)
  | _, _, _, _, .nil, s => s
  | _, _, _, _, .cons r t, s => .cons r (Vals.append t s)
theorem Vals.take : ∀ {xs : List V} {us : List Value} (n : Nat), Vals xs us → Vals (xs.take n) (us.take n)
  | _, _, 0, _ => .nil
  | _, _, _ + 1, .nil => .nil
  | _, _, n + 1, .cons r t => .cons r (Vals.take n t)
theorem Vals.drop : ∀ {xs : List V} {us : List Value} (n : Nat), Vals xs us → Vals (xs.drop n) (us.drop n)
  | _, _, 0, r => r
  | _, _, _ + 1, .nil => .nil
  | _, _, n + 1, .cons _ t => Vals.drop n t
def RelO : Option V → Option Value → Prop
  | some v, some u => RelV v u
  | none, none => True
  | _, _ => False
def KV {κ : Type} : List (κ × V) → List (κ × Value) → Prop := Paired fun (p : κ × V) (q : κ × Value) => p.1 = q.1 ∧ RelV p.2 q.2
def kV : Key → V
  | .inl i => .int i
  | .inr x => .str x
inductive HO where
  | lst (xs : List V)
  | tup (xs : List V)
  | dK (kvs : List (Key × V)) | dT (kvs : List (List Key × V))
  | set (S : Int → Bool) (n : Nat)
  | ins (C dx : Addr) (fs : List (Str × V))
  | own (x : Addr)
  | xd (fs : List (Str × V))
  | met (f x : Addr)
  | rng (lo hi : Int)
  | frz (o : Obj) (u : HO)
  | tbl (ps : Array Value)
  | ext (φ : Heap → Prop)
abbrev Hp := Addr → Option HO
def upd (H : Hp) (a : Addr) (o : HO) : Hp := fun b => if b = a then some o else H b
theorem upd_same {H : Hp} {a : Addr} {o : HO} : upd H a o a = some o := by unfold upd; rw [if_pos rfl]
theorem upd_ne {H : Hp} {a b : Addr} {o : HO} (h : b ≠ a) : upd H a o b = H b := by unfold upd; rw [if_neg h]
theorem upd_upd {H : Hp} {a : Addr} {o u : HO} : upd (upd H a o) a u = upd H a u := by
  funext b; unfold upd; split <;> rfl
theorem ne_of {H : Hp} {a b : Addr} {o u : HO} (h : H a = some o) (h' : H b = some u) (d : o ≠ u) : a ≠ b := by
  intro e; subst e; rw [h] at h'; exact d (Option.some.inj h')
theorem ne_of_none {H : Hp} {a b : Addr} {o : HO} (h : H a = some o) (h' : H b = none) : a ≠ b := by
  intro e; subst e; rw [h] at h'; cases h'
section
variable (P : Program) (w : World)
def ObjOk (H : Hp) (h : Heap) (a : Addr) : HO → Prop
  | .lst xs => xs.length ≤ sizeLine ∧ ∃ (its : List Value) (n : Nat), Vals xs its ∧ h.get? a = some { cls := .type "list", data := .seq its.toArray n }
  | .tup xs => xs.length ≤ sizeLine ∧ ∃ its : List Value, Vals xs its ∧ IsTup h a its.toArray
  | .dK kvs => kvs.length ≤ sizeLine ∧ (a == sysModules) = false ∧ ∃ vs, KV kvs vs ∧ h.DictOf (mixKind P w) a vs
  | .dT kvs => kvs.length ≤ sizeLine ∧ (a == sysModules) = false ∧ ∃ xs : List (List Key × Addr × Value),
      Paired (fun (p : List Key × V) (q : List Key × Addr × Value) => p.1 = q.1 ∧ H q.2.1 = some (.tup (p.1.map kV)) ∧ RelV p.2 q.2.2) kvs xs ∧
      ∃ o es ep, h.get? a = some o ∧ o.ExactDict ∧ o.data = .dict es ep ∧ es.toList = xs.map (entryOfKey (tupleKind (mixKind P w))) ∧ (xs.map (·.1)).Nodup
  | .set S n => h.SetOf (intKind P w) a S n
  | .ins C dx fs => H dx = some (.own a) ∧ fs.length ≤ 1000 ∧ dx ≠ a ∧ h.get? a = some (PySem.W.instObj C dx) ∧
      ∃ mA, h.Ns1 dx mA ∧ (∀ f, RelO (fs.lookup f) (mA f)) ∧ PySem.Within mA (fs.map (·.1))
  | .own _ => ∃ o, h.get? a = some o
  | .xd fs => ∃ mA, h.Ns1 a mA ∧ ∀ f, RelO (fs.lookup f) (mA f)
  | .rng lo hi => ∃ t u v, h.get? a = some { cls := .type "range", data := .fields #[.int lo t, .int hi u, .int 1 v] }
  | .frz o u => h.get? a = some o ∧ ObjOk H h a u
  | .tbl ps => h.get? a = some { cls := .none, data := .fields ps }
  | .met f x => h.get? a = some (PySem.W.methodObj (.ref f) (.ref x))
  | .ext φ => φ h ∧ (∃ o, h.get? a = some o) ∧ ∀ h1 h2 : Heap, φ h1 → (∀ o, h1.get? a = some o → h2.get? a = some o) → φ h2
def HOk (H : Hp) (h : Heap) : Prop := ∀ a o, H a = some o → ObjOk P w H h a o
end
section
variable {P : Program} {w : World} {H H' : Hp} {h h' : Heap} {a : Addr} {o : HO}
theorem ObjOk.lt (x : ObjOk P w H h a o) : a < h.objs.size := by
  cases o with
  | lst xs => obtain ⟨_, _, _, _, e⟩ := x; exact Heap.lt_size e
  | tup xs => obtain ⟨_, _, _, p⟩ := x; exact p.lt
  | dK kvs => obtain ⟨_, _, _, _, o, _, _, e, _⟩ := x; exact Heap.lt_size e
  | dT kvs => obtain ⟨_, _, _, _, o, _, _, e, _⟩ := x; exact Heap.lt_size e
  | set S n => obtain ⟨o, _, _, _, e, _⟩ := x; exact Heap.lt_size e
  | ins C dx fs => obtain ⟨_, _, _, e, _⟩ := x; exact Heap.lt_size e
  | own y => obtain ⟨_, e⟩ := x; exact Heap.lt_size e
  | xd fs => obtain ⟨_, ⟨_, _, _, e, _⟩, _⟩ := x; exact Heap.lt_size e
  | rng lo hi => obtain ⟨_, _, _, e⟩ := x; exact Heap.lt_size e
  | frz ob u => obtain ⟨e, _⟩ := x; exact Heap.lt_size e
  | tbl ps => exact Heap.lt_size (show h.get? a = some _ from x)
  | met f y => exact Heap.lt_size (show h.get? a = some _ from x)
  | ext φ => obtain ⟨_, ⟨_, e⟩, _⟩ := x; exact Heap.lt_size e
theorem Paired.mapP {α β : Type} {F G : α → β → Prop} : ∀ {l₁ : List α} {l₂ : List β}, Paired F l₁ l₂ → (∀ a b, F a b → G a b) → Paired G l₁ l₂
  | _, _, .nil, _ => .nil
  | _, _, .cons r t, f => .cons (f _ _ r) (Paired.mapP t f)
theorem ObjOk.stay (x : ObjOk P w H h a o) (k : ∀ b u, (b = a ∨ H b = some (.own a)) → h.get? b = some u → h'.get? b = some u)
    (ho : ∀ b, H b = some (.own a) → H' b = some (.own a)) (ht : ∀ b xs, H b = some (.tup xs) → H' b = some (.tup xs)) : ObjOk P w H' h' a o := by
  induction o with
  | lst xs => obtain ⟨z, its, n, r, e⟩ := x; exact ⟨z, its, n, r, k _ _ (.inl rfl) e⟩
  | tup xs => obtain ⟨z, its, r, ob, e, c⟩ := x; exact ⟨z, its, r, ob, k _ _ (.inl rfl) e, c⟩
  | dK kvs => obtain ⟨z, y, vs, r, ob, es, ep, e, c⟩ := x; exact ⟨z, y, vs, r, ob, es, ep, k _ _ (.inl rfl) e, c⟩
  | dT kvs =>
    obtain ⟨z, y, xs, r, ob, es, ep, e, c⟩ := x
    exact ⟨z, y, xs, Paired.mapP r fun p q z => ⟨z.1, ht _ _ z.2.1, z.2.2⟩, ob, es, ep, k _ _ (.inl rfl) e, c⟩
  | set S n => obtain ⟨ob, es, ep, t, e, c⟩ := x; exact ⟨ob, es, ep, t, k _ _ (.inl rfl) e, c⟩
  | ins C dx fs =>
    obtain ⟨d, z, ne, e, mA, ⟨od, es, ep, e2, c⟩, r⟩ := x
    exact ⟨ho _ d, z, ne, k _ _ (.inl rfl) e, mA, ⟨od, es, ep, k _ _ (.inr d) e2, c⟩, r⟩
  | own y => obtain ⟨ob, e⟩ := x; exact ⟨ob, k _ _ (.inl rfl) e⟩
  | xd fs => obtain ⟨mA, ⟨od, es, ep, e, c⟩, r⟩ := x; exact ⟨mA, ⟨od, es, ep, k _ _ (.inl rfl) e, c⟩, r⟩
  | rng lo hi => obtain ⟨t, u, v, e⟩ := x; exact ⟨t, u, v, k _ _ (.inl rfl) e⟩
  | frz ob u ih => obtain ⟨e, q⟩ := x; exact ⟨k _ _ (.inl rfl) e, ih q⟩
  | tbl ps =>
    have e : h.get? a = some { cls := .none, data := .fields ps } := x
    show h'.get? a = some { cls := .none, data := .fields ps }
    exact k a _ (.inl rfl) e
  | met f y =>
    have e : h.get? a = some (PySem.W.methodObj (.ref f) (.ref y)) := x
    show h'.get? a = some (PySem.W.methodObj (.ref f) (.ref y))
    exact k a _ (.inl rfl) e
  | ext φ => obtain ⟨p, ⟨o, e⟩, st⟩ := x; exact ⟨st _ _ p fun o q => k _ _ (.inl rfl) q, ⟨o, k _ _ (.inl rfl) e⟩, st⟩
theorem HOk.lt (x : HOk P w H h) (e : H a = some o) : a < h.objs.size := (x a o e).lt
theorem HOk.fresh (x : HOk P w H h) (e : h.objs.size ≤ a) : H a = none := by
  cases q : H a with
  | none => rfl
  | some u => exact absurd (Nat.lt_of_lt_of_le (x.lt q) e) (Nat.lt_irrefl _)
theorem HOk.kept (x : HOk P w H h) (k : ∀ b u, h.get? b = some u → h'.get? b = some u) : HOk P w H h' := fun a o e =>
  (x a o e).stay (fun b u _ q => k b u q) (fun _ q => q) fun _ _ q => q
theorem HOk.laid (x : HOk P w H h) (k : ∀ b u, h.get? b = some u → h'.get? b = some u) (hp : h.objs.size ≤ a) (new : ObjOk P w (upd H a o) h' a o) : HOk P w (upd H a o) h' := fun b u e => by
  have hn := x.fresh hp
  by_cases hb : b = a
  · subst hb; rw [upd_same] at e; cases e; exact new
  · rw [upd_ne hb] at e
    exact (x b u e).stay (fun c v _ q => k c v q) (fun c q => by rw [upd_ne (ne_of_none q hn)]; exact q) fun c xs q => by rw [upd_ne (ne_of_none q hn)]; exact q
end
def Rd (H : Hp) (a : Addr) (u : HO) : Prop := H a = some u ∨ ∃ o, H a = some (.frz o u)
theorem Rd.ok {P : Program} {w : World} {H : Hp} {h : Heap} {a : Addr} {u : HO} (r : Rd H a u) (x : HOk P w H h) : ObjOk P w H h a u := by
  rcases r with r | ⟨o, r⟩
  · exact x a u r
  · obtain ⟨_, q⟩ := x a _ r
    exact q
def Mut : Option HO → Prop
  | some (.lst _) => True
  | some (.dK _) => True
  | some (.dT _) => True
  | some (.set _ _) => True
  | some (.ins _ _ _) => True
  | some (.ext _) => True
  | _ => False
section
variable {P : Program} {w : World} {H : Hp} {h h' : Heap} {x e : Addr} {o' : HO}
theorem HOk.write (ok : HOk P w H h) (mu : Mut (H x)) (he : e = x ∨ H e = some (.own x)) (k : ∀ b u, b ≠ e → h.get? b = some u → h'.get? b = some u) (heo : ∃ u, h'.get? e = some u)
    (new : ObjOk P w (upd H x o') h' x o') : HOk P w (upd H x o') h' := fun b u q => by
  have nown : ∀ c y, H c = some (.own y) → c ≠ x := fun c y r z => by subst z; rw [r] at mu; exact mu
  have ntup : ∀ c xs, H c = some (.tup xs) → c ≠ x := fun c xs r z => by subst z; rw [r] at mu; exact mu
  by_cases hb : b = x
  · subst hb; rw [upd_same] at q; cases q; exact new
  · rw [upd_ne hb] at q
    by_cases hbe : b = e
    · have q' : H b = some (.own x) := by
        rcases he with z | z
        · exact absurd (hbe.trans z) hb
        · rw [hbe]; exact z
      rw [q] at q'; cases q'
      obtain ⟨v, hv⟩ := heo
      exact ⟨v, by rw [hbe]; exact hv⟩
    · refine (ok b u q).stay (fun c v hc r => k c v ?_ r) (fun c r => by rw [upd_ne (nown c b r)]; exact r) fun c xs r => by rw [upd_ne (ntup c xs r)]; exact r
      rcases hc with rfl | hc
      · exact hbe
      · rintro rfl
        rcases he with z | z
        · exact nown c b hc z
        · rw [hc] at z; cases z; exact hb rfl
end
structure Un (fs ex : List Addr) (H H' : Hp) (h h' : Heap) : Prop where
  keep : ∀ b o, h.get? b = some o → H b = none → b ∉ fs → b ∉ ex → h'.get? b = some o
  slot : ∀ b o, h.get? b = some o → H b = none → b ∈ fs → b ∉ ex → ∃ sl, h'.get? b = some { o with slots := sl }
  free : ∀ b o, h.get? b = some o → H b = none → b ∉ ex → H' b = none
  there : ∀ b o, h.get? b = some o → b ∉ ex → ∃ o', h'.get? b = some o'
  tups : ∀ b xs, H b = some (.tup xs) → H' b = some (.tup xs)
  frzs : ∀ b o u, H b = some (.frz o u) → H' b = some (.frz o u)
  tbls : ∀ b ps, H b = some (.tbl ps) → ∃ more, H' b = some (.tbl (ps ++ more))
section
variable {fs fs' ex ex' : List Addr} {H H1 H2 : Hp} {h h1 h2 h' : Heap} {a x e : Addr} {o : HO}
theorem Un.any (u : Un fs ex H H1 h h1) {b : Addr} {ob : Obj} (q : h.get? b = some ob) (n : H b = none) (hx : b ∉ ex) : ∃ sl, h1.get? b = some { ob with slots := sl } := by
  by_cases hb : b ∈ fs
  · exact u.slot b ob q n hb hx
  · exact ⟨ob.slots, u.keep b ob q n hb hx⟩
theorem Un.kept (k : ∀ b u, h.get? b = some u → h'.get? b = some u) : Un fs ex H H h h' :=
  ⟨fun b ob q _ _ _ => k b ob q, fun b ob q _ _ _ => ⟨ob.slots, k b ob q⟩, fun _ _ _ n _ => n, fun b ob q _ => ⟨ob, k b ob q⟩, fun _ _ q => q, fun _ _ _ q => q, fun _ ps q => ⟨#[], by rw [q]; simp⟩⟩
theorem Un.refl : Un fs ex H H h h := Un.kept fun _ _ q => q
theorem Un.laid (k : ∀ b u, h.get? b = some u → h'.get? b = some u) (hp : h.objs.size ≤ a) (hn : H a = none) : Un fs ex H (upd H a o) h h' where
  keep := fun b u q _ _ _ => k b u q
  slot := fun b u q _ _ _ => ⟨u.slots, k b u q⟩
  free := fun b u q n _ => by rw [upd_ne (Nat.ne_of_lt (Nat.lt_of_lt_of_le (Heap.lt_size q) hp))]; exact n
  there := fun b u q _ => ⟨u, k b u q⟩
  tups := fun b xs q => by rw [upd_ne (ne_of_none q hn)]; exact q
  frzs := fun b u xs q => by rw [upd_ne (ne_of_none q hn)]; exact q
  tbls := fun b ps q => ⟨#[], by rw [upd_ne (ne_of_none q hn), q]; simp⟩
theorem Un.write (mu : Mut (H x)) (he : e = x ∨ H e = some (.own x)) (k : ∀ b u, b ≠ e → h.get? b = some u → h'.get? b = some u) (heo : ∃ u, h'.get? e = some u) : Un fs ex H (upd H x o) h h' := by
  have hx : ∀ b, H b = none → b ≠ x := fun b n z => by subst z; rw [n] at mu; exact mu
  have hb : ∀ b, H b = none → b ≠ e := fun b n z => by
    subst z
    rcases he with r | r
    · exact hx b n r
    · rw [n] at r; cases r
  have hm : ∀ b u, H b = some u → ¬ Mut (some u) → b ≠ x := fun b u q nm z => by subst z; rw [q] at mu; exact nm mu
  refine ⟨fun b u q n _ _ => k b u (hb b n) q, fun b u q n _ _ => ⟨u.slots, k b u (hb b n) q⟩, fun b u q n _ => by rw [upd_ne (hx b n)]; exact n, fun b u q _ => ?_,
    fun b xs q => by rw [upd_ne (hm b _ q fun z => z)]; exact q, fun b u xs q => by rw [upd_ne (hm b _ q fun z => z)]; exact q, fun b ps q => ⟨#[], by rw [upd_ne (hm b _ q fun z => z), q]; simp⟩⟩
  by_cases hbe : b = e
  · subst hbe; exact heo
  · exact ⟨u, k b u hbe q⟩
end
def trk (h : Heap) (H : Hp) : List Addr := (List.range h.objs.size).filter fun a => (H a).isSome
def hidT (h : Heap) (H : Hp) : Heap := PySem.W.hideAll h (trk h H)
theorem hidT_size (h : Heap) (H : Hp) : (hidT h H).objs.size = h.objs.size := PySem.W.hideAll_size _ _
theorem hidT_get {h : Heap} {H : Hp} {b : Addr} {o : Obj} (e : h.get? b = some o) (n : H b = none) : (hidT h H).get? b = some o :=
  PySem.W.hideAll_get _ e fun hm => by
    have q : (H b).isSome = true := (List.mem_filter.mp hm).2
    rw [n] at q; simp at q
theorem of_hidT {h : Heap} {H : Hp} {b : Addr} {o : Obj} (e : (hidT h H).get? b = some o) : h.get? b = some o ∧ H b = none := by
  have e' : h.get? b = some o := PySem.W.of_hideAll (trk h H) e
  refine ⟨e', ?_⟩
  cases q : H b with
  | none => rfl
  | some x =>
    have hm : b ∈ trk h H := List.mem_filter.mpr ⟨List.mem_range.mpr (Heap.lt_size e'), by simp [q]⟩
    have z : (hidT h H).get? b = none := PySem.W.hideAll_none (trk h H) hm
    rw [z] at e; cases e
def allNews (g h : Heap) (L : Addr) : List (Addr × Obj) := (List.range h.objs.size).filterMap fun a => if a = L ∨ (g.get? a).isSome = true then none else (h.get? a).map fun o => (a, o)
def rest (g h : Heap) (L d : Addr) : List (Addr × Obj) := (allNews g h L).filter fun p => decide (p.1 ≠ d)
end L2
namespace L2
open PySem PySem.Spec PyProof.Rows
structure Mod (K : PySem.W.Frag) (mg : Str → Option Value) (base : Heap) : Prop where
  kin : K.In base
  glob : base.Ns mainGlobals mg
  blt : ∃ mb, base.Ns builtinsNs mb ∧ ∀ x : Str, x ≠ "__name__" → mb x = bootBuiltins x
  nolimit : base.NoLimit
/-- the context: a def's body (or a comprehension's block) running. base: fixed through the whole law; s₀, H₀: the entry; outer: the frames whose slots others may change (a def's callers); stack: all frames that run;
   ex: iterators that were made ahead of the entry and are walked here (a comprehension's); fn: the names whose cells were made at the entry (a def: all; a comprehension's block: its own); calm: not within an except suite; pn: pins that every state bears; xe: what is wanted of an exception that leaves the code -/
structure Cx where
  prog : Program
  w : World
  K : PySem.W.Frag
  mg : Str → Option Value
  base : Heap
  A : Around
  N : List Str
  s₀ : Shared
  H₀ : Hp
  env : Env
  outer : List Env
  stack : List Env
  ex : List Addr
  fn : Str → Bool
  calm : Bool
  pn : List (Addr × Obj)
  xe : Value → Shared → Prop
def frs (l : List Env) : List Addr := l.filterMap (·.frame)
abbrev Cx.fs (X : Cx) : List Addr := frs X.outer
def Vis (sc : Scope) (x : Str) : Prop := sc.names.lookup x = some .local ∨ sc.names.lookup x = some .cell ∨ sc.names.lookup x = some .free
def Loc (sc : Scope) (x : Str) : Prop := sc.names.lookup x = some .local ∨ sc.names.lookup x = some .cell
def Look (env : Env) (h : Heap) (m : Str → Option Value) (x : Str) (u : Value) : Prop :=
  (env.kindOf x = some .local ∧ m x = some u) ∨ ((env.kindOf x = some .cell ∨ env.kindOf x = some .free) ∧ ∃ c, env.cells.lookup x = some c ∧ h.IsCell c (some u))
structure Cx.Ok (X : Cx) : Prop where
  mod : Mod X.K X.mg X.base
  kind : X.env.scope.kind = .function
  glob : X.env.globals = mainGlobals
  blt : X.env.builtins = builtinsNs
  above : X.s₀.heap.objs.size ≤ X.env.locals
  inj : ∀ x y c, X.env.cells.lookup x = some c → X.env.cells.lookup y = some c → x = y
  has : ∀ x, (X.env.kindOf x = some .cell ∨ X.env.kindOf x = some .free) → ∃ c, X.env.cells.lookup x = some c
  cab : ∀ x c, X.fn x = true → X.env.cells.lookup x = some c → X.s₀.heap.objs.size ≤ c
  hd : X.calm = true → X.A.handled = none
  frames : X.A.frames = some X.stack
  stk : X.stack = X.outer ∨ (X.stack = X.env :: X.outer ∧ X.env.frame = some X.env.locals)
  exf : ∀ b ∈ X.ex, b ≠ X.env.locals ∧ ∀ x c, X.env.cells.lookup x = some c → c ≠ b
  bs : ∀ b o, X.base.get? b = some o → X.s₀.heap.get? b = some o ∧ X.H₀ b = none
  bsz : X.base.objs.size ≤ X.s₀.heap.objs.size
  noex : ∀ b o, X.base.get? b = some o → b ∉ X.ex
  exfs : ∀ b ∈ X.ex, b ∉ X.fs
  funs : X.s₀.heap.FunFrames X.base X.outer
  frf : ∀ b ∈ X.fs, X.H₀ b = none
structure Inv (X : Cx) (pins : List (Addr × Obj)) (σ : List (Option V)) (H : Hp) (s : Shared) : Prop where
  ok : X.Ok
  os : s.os = X.s₀.os
  bare : AllBare s.gens
  base : Un X.fs X.ex X.H₀ H X.s₀.heap s.heap
  loc : ∃ m, s.heap.Ns X.env.locals m ∧ ∀ (i : Nat) (x : Str) (v : V), X.N[i]? = some x → σ[i]? = some (some v) → Vis X.env.scope x → ∃ u, RelV v u ∧ Look X.env s.heap m x u
  cell : ∀ x c, X.env.cells.lookup x = some c → ∃ v, s.heap.IsCell c v
  free : H X.env.locals = none
  freeC : ∀ x c, X.env.cells.lookup x = some c → H c = none
  pin : ∀ p ∈ X.pn ++ pins, s.heap.get? p.1 = some p.2 ∧ H p.1 = none ∧ p.1 ≠ X.env.locals ∧ p.1 ∉ X.fs ∧ ∀ v, p.2.data ≠ .cell v
  hok : HOk X.prog X.w H s.heap
  len : σ.length = X.N.length
section
variable {X : Cx} {pins : List (Addr × Obj)} {σ : List (Option V)} {H H' : Hp} {s : Shared} {h' : Heap}
theorem Cx.Ok.nofr (ok : X.Ok) {b : Addr} {o : Obj} (e : X.base.get? b = some o) : b ∉ X.fs := fun hb => by
  have := (ok.funs.mem hb).1
  rw [e] at this; cases this
theorem Inv.bs (I : Inv X pins σ H s) : ∀ b o, X.base.get? b = some o → s.heap.get? b = some o ∧ H b = none := fun b o e =>
  ⟨I.base.keep b o (I.ok.bs b o e).1 (I.ok.bs b o e).2 (I.ok.nofr e) (I.ok.noex b o e), I.base.free b o (I.ok.bs b o e).1 (I.ok.bs b o e).2 (I.ok.noex b o e)⟩
theorem Inv.bk (I : Inv X pins σ H s) : ∀ b o, X.base.get? b = some o → s.heap.get? b = some o := fun b o e => (I.bs b o e).1
theorem Inv.mod (I : Inv X pins σ H s) : Mod X.K X.mg X.base := I.ok.mod
theorem Inv.kIn (I : Inv X pins σ H s) : X.K.In s.heap := I.ok.mod.kin.keeps I.bk
theorem Inv.lt (I : Inv X pins σ H s) : X.env.locals < s.heap.objs.size := let ⟨_, hn, _⟩ := I.loc; hn.lt
theorem Inv.sz (I : Inv X pins σ H s) : X.s₀.heap.objs.size ≤ s.heap.objs.size := Nat.le_trans I.ok.above (Nat.le_of_lt I.lt)
theorem Inv.nofs (I : Inv X pins σ H s) {a : Addr} (h : s.heap.objs.size ≤ a) : a ∉ X.fs := fun hb => by
  obtain ⟨_, o, ho, _⟩ := I.ok.funs.mem hb
  exact absurd (Nat.lt_of_lt_of_le (Heap.lt_size ho) (Nat.le_trans I.sz h)) (Nat.lt_irrefl _)
theorem Inv.cne (I : Inv X pins σ H s) : ∀ x c, X.env.cells.lookup x = some c → c ≠ X.env.locals := fun x c e z => by
  obtain ⟨v, o, ho, hd⟩ := I.cell x c e
  obtain ⟨m, ⟨o', es, ep, ho', hd', _⟩, _⟩ := I.loc
  rw [z, ho'] at ho; cases ho; rw [hd'] at hd; cases hd
theorem Inv.funs (I : Inv X pins σ H s) : s.heap.FunFrames X.base X.outer := by
  have all : ∀ (l : List Env), (∀ b ∈ frs l, b ∈ X.fs) → X.s₀.heap.FunFrames X.base l → s.heap.FunFrames X.base l := by
    intro l
    induction l with
    | nil => intro _ _; trivial
    | cons env r ih =>
      intro hs hl
      obtain ⟨hk, ⟨L, o, hf, hn, ho, hd⟩, hr⟩ := hl
      have hL : L ∈ X.fs := hs L (by unfold frs; rw [List.filterMap_cons, hf]; exact List.mem_cons_self)
      obtain ⟨sl, e⟩ := I.base.slot L o ho (I.ok.frf L hL) hL fun z => I.ok.exfs L z hL
      exact ⟨hk, ⟨L, _, hf, hn, e, hd⟩, ih (fun b hb => hs b (by unfold frs; rw [List.filterMap_cons, hf]; exact List.mem_cons_of_mem _ hb)) hr⟩
  exact all X.outer (fun _ hb => hb) I.ok.funs
theorem Inv.stack (I : Inv X pins σ H s) : s.heap.FunFrames X.base X.stack := by
  rcases I.ok.stk with e | ⟨e, hf⟩
  · rw [e]; exact I.funs
  · rw [e]
    obtain ⟨m, hn, _⟩ := I.loc
    refine .cons (by rw [I.ok.kind]; decide) hf hn ?_ I.funs
    exact Heap.get?_none_of_le (Nat.le_trans I.ok.bsz I.ok.above)
theorem Inv.stkSub (I : Inv X pins σ H s) : ∀ b ∈ frs X.stack, b ∈ X.env.locals :: X.fs := fun b hb => by
  rcases I.ok.stk with e | ⟨e, hf⟩
  · rw [e] at hb; exact List.mem_cons_of_mem _ hb
  · rw [e] at hb
    unfold frs at hb
    rw [List.filterMap_cons, hf] at hb
    exact hb
theorem Inv.stkFree (I : Inv X pins σ H s) : ∀ b ∈ frs X.stack, H b = none := fun b hb => by
  rcases List.mem_cons.mp (I.stkSub b hb) with e | hb
  · rw [e]; exact I.free
  · obtain ⟨_, o, ho, _⟩ := I.ok.funs.mem hb
    exact I.base.free b o ho (I.ok.frf b hb) fun z => I.ok.exfs b z hb
theorem Inv.step {g' : Array GenState} {t' : Nat} {d' : Drawn} {ch : List Addr} (I : Inv X pins σ H s)
    (hch : ∀ b ∈ ch, (b ∈ X.ex ∨ X.s₀.heap.objs.size ≤ b) ∧ b ≠ X.env.locals ∧ (∀ x c, X.env.cells.lookup x = some c → c ≠ b) ∧ ∀ p ∈ X.pn ++ pins, p.1 ≠ b)
    (keep : ∀ b o, b ≠ X.env.locals → b ∉ X.fs → b ∉ ch → s.heap.get? b = some o → H b = none → h'.get? b = some o)
    (slot : ∀ b o, b ≠ X.env.locals → b ∈ X.fs → b ∉ ch → s.heap.get? b = some o → H b = none → ∃ sl, h'.get? b = some { o with slots := sl }) (free : ∀ b o, b ∉ ch → s.heap.get? b = some o → H b = none → H' b = none)
    (there : ∀ b o, b ∉ ch → s.heap.get? b = some o → ∃ o', h'.get? b = some o')
    (tups : ∀ b xs, H b = some (.tup xs) → H' b = some (.tup xs)) (frzs : ∀ b o u, H b = some (.frz o u) → H' b = some (.frz o u)) (tbls : ∀ b ps, H b = some (.tbl ps) → ∃ more, H' b = some (.tbl (ps ++ more)))
    (ns : ∀ m, s.heap.Ns X.env.locals m → h'.Ns X.env.locals m) (hok : HOk X.prog X.w H' h') (hg : AllBare g') :
    Inv X pins σ H' { s with heap := h', gens := g', drawn := d', toks := t' } := by
  have neL : ∀ b o, X.s₀.heap.get? b = some o → b ≠ X.env.locals := fun b o e => Nat.ne_of_lt (Nat.lt_of_lt_of_le (Heap.lt_size e) I.ok.above)
  have neC : ∀ b o, X.s₀.heap.get? b = some o → b ∉ X.ex → b ∉ ch := fun b o e hx hb => by
    rcases (hch b hb).1 with z | z
    · exact hx z
    · exact absurd (Nat.lt_of_lt_of_le (Heap.lt_size e) z) (Nat.lt_irrefl _)
  have cellK : ∀ x c, X.env.cells.lookup x = some c → ∀ v, s.heap.IsCell c v → h'.IsCell c v := fun x c e v ⟨o, ho, hd⟩ => by
    have nch : c ∉ ch := fun z => (hch c z).2.2.1 x c e rfl
    by_cases hc : c ∈ X.fs
    · obtain ⟨sl, q⟩ := slot c o (I.cne x c e) hc nch ho (I.freeC x c e)
      exact ⟨_, q, hd⟩
    · exact ⟨o, keep c o (I.cne x c e) hc nch ho (I.freeC x c e), hd⟩
  refine ⟨I.ok, I.os, hg, ⟨fun b o e n hb hx => ?_, fun b o e n hb hx => ?_, fun b o e n hx => ?_, fun b o e hx => ?_, fun b xs e => tups b xs (I.base.tups b xs e), fun b o xs e => frzs b o xs (I.base.frzs b o xs e), fun b ps e => ?_⟩, ?_, fun x c e => ?_, ?_, fun x c e => ?_, fun p hp => ?_, hok, I.len⟩
  · exact keep b o (neL b o e) hb (neC b o e hx) (I.base.keep b o e n hb hx) (I.base.free b o e n hx)
  · obtain ⟨sl, e1⟩ := I.base.slot b o e n hb hx
    obtain ⟨sl', e2⟩ := slot b _ (neL b o e) hb (neC b o e hx) e1 (I.base.free b o e n hx)
    exact ⟨sl', e2⟩
  · obtain ⟨o', e1⟩ := I.base.there b o e hx
    exact free b o' (neC b o e hx) e1 (I.base.free b o e n hx)
  · obtain ⟨o', e1⟩ := I.base.there b o e hx
    exact there b o' (neC b o e hx) e1
  · obtain ⟨m1, e1⟩ := I.base.tbls b ps e
    obtain ⟨m2, e2⟩ := tbls b _ e1
    exact ⟨m1 ++ m2, by rw [e2, Array.append_assoc]⟩
  · obtain ⟨m, hn, hl⟩ := I.loc
    refine ⟨m, ns m hn, fun i x v e1 e2 e3 => ?_⟩
    obtain ⟨u, r, l⟩ := hl i x v e1 e2 e3
    refine ⟨u, r, ?_⟩
    rcases l with l | ⟨k, c, e, z⟩
    · exact .inl l
    · exact .inr ⟨k, c, e, cellK x c e _ z⟩
  · obtain ⟨v, z⟩ := I.cell x c e
    exact ⟨v, cellK x c e v z⟩
  · obtain ⟨m, ⟨o, _, _, ho, _⟩, _⟩ := I.loc
    exact free _ o (fun z => (hch _ z).2.1 rfl) ho I.free
  · obtain ⟨v, o, ho, hd⟩ := I.cell x c e
    exact free c o (fun z => (hch c z).2.2.1 x c e rfl) ho (I.freeC x c e)
  · obtain ⟨e, n, ne, nf, d⟩ := I.pin p hp
    have nch : p.1 ∉ ch := fun z => (hch p.1 z).2.2.2 p hp rfl
    exact ⟨keep p.1 p.2 ne nf nch e n, free p.1 p.2 nch e n, ne, nf, d⟩
theorem Inv.un {t' : Nat} (I : Inv X pins σ H s) (u : Un X.fs [] H H' s.heap h') (hok : HOk X.prog X.w H' h') : Inv X pins σ H' { s with heap := h', toks := t' } := by
  obtain ⟨m, ⟨o, es, ep, ho, r⟩, _⟩ := id I.loc
  obtain ⟨sl, hL⟩ := u.any ho I.free (by simp)
  exact I.step (g' := s.gens) (d' := s.drawn) (ch := []) (fun _ z => nomatch z) (fun b o _ hb _ e n => u.keep b o e n hb (by simp)) (fun b o _ hb _ e n => u.slot b o e n hb (by simp)) (fun b o _ e n => u.free b o e n (by simp)) (fun b o _ e => u.there b o e (by simp)) u.tups u.frzs u.tbls (fun m' hm => by
    obtain ⟨o', es', ep', ho', r'⟩ := hm
    rw [ho] at ho'; cases ho'
    exact ⟨_, es', ep', hL, r'⟩) hok I.bare
theorem Inv.call {g' : Array GenState} {t' : Nat} {d' : Drawn} {ch : List Addr} (I : Inv X pins σ H s) (u : Un (frs X.stack) ch H H' s.heap h') (hok : HOk X.prog X.w H' h') (hg : AllBare g')
    (hch : ∀ b ∈ ch, (b ∈ X.ex ∨ X.s₀.heap.objs.size ≤ b) ∧ b ≠ X.env.locals ∧ (∀ x c, X.env.cells.lookup x = some c → c ≠ b) ∧ ∀ p ∈ X.pn ++ pins, p.1 ≠ b) :
    Inv X pins σ H' { s with heap := h', gens := g', drawn := d', toks := t' } := by
  obtain ⟨m, ⟨o, es, ep, ho, r⟩, _⟩ := id I.loc
  obtain ⟨sl, hL⟩ := u.any ho I.free fun z => (hch _ z).2.1 rfl
  exact I.step (ch := ch) hch (fun b o hL hb hc e n => u.keep b o e n (fun z => (List.mem_cons.mp (I.stkSub b z)).elim hL hb) hc) (fun b o _ _ hc e n => u.any e n hc) (fun b o hc e n => u.free b o e n hc) (fun b o hc e => u.there b o e hc) u.tups u.frzs u.tbls (fun m' hm => by
    obtain ⟨o', es', ep', ho', r'⟩ := hm
    rw [ho] at ho'; cases ho'
    exact ⟨_, es', ep', hL, r'⟩) hok hg
theorem Inv.turned {t' : Nat} {it : Addr} (I : Inv X pins σ H s) (k : ∀ b o, b ≠ it → s.heap.get? b = some o → h'.get? b = some o) (hn : H it = none) (hL : it ≠ X.env.locals)
    (h1 : it ∈ X.ex ∨ X.s₀.heap.objs.size ≤ it) (h2 : ∀ x c, X.env.cells.lookup x = some c → c ≠ it) (h3 : ∀ p ∈ X.pn ++ pins, p.1 ≠ it) : Inv X pins σ H { s with heap := h', toks := t' } := by
  have nit : ∀ b u, H b = some u → b ≠ it := fun b u e z => by rw [z, hn] at e; cases e
  refine I.step (g' := s.gens) (d' := s.drawn) (ch := [it]) (fun b hb => ?_) (fun b o _ _ hc e _ => k b o (fun z => hc (by simp [z])) e) (fun b o _ _ hc e _ => ⟨o.slots, k b o (fun z => hc (by simp [z])) e⟩) (fun _ _ _ _ n => n)
    (fun b o hc e => ⟨o, k b o (fun z => hc (by simp [z])) e⟩) (fun _ _ e => e) (fun _ _ _ e => e) (fun b ps e => ⟨#[], by rw [e]; simp⟩) (fun m hm => ?_) (fun b u e => ?_) I.bare
  · have e : b = it := by simpa using hb
    subst e
    exact ⟨h1, hL, h2, h3⟩
  · obtain ⟨o, es, ep, ho, r⟩ := hm
    exact ⟨o, es, ep, k _ o (Ne.symm hL) ho, r⟩
  · refine (I.hok b u e).stay (fun c v hc q => k c v ?_ q) (fun _ q => q) fun _ _ q => q
    rcases hc with z | z
    · rw [z]; exact nit b u e
    · exact nit c _ z
theorem Inv.tok (I : Inv X pins σ H s) (t : Nat) : Inv X pins σ H { s with toks := t } := I.un (h' := s.heap) (t' := t) Un.refl I.hok
theorem Inv.kept {t' : Nat} (I : Inv X pins σ H s) (k : ∀ b u, s.heap.get? b = some u → h'.get? b = some u) : Inv X pins σ H { s with heap := h', toks := t' } := I.un (Un.kept k) (I.hok.kept k)
theorem Inv.laid {a : Addr} {o : HO} {t' : Nat} (I : Inv X pins σ H s) (k : ∀ b u, s.heap.get? b = some u → h'.get? b = some u) (hp : s.heap.objs.size ≤ a) (new : ObjOk X.prog X.w (upd H a o) h' a o) :
    Inv X pins σ (upd H a o) { s with heap := h', toks := t' } := I.un (Un.laid k hp (I.hok.fresh hp)) (I.hok.laid k hp new)
theorem Inv.write {x e : Addr} {o : HO} {t' : Nat} (I : Inv X pins σ H s) (mu : Mut (H x)) (he : e = x ∨ H e = some (.own x)) (k : ∀ b u, b ≠ e → s.heap.get? b = some u → h'.get? b = some u) (heo : ∃ u, h'.get? e = some u)
    (new : ObjOk X.prog X.w (upd H x o) h' x o) : Inv X pins σ (upd H x o) { s with heap := h', toks := t' } := I.un (Un.write mu he k heo) (I.hok.write mu he k heo new)
theorem Inv.pins_of {pins' : List (Addr × Obj)} (I : Inv X pins σ H s) (h : ∀ p ∈ pins', s.heap.get? p.1 = some p.2 ∧ H p.1 = none ∧ p.1 ≠ X.env.locals ∧ p.1 ∉ X.fs ∧ ∀ v, p.2.data ≠ .cell v) : Inv X pins' σ H s :=
  ⟨I.ok, I.os, I.bare, I.base, I.loc, I.cell, I.free, I.freeC, fun p hp => (List.mem_append.mp hp).elim (fun z => I.pin p (List.mem_append_left _ z)) (h p), I.hok, I.len⟩
theorem nodup_ix {N : List Str} (hN : N.Nodup) {i j : Nat} {x : Str} (a : N[i]? = some x) (b : N[j]? = some x) : i = j := by
  obtain ⟨h1, e1⟩ := List.getElem?_eq_some_iff.mp a
  obtain ⟨h2, e2⟩ := List.getElem?_eq_some_iff.mp b
  exact (List.getElem_inj hN).mp (e1.trans e2.symm)
theorem store_ok2 {M : Model} {A : Around} {E : Value → Shared → Prop} {i : Nat} {x : Str} {v : V} {u : Value} {Q : Unit → Shared → Prop} (I : Inv X pins σ H s) (hN : X.N.Nodup) (hi : X.N[i]? = some x) (hx : Loc X.env.scope x) (r : RelV v u)
    (h : ∀ s', Inv X pins (σ.set i (some v)) H s' → (∃ a, Heap.SameBut a s.heap s'.heap ∧ (a = X.env.locals ∨ X.env.cells.lookup x = some a)) → Q () s') (hf : X.fn x = true ∨ X.env.scope.names.lookup x = some .local := by first | exact .inl rfl | exact .inr rfl | assumption) : wpAny M A (storeName X.env x u) Q E s := by
  obtain ⟨m, hn, hl⟩ := id I.loc
  have hcls : (X.env.scope.kind == .class || (X.env.scope.kind == .module && X.env.locals != X.env.globals)) = false := by rw [I.ok.kind]; rfl
  have hiσ : i < σ.length := by rw [I.len]; exact (List.getElem?_eq_some_iff.mp hi).1
  have cne := I.cne
  have tracked : ∀ {a : Addr} {h' : Heap}, (∃ o, s.heap.get? a = some o ∧ H a = none) → Heap.SameBut a s.heap h' → HOk X.prog X.w H h' := fun {a h'} ha hs b ob e => by
    obtain ⟨_, _, hfree⟩ := ha
    refine (I.hok b ob e).stay (fun c w' hc q => (hs.2 c ?_).trans q) (fun _ q => q) fun _ _ q => q
    rintro rfl
    rcases hc with rfl | hc
    · rw [hfree] at e; cases e
    · rw [hfree] at hc; cases hc
  rcases hx with hk | hk
  · refine wpAny_storeName_local hk hn (fun h' hn' hs => ?_) hcls
    obtain ⟨oL, _, _, hoL, _⟩ := id hn
    refine h _ ⟨I.ok, I.os, I.bare, ⟨fun b o e n hb hx => ?_, fun b o e n hb hx => ?_, I.base.free, fun b o e hx => ?_, I.base.tups, I.base.frzs, I.base.tbls⟩, ⟨_, hn', fun j y v' e1 e2 e3 => ?_⟩, fun y c e => ?_, I.free, I.freeC, fun p hp => ?_, tracked ⟨oL, hoL, I.free⟩ hs, by simpa using I.len⟩ ⟨_, hs, .inl rfl⟩
    · exact (hs.2 b (Nat.ne_of_lt (Nat.lt_of_lt_of_le (Heap.lt_size e) I.ok.above))).trans (I.base.keep b o e n hb hx)
    · obtain ⟨sl, e1⟩ := I.base.slot b o e n hb hx
      exact ⟨sl, (hs.2 b (Nat.ne_of_lt (Nat.lt_of_lt_of_le (Heap.lt_size e) I.ok.above))).trans e1⟩
    · obtain ⟨o', e1⟩ := I.base.there b o e hx
      exact ⟨o', (hs.2 b (Nat.ne_of_lt (Nat.lt_of_lt_of_le (Heap.lt_size e) I.ok.above))).trans e1⟩
    · by_cases hj : j = i
      · subst hj
        rw [hi] at e1; cases e1
        rw [List.getElem?_set_self hiσ] at e2
        cases e2
        exact ⟨u, r, .inl ⟨hk, by simp⟩⟩
      · rw [List.getElem?_set_ne (Ne.symm hj)] at e2
        obtain ⟨u', r', q⟩ := hl j y v' e1 e2 e3
        refine ⟨u', r', ?_⟩
        rcases q with ⟨k, e⟩ | ⟨k, c, e, z⟩
        · refine .inl ⟨k, ?_⟩
          have : y ≠ x := fun e => hj (nodup_ix hN e1 (e ▸ hi))
          simp [this, e]
        · exact .inr ⟨k, c, e, z.sameBut hs (cne y c e)⟩
    · obtain ⟨w', z⟩ := I.cell y c e
      exact ⟨w', z.sameBut hs (cne y c e)⟩
    · obtain ⟨e, n, ne, nf, d⟩ := I.pin p hp
      exact ⟨(hs.2 p.1 ne).trans e, n, ne, nf, d⟩
  · have hfn : X.fn x = true := by
      rcases hf with z | z
      · exact z
      · rw [z] at hk; cases hk
    obtain ⟨c, hc⟩ := I.ok.has x (.inl hk)
    obtain ⟨w', z⟩ := I.cell x c hc
    refine wpAny_storeName_cell I.ok.kind hk hc z (fun h' hc' hs => ?_)
    obtain ⟨oc, hoc, hocd⟩ := id z
    refine h { s with heap := h' } ⟨I.ok, I.os, I.bare, ⟨fun b o e n hb hx => ?_, fun b o e n hb hx => ?_, I.base.free, fun b o e hx => ?_, I.base.tups, I.base.frzs, I.base.tbls⟩, ⟨m, hn.sameBut hs (Ne.symm (cne x c hc)), fun j y v' e1 e2 e3 => ?_⟩, fun y c' e => ?_, I.free, I.freeC, fun p hp => ?_, tracked ⟨oc, hoc, I.freeC x c hc⟩ hs, by simpa using I.len⟩ ⟨c, hs, .inr hc⟩
    · exact (hs.2 b (Nat.ne_of_lt (Nat.lt_of_lt_of_le (Heap.lt_size e) (I.ok.cab x c hfn hc)))).trans (I.base.keep b o e n hb hx)
    · obtain ⟨sl, e1⟩ := I.base.slot b o e n hb hx
      exact ⟨sl, (hs.2 b (Nat.ne_of_lt (Nat.lt_of_lt_of_le (Heap.lt_size e) (I.ok.cab x c hfn hc)))).trans e1⟩
    · obtain ⟨o', e1⟩ := I.base.there b o e hx
      exact ⟨o', (hs.2 b (Nat.ne_of_lt (Nat.lt_of_lt_of_le (Heap.lt_size e) (I.ok.cab x c hfn hc)))).trans e1⟩
    · by_cases hj : j = i
      · subst hj
        rw [hi] at e1; cases e1
        rw [List.getElem?_set_self hiσ] at e2
        cases e2
        exact ⟨u, r, .inr ⟨.inl hk, c, hc, hc'⟩⟩
      · rw [List.getElem?_set_ne (Ne.symm hj)] at e2
        obtain ⟨u', r', q⟩ := hl j y v' e1 e2 e3
        refine ⟨u', r', ?_⟩
        rcases q with q | ⟨k, c', e, z'⟩
        · exact .inl q
        · refine .inr ⟨k, c', e, z'.sameBut hs ?_⟩
          rintro rfl
          exact hj (nodup_ix hN e1 (I.ok.inj _ _ _ e hc ▸ hi))
    · by_cases hcc : c' = c
      · subst hcc; exact ⟨_, hc'⟩
      · obtain ⟨w2, z2⟩ := I.cell y c' e
        exact ⟨w2, z2.sameBut hs hcc⟩
    · obtain ⟨e, n, ne, nf, d⟩ := I.pin p hp
      refine ⟨(hs.2 p.1 ?_).trans e, n, ne, nf, d⟩
      intro q
      rw [q, hoc] at e
      have q' : oc = p.2 := Option.some.inj e
      exact d w' (by rw [← q']; exact hocd)
theorem store_ok {M : Model} {A : Around} {E : Value → Shared → Prop} {i : Nat} {x : Str} {v : V} {u : Value} {Q : Unit → Shared → Prop} (I : Inv X pins σ H s) (hN : X.N.Nodup) (hi : X.N[i]? = some x) (hx : Loc X.env.scope x) (r : RelV v u)
    (h : ∀ s', Inv X pins (σ.set i (some v)) H s' → Q () s') (hf : X.fn x = true ∨ X.env.scope.names.lookup x = some .local := by first | exact .inl rfl | exact .inr rfl | assumption) : wpAny M A (storeName X.env x u) Q E s :=
  store_ok2 I hN hi hx r (fun s' I' _ => h s' I') hf
theorem Inv.call' {s' : Shared} {ch : List Addr} (I : Inv X pins σ H s) (ho : s'.os = s.os) (u : Un (frs X.stack) ch H H' s.heap s'.heap) (hok : HOk X.prog X.w H' s'.heap) (hg : AllBare s'.gens)
    (hch : ∀ b ∈ ch, (b ∈ X.ex ∨ X.s₀.heap.objs.size ≤ b) ∧ b ≠ X.env.locals ∧ (∀ x c, X.env.cells.lookup x = some c → c ≠ b) ∧ ∀ p ∈ X.pn ++ pins, p.1 ≠ b) : Inv X pins σ H' s' := by
  obtain ⟨h', g', d', t', o'⟩ := s'
  have e : o' = s.os := ho
  subst e
  exact I.call (g' := g') (t' := t') (d' := d') u hok hg hch
end
abbrev XK := Value → Option Addr → Hp → Prop
abbrev St := List (Option V)
abbrev VK := V → Hp → Prop
abbrev TE := St → Hp → VK → Prop
abbrev TT := St → Hp → (Bool → Hp → Prop) → Prop
abbrev TA := St → Hp → (List V → Hp → Prop) → Prop
structure Ends where
  nx : St → Hp → Prop
  rt : VK
  bk : St → Hp → Prop := fun _ _ => False
  ct : St → Hp → Prop := fun _ _ => False
abbrev TS := Ends → St → Hp → Prop
def EP (X : Cx) (pins : List (Addr × Obj)) (σ : St) (Q : VK) (u : Value) (s' : Shared) : Prop := ∃ v H', Inv X pins σ H' s' ∧ RelV v u ∧ Q v H'
def TP (X : Cx) (pins : List (Addr × Obj)) (σ : St) (Q : Bool → Hp → Prop) (b : Bool) (s' : Shared) : Prop := ∃ H', Inv X pins σ H' s' ∧ Q b H'
def AP (X : Cx) (pins : List (Addr × Obj)) (σ : St) (Q : List V → Hp → Prop) (us : List Value) (s' : Shared) : Prop := ∃ vs H', Inv X pins σ H' s' ∧ Vals vs us ∧ Q vs H'
def SP (X : Cx) (pins : List (Addr × Obj)) (D : Ends) (f : Flow) (s' : Shared) : Prop :=
  match f with
  | .next => ∃ σ' H', Inv X pins σ' H' s' ∧ D.nx σ' H'
  | .brk => ∃ σ' H', Inv X pins σ' H' s' ∧ D.bk σ' H'
  | .cont => ∃ σ' H', Inv X pins σ' H' s' ∧ D.ct σ' H'
  | .ret u => ∃ v σ' H', Inv X pins σ' H' s' ∧ RelV v u ∧ D.rt v H'
def PE (X : Cx) (e : Expr) (t : TE) : Prop :=
  ∀ (pins : List (Addr × Obj)) (s : Shared) (σ : St) (H : Hp) (Q : VK), Inv X pins σ H s → t σ H Q → wpAny (model X.prog X.w) X.A (eval e X.env) (EP X pins σ Q) X.xe s
def PT (X : Cx) (e : Expr) (t : TT) : Prop :=
  ∀ (pins : List (Addr × Obj)) (s : Shared) (σ : St) (H : Hp) (Q : Bool → Hp → Prop), Inv X pins σ H s → t σ H Q → wpAny (model X.prog X.w) X.A (isTrue e X.env (eval e X.env)) (TP X pins σ Q) X.xe s
def PW (X : Cx) (e : Expr) (t : TT) : Prop :=
  ∀ (whole : Sem Value) (pins : List (Addr × Obj)) (s : Shared) (σ : St) (H : Hp) (Q : Bool → Hp → Prop), Inv X pins σ H s → t σ H Q → wpAny (model X.prog X.w) X.A (isTrue e X.env whole) (TP X pins σ Q) X.xe s
theorem PW.pt {X : Cx} {e : Expr} {t : TT} (h : PW X e t) : PT X e t := h _
def PA (X : Cx) (es : List Expr) (t : TA) : Prop :=
  ∀ (pos : Pos) (pins : List (Addr × Obj)) (s : Shared) (σ : St) (H : Hp) (Q : List V → Hp → Prop), Inv X pins σ H s → t σ H Q → wpAny (model X.prog X.w) X.A (spliced (backTo pos (starEach es X.env))) (AP X pins σ Q) X.xe s
def PS (X : Cx) (st : Stmt) (t : TS) : Prop :=
  ∀ (pins : List (Addr × Obj)) (s : Shared) (σ : St) (H : Hp) (D : Ends), Inv X pins σ H s → t D σ H → wpAny (model X.prog X.w) X.A (exec st X.env) (SP X pins D) X.xe s
def PSs (X : Cx) (st : List Stmt) (t : TS) : Prop :=
  ∀ (pins : List (Addr × Obj)) (s : Shared) (σ : St) (H : Hp) (D : Ends), Inv X pins σ H s → t D σ H → wpAny (model X.prog X.w) X.A (execs st X.env) (SP X pins D) X.xe s
theorem thn {α : Type} {t : Sem α} {Q Q' : α → Shared → Prop} {M : Model} {A : Around} {E : Value → Shared → Prop} {s : Shared} (h : wpAny M A t Q E s) (hQ : ∀ a s, Q a s → Q' a s) : wpAny M A t Q' E s := wpAny_mono h hQ fun _ _ x => x
end L2
namespace L2
open PySem PySem.Spec PyProof.Rows
section
variable {X : Cx}
def tVar (i : Nat) : TE := fun σ H Q => ∃ v, σ[i]? = some (some v) ∧ Q v H
def tC (v : V) : TE := fun _ H Q => Q v H
theorem pe_var {i : Nat} {x : Str} {pos : Pos} (hN : X.N[i]? = some x) (hv : Vis X.env.scope x) (hd : (x == ("__debug__" : Str)) = false := by decide) (hcd : (x == ("__classdict__" : Str)) = false := by decide) : PE X (.Name x pos) (tVar i) := by
  intro pins s σ H Q I h
  obtain ⟨v, e, h⟩ := h
  obtain ⟨m, hn, hl⟩ := I.loc
  obtain ⟨u, r, l⟩ := hl i x v hN e hv
  have fin : EP X pins σ Q u s := ⟨v, H, I, r, h⟩
  rcases l with ⟨hk, hm⟩ | ⟨hk, c, hc, hcell⟩
  · exact wpAny_Name (wpAny_loadName_local I.ok.kind hk hn hm fin) hd
  · rcases hk with hk | hk
    · exact wpAny_Name (wpAny_loadName_cell I.ok.kind hk hc hcell fin) hd
    · exact wpAny_Name (wpAny_loadName_free I.ok.kind hk hc hcell fin hcd) hd
theorem pe_int {i j pos} : PE X (.Constant (.int i) j pos) (tC (.int i)) := fun _ _ _ H _ I h => wpAny_Constant_int ⟨.int i, H, I.tok _, ⟨_, rfl⟩, h⟩
theorem pe_bl {b j pos} : PE X (.Constant (.bool b) j pos) (tC (.bl b)) := fun _ _ _ H _ I h => Constant_bool ⟨.bl b, H, I, rfl, h⟩
theorem pe_non {j pos} : PE X (.Constant .none j pos) (tC .non) := fun _ _ _ H _ I h => Constant_none ⟨.non, H, I, rfl, h⟩
theorem pe_str {x j pos} : PE X (.Constant (.str x) j pos) (tC (.str x)) := fun _ _ _ H _ I h => Calls.Constant_str ⟨.str x, H, I.tok _, ⟨_, rfl⟩, h⟩
def Gl (X : Cx) (x : Str) : Prop := X.env.kindOf x = some .globalImplicit
theorem ld_glob {E : Value → Shared → Prop} {pins : List (Addr × Obj)} {s : Shared} {σ : St} {H : Hp} {x : Str} {u : Value} {pos : Pos} {Q : Value → Shared → Prop} (I : Inv X pins σ H s) (hg : Gl X x) (hm : X.mg x = some u) (h : Q u s)
    (hd : (x == ("__debug__" : Str)) = false := by decide) : wpAny (model X.prog X.w) X.A (eval (.Name x pos) X.env) Q E s :=
  Calls.Name_function_global I.ok.kind hg (Calls.loadGlobal_global (by rw [I.ok.glob]; exact I.mod.glob.keeps I.bk) hm h) hd
theorem ld_blt {E : Value → Shared → Prop} {pins : List (Addr × Obj)} {s : Shared} {σ : St} {H : Hp} {x : Str} {u : Value} {pos : Pos} {Q : Value → Shared → Prop} (I : Inv X pins σ H s) (hg : Gl X x) (hm : X.mg x = none) (hv : bootBuiltins x = some u) (h : Q u s)
    (hn : x ≠ "__name__" := by decide) (hd : (x == ("__debug__" : Str)) = false := by decide) : wpAny (model X.prog X.w) X.A (eval (.Name x pos) X.env) Q E s := by
  obtain ⟨mb, h1, h2⟩ := I.mod.blt
  exact Calls.Name_function_global I.ok.kind hg (Calls.loadGlobal_builtin (by rw [I.ok.glob]; exact I.mod.glob.keeps I.bk) hm (by rw [I.ok.blt]; exact h1.keeps I.bk) ((h2 x hn).trans hv) h) hd
theorem pe_glob {x : Str} {v : V} {u : Value} {pos : Pos} (hg : Gl X x) (hm : X.mg x = some u) (r : RelV v u) (hd : (x == ("__debug__" : Str)) = false := by decide) : PE X (.Name x pos) (tC v) :=
  fun _ _ _ H _ I h => ld_glob I hg hm ⟨v, H, I, r, h⟩ hd
variable {a b : Expr} {ta tb : TE} {pos : Pos}
def tB (t : TE) : TT := fun σ H Q => t σ H fun x H1 => ∃ c, x = .bl c ∧ Q c H1
theorem pt_val {e : Expr} {t : TE} (h : PE X e t) (he : ∀ whole, isTrue e X.env whole = (do let v ← whole; standAt e.pos; holding [v] (truthy v)) := by intro _; rfl) : PT X e (tB t) := by
  intro pins s σ H Q I hw
  refine isTrue_plain (thn (h pins s σ H _ I hw) fun v s1 ⟨x, H1, I1, r1, q1⟩ => ?_) (he _)
  obtain ⟨d, rfl, q⟩ := q1
  cases r1
  exact wpAny_truthy_bool ⟨H1, I1, q⟩
variable {tA tB' : TT} {rest : List Expr}
def tAnd (t u : TT) : TT := fun σ H Q => t σ H fun c H1 => if c = true then u σ H1 Q else Q false H1
def tOr (t u : TT) : TT := fun σ H Q => t σ H fun c H1 => if c = true then Q true H1 else u σ H1 Q
def tNot (t : TT) : TT := fun σ H Q => t σ H fun c H1 => Q (!c) H1
theorem pw_and1 (ha : PT X a tA) : PW X (.BoolOp .And [a] pos) tA := by
  intro wh pins s σ H Q I h
  refine isTrue_and (thn (ha pins s σ H Q I h) fun c s1 e => ?_)
  cases c with
  | true => exact isTrue_and_nil e
  | false => exact e
theorem pw_or1 (ha : PT X a tA) : PW X (.BoolOp .Or [a] pos) tA := by
  intro wh pins s σ H Q I h
  refine isTrue_or (thn (ha pins s σ H Q I h) fun c s1 e => ?_)
  cases c with
  | false => exact isTrue_or_nil e
  | true => exact e
theorem pw_and (ha : PT X a tA) (hb : PW X (.BoolOp .And (b :: rest) pos) tB') : PW X (.BoolOp .And (a :: b :: rest) pos) (tAnd tA tB') := by
  intro wh pins s σ H Q I h
  refine isTrue_and (thn (ha pins s σ H _ I h) fun c s1 ⟨H1, I1, q1⟩ => ?_)
  cases c with
  | true => exact hb wh pins s1 σ H1 Q I1 q1
  | false => exact ⟨H1, I1, q1⟩
theorem pw_or (ha : PT X a tA) (hb : PW X (.BoolOp .Or (b :: rest) pos) tB') : PW X (.BoolOp .Or (a :: b :: rest) pos) (tOr tA tB') := by
  intro wh pins s σ H Q I h
  refine isTrue_or (thn (ha pins s σ H _ I h) fun c s1 ⟨H1, I1, q1⟩ => ?_)
  cases c with
  | true => exact ⟨H1, I1, q1⟩
  | false => exact hb wh pins s1 σ H1 Q I1 q1
theorem pt_not (ha : PT X a tA) : PT X (.UnaryOp .Not a pos) (tNot tA) := by
  intro pins s σ H Q I h
  exact isTrue_not (ha pins s σ H (fun c H1 => Q (!c) H1) I h)
def tAndV (ta tb : TE) : TE := fun σ H Q => ta σ H fun x H1 => ∃ c, x = .bl c ∧ if c = true then tb σ H1 Q else Q (.bl false) H1
def tOrV (ta tb : TE) : TE := fun σ H Q => ta σ H fun x H1 => ∃ c, x = .bl c ∧ if c = true then Q (.bl true) H1 else tb σ H1 Q
theorem pe_one {op} {t : TE} (h : PE X a t) : PE X (.BoolOp op [a] pos) t := fun pins s σ H Q I hw => BoolOp_one (h pins s σ H Q I hw)
theorem pe_and (ha : PE X a ta) (hb : PE X (.BoolOp .And (b :: rest) pos) tb) : PE X (.BoolOp .And (a :: b :: rest) pos) (tAndV ta tb) := by
  intro pins s σ H Q I h
  refine BoolOp_and (thn (ha pins s σ H _ I h) fun v s1 ⟨x, H1, I1, r1, q1⟩ => ?_)
  obtain ⟨c, rfl, q1⟩ := q1
  cases r1
  refine wpAny_truthy_bool ?_
  cases c with
  | true => exact hb pins s1 σ H1 Q I1 q1
  | false => exact ⟨.bl false, H1, I1, rfl, q1⟩
theorem pe_or (ha : PE X a ta) (hb : PE X (.BoolOp .Or (b :: rest) pos) tb) : PE X (.BoolOp .Or (a :: b :: rest) pos) (tOrV ta tb) := by
  intro pins s σ H Q I h
  refine BoolOp_or (thn (ha pins s σ H _ I h) fun v s1 ⟨x, H1, I1, r1, q1⟩ => ?_)
  obtain ⟨c, rfl, q1⟩ := q1
  cases r1
  refine wpAny_truthy_bool ?_
  cases c with
  | false => exact hb pins s1 σ H1 Q I1 q1
  | true => exact ⟨.bl true, H1, I1, rfl, q1⟩
def tIf (t : TT) (ta tb : TE) : TE := fun σ H Q => t σ H fun c H1 => if c = true then ta σ H1 Q else tb σ H1 Q
theorem pe_ifExp {c : Expr} (hc : PT X c tA) (ha : PE X a ta) (hb : PE X b tb) : PE X (.IfExp c a b pos) (tIf tA ta tb) := by
  intro pins s σ H Q I h
  refine wpAny_IfExp (thn (hc pins s σ H _ I h) fun d s1 ⟨H1, I1, q1⟩ => ?_)
  cases d with
  | true => exact ha pins s1 σ H1 Q I1 q1
  | false => exact hb pins s1 σ H1 Q I1 q1
end
end L2
namespace L2
open PySem PySem.Spec PyProof.Rows
def SqL (K : PySem.W.Frag) (H : Hp) (a : Addr) (xs : List V) : Prop :=
  Rd H a (.lst xs) ∨
    ∃ (o : Obj) (its : Array Value) (n : Nat), K.lookup a = some o ∧ o.cls = .type "list" ∧ o.dict = none ∧ o.data = .seq its n ∧ its.size ≤ sizeLine ∧ Vals xs its.toList
def SqT (K : PySem.W.Frag) (H : Hp) (a : Addr) (xs : List V) : Prop :=
  Rd H a (.tup xs) ∨
    ∃ (o : Obj) (its : Array Value) (n : Nat), K.lookup a = some o ∧ o.cls = .type "tuple" ∧ o.data = .seq its n ∧ its.size ≤ sizeLine ∧ Vals xs its.toList
def absV : Value → Option V
  | .none => some .non
  | .bool b => some (.bl b)
  | .int i _ => some (.int i)
  | .str x _ => some (.str x)
  | .bytes b _ => some (.byt b)
  | .float b _ => some (.flt b)
  | .ref a => some (.ref a)
  | .type n => some (.ty n)
  | _ => none
theorem RelV.abs {x : V} {u : Value} (r : RelV x u) : absV u = some x := by
  cases x with
  | non => cases r; rfl
  | bl _ => cases r; rfl
  | int _ => obtain ⟨t, rfl⟩ := r; rfl
  | str _ => obtain ⟨t, rfl⟩ := r; rfl
  | byt _ => obtain ⟨t, rfl⟩ := r; rfl
  | flt _ => obtain ⟨t, rfl⟩ := r; rfl
  | ref _ => cases r; rfl
  | ty _ => cases r; rfl
theorem RelV.inj {x y : V} {u : Value} (r : RelV x u) (q : RelV y u) : x = y := Option.some.inj (r.abs.symm.trans q.abs)
theorem Vals.inj : ∀ {xs ys : List V} {us : List Value}, Vals xs us → Vals ys us → xs = ys
  | _, _, _, .nil, .nil => rfl
  | _, _, _, .cons r t, .cons r' t' => by rw [r.inj r', Vals.inj t t']
section
variable {X : Cx} {pins : List (Addr × Obj)} {σ : St} {H : Hp} {s : Shared} {a : Addr} {xs ys : List V}
theorem SqL.of {K : PySem.W.Frag} (h : H a = some (.lst xs)) : SqL K H a xs := .inl (.inl h)
theorem SqT.of {K : PySem.W.Frag} (h : H a = some (.tup xs)) : SqT K H a xs := .inl (.inl h)
theorem Inv.list (I : Inv X pins σ H s) (h : SqL X.K H a xs) : ∃ its : List Value, Vals xs its ∧ PlainL s.heap a its.toArray ∧ xs.length ≤ sizeLine := by
  rcases h with h | ⟨o, its, n, hk, hc, hd, hs, hz, r⟩
  · obtain ⟨z, its, n, r, e⟩ := h.ok I.hok
    exact ⟨its, r, ⟨_, n, e, rfl, rfl, rfl⟩, z⟩
  · refine ⟨its.toList, r, ⟨o, n, I.kIn a o hk, hc, hd, by simpa using hs⟩, ?_⟩
    have e := r.length
    simp only [Array.length_toList] at e
    omega
theorem Inv.tuple (I : Inv X pins σ H s) (h : SqT X.K H a xs) : ∃ its : List Value, Vals xs its ∧ IsTup s.heap a its.toArray ∧ xs.length ≤ sizeLine := by
  rcases h with h | ⟨o, its, n, hk, hc, hs, hz, r⟩
  · obtain ⟨z, its, r, p⟩ := h.ok I.hok
    exact ⟨its, r, p, z⟩
  · refine ⟨its.toList, r, ⟨o, I.kIn a o hk, hc, n, by simpa using hs⟩, ?_⟩
    have e := r.length
    simp only [Array.length_toList] at e
    omega
theorem Inv.list_inj (I : Inv X pins σ H s) (h : SqL X.K H a xs) (h' : SqL X.K H a ys) : xs = ys := by
  obtain ⟨its, r, ⟨o, n, e, _, _, d⟩, _⟩ := I.list h
  obtain ⟨its', r', ⟨o', n', e', _, _, d'⟩, _⟩ := I.list h'
  rw [e] at e'; cases e'
  rw [d] at d'
  injection d' with d1 _
  have : its = its' := by simpa using congrArg Array.toList d1
  subst this
  exact r.inj r'
theorem Inv.tuple_inj (I : Inv X pins σ H s) (h : SqT X.K H a xs) (h' : SqT X.K H a ys) : xs = ys := by
  obtain ⟨its, r, ⟨o, e, _, n, d⟩, _⟩ := I.tuple h
  obtain ⟨its', r', ⟨o', e', _, n', d'⟩, _⟩ := I.tuple h'
  rw [e] at e'; cases e'
  rw [d] at d'
  injection d' with d1 _
  have : its = its' := by simpa using congrArg Array.toList d1
  subst this
  exact r.inj r'
end
abbrev Cx.wish (X : Cx) (E : Value → Shared → Prop) : Cx := { X with xe := E }
abbrev Cx.nox (X : Cx) : Cx := X.wish fun _ _ => False
theorem Cx.Ok.wish {X : Cx} (ok : X.Ok) (E : Value → Shared → Prop) : (X.wish E).Ok :=
  ⟨ok.mod, ok.kind, ok.glob, ok.blt, ok.above, ok.inj, ok.has, ok.cab, ok.hd, ok.frames, ok.stk, ok.exf, ok.bs, ok.bsz, ok.noex, ok.exfs, ok.funs, ok.frf⟩
theorem Cx.Ok.unwish {X : Cx} {E : Value → Shared → Prop} (ok : (X.wish E).Ok) : X.Ok :=
  ⟨ok.mod, ok.kind, ok.glob, ok.blt, ok.above, ok.inj, ok.has, ok.cab, ok.hd, ok.frames, ok.stk, ok.exf, ok.bs, ok.bsz, ok.noex, ok.exfs, ok.funs, ok.frf⟩
section
variable {X : Cx} {pins : List (Addr × Obj)} {σ : St} {H : Hp} {s : Shared} {E : Value → Shared → Prop}
theorem Inv.wish (I : Inv X pins σ H s) (E : Value → Shared → Prop) : Inv (X.wish E) pins σ H s := ⟨I.ok.wish E, I.os, I.bare, I.base, I.loc, I.cell, I.free, I.freeC, I.pin, I.hok, I.len⟩
theorem Inv.unwish (I : Inv (X.wish E) pins σ H s) : Inv X pins σ H s := ⟨I.ok.unwish, I.os, I.bare, I.base, I.loc, I.cell, I.free, I.freeC, I.pin, I.hok, I.len⟩
theorem SP.unwish {D : Ends} {f : Flow} {s' : Shared} (h : SP (X.wish E) pins D f s') : SP X pins D f s' := by
  cases f with
  | next => obtain ⟨σ', H', I, q⟩ := h; exact ⟨σ', H', I.unwish, q⟩
  | brk => obtain ⟨σ', H', I, q⟩ := h; exact ⟨σ', H', I.unwish, q⟩
  | cont => obtain ⟨σ', H', I, q⟩ := h; exact ⟨σ', H', I.unwish, q⟩
  | ret u => obtain ⟨v, σ', H', I, r, q⟩ := h; exact ⟨v, σ', H', I.unwish, r, q⟩
theorem PSs.nox {st : List Stmt} {t : TS} (h : PSs X.nox st t) : PSs X st t := fun pins s σ H D I hw =>
  wpAny_mono (h pins s σ H D (I.wish _) hw) (fun _ _ q => q.unwish) fun _ _ z => False.elim z
end
section
variable {X : Cx} {st : Stmt} {rest : List Stmt} {t u : TS} {e : Expr} {te : TE} {pos : Pos}
def tNext : TS := fun D σ H => D.nx σ H
def tSeq (t u : TS) : TS := fun D σ H => t { D with nx := u D } σ H
theorem pss_nil : PSs X [] tNext := fun _ _ σ H _ I h => wpAny_execs_nil ⟨σ, H, I, h⟩
theorem pss_cons (h1 : PS X st t) (h2 : PSs X rest u) : PSs X (st :: rest) (tSeq t u) := by
  intro pins s σ H D I h
  refine wpAny_execs_cons (thn (h1 pins s σ H { D with nx := u D } I h) fun f s1 q => ?_)
  cases f with
  | next =>
    obtain ⟨σ', H', I', q⟩ := q
    exact h2 pins s1 σ' H' D I' q
  | ret v => exact q
  | brk => exact q
  | cont => exact q
theorem pss_one (h1 : PS X st t) : PSs X [st] t := by
  intro pins s σ H D I h
  refine wpAny_execs_cons (thn (h1 pins s σ H D I h) fun f s1 q => ?_)
  cases f with
  | next => exact wpAny_execs_nil q
  | ret v => exact q
  | brk => exact q
  | cont => exact q
def tBreak : TS := fun D σ H => D.bk σ H
theorem ps_break : PS X (.Break pos) tBreak := fun _ _ σ H _ I h => wpAny_Break ⟨σ, H, I, h⟩
theorem Inv.quiet {pins : List (Addr × Obj)} {σ : St} {H : Hp} {s : Shared} (I : Inv X pins σ H s) : interactive X.env = false := by simp [interactive, I.ok.kind]
def tDrop (te : TE) : TS := fun D σ H => te σ H fun _ H1 => D.nx σ H1
theorem ps_expr (he : PE X e te) (hs : swapsWith e none pos.line X.env = pure false := by rfl) : PS X (.Expr e pos) (tDrop te) := by
  intro pins s σ H D I h
  exact wpAny_Expr_any (thn (he pins s σ H _ I h) fun v s1 ⟨x, H1, I1, r1, q1⟩ => ⟨σ, H1, I1, q1⟩) I.quiet hs
def tRet (te : TE) : TS := fun D σ H => te σ H D.rt
theorem ps_ret (he : PE X e te) : PS X (.Return (some e) pos) (tRet te) := by
  intro pins s σ H D I h
  exact wpAny_Return_some (thn (he pins s σ H _ I h) fun v s1 ⟨x, H1, I1, r1, q1⟩ => ⟨x, σ, H1, I1, r1, q1⟩)
def tIfS (c : TT) (t u : TS) : TS := fun D σ H => c σ H fun b H1 => if b = true then t D σ H1 else u D σ H1
theorem ps_if {c : Expr} {a b : List Stmt} {tc : TT} (hc : PT X c tc) (ha : PSs X a t) (hb : PSs X b u) : PS X (.If c a b pos) (tIfS tc t u) := by
  intro pins s σ H D I h
  refine wpAny_If (thn (hc pins s σ H _ I h) fun d s1 ⟨H1, I1, q1⟩ => ?_)
  cases d with
  | true => exact ha pins s1 σ H1 D I1 q1
  | false => exact hb pins s1 σ H1 D I1 q1
end
abbrev TG := V → St → Hp → (St → Hp → Prop) → Prop
abbrev TGs := List V → St → Hp → (St → Hp → Prop) → Prop
def PG (X : Cx) (target : Expr) (t : TG) : Prop :=
  ∀ (pins : List (Addr × Obj)) (s : Shared) (σ : St) (H : Hp) (v : V) (u : Value) (Q : St → Hp → Prop), Inv X pins σ H s → RelV v u → t v σ H Q →
    wpAny (model X.prog X.w) X.A (assign target X.env u) (fun _ s' => ∃ σ' H', Inv X pins σ' H' s' ∧ Q σ' H') X.xe s
def PGs (X : Cx) (ts : List Expr) (t : TGs) : Prop :=
  ∀ (pins : List (Addr × Obj)) (s : Shared) (σ : St) (H : Hp) (vs : List V) (us : List Value) (Q : St → Hp → Prop), Inv X pins σ H s → Vals vs us → t vs σ H Q →
    wpAny (model X.prog X.w) X.A (assignInOrder ((assignEach ts X.env).map (·.2)) us) (fun _ s' => ∃ σ' H', Inv X pins σ' H' s' ∧ Q σ' H') X.xe s
abbrev TSet := V → V → V → Hp → (Hp → Prop) → Prop
def PSet (X : Cx) (t : TSet) : Prop :=
  ∀ (pins : List (Addr × Obj)) (s : Shared) (σ : St) (H : Hp) (o i v : V) (ov iv u : Value) (Q : Hp → Prop), Inv X pins σ H s → RelV o ov → RelV i iv → RelV v u → t o i v H Q →
    wpAny (model X.prog X.w) X.A (setItem ov iv u) (fun _ s' => ∃ H', Inv X pins σ H' s' ∧ Q H') X.xe s
abbrev TIp := V → V → Hp → VK → Prop
section
variable {X : Cx} {pos : Pos}
def gName (i : Nat) : TG := fun v σ H Q => Q (σ.set i (some v)) H
theorem pg_name {i : Nat} {x : Str} (hN : X.N.Nodup) (hi : X.N[i]? = some x) (hx : Loc X.env.scope x) (hf : X.fn x = true ∨ X.env.scope.names.lookup x = some .local := by first | exact .inl rfl | exact .inr rfl | assumption) : PG X (.Name x pos) (gName i) := by
  intro pins s σ H v u Q I r h
  exact wpAny_assign_Name (store_ok I hN hi hx r (fun s' I' => ⟨_, H, I', h⟩) hf)
def gNil : TGs := fun vs σ H Q => vs = [] ∧ Q σ H
def gCons (t : TG) (u : TGs) : TGs := fun vs σ H Q => ∃ v r, vs = v :: r ∧ t v σ H fun σ' H' => u r σ' H' Q
theorem pgs_nil : PGs X [] gNil := by
  intro pins s σ H vs us Q I r h
  obtain ⟨e, h⟩ := h
  subst e
  cases r
  exact assignInOrder_nil ⟨σ, H, I, h⟩
theorem pgs_cons {e : Expr} {es : List Expr} {t : TG} {u : TGs} (h1 : PG X e t) (h2 : PGs X es u)
    (hs : (assignEach (e :: es) X.env).map (·.2) = assign e X.env :: (assignEach es X.env).map (·.2) := by rfl) : PGs X (e :: es) (gCons t u) := by
  intro pins s σ H vs us Q I r h
  obtain ⟨v, vr, e1, h⟩ := h
  subst e1
  cases r with
  | cons r rr =>
    rw [hs]
    refine assignInOrder_cons (thn (h1 pins s σ H _ _ _ I r h) fun _ s1 ⟨σ1, H1, I1, q1⟩ => ?_)
    exact h2 pins s1 σ1 H1 _ _ Q I1 rr q1
def gTup (K : PySem.W.Frag) (n : Nat) (t : TGs) : TG := fun v σ H Q => ∃ a xs, v = .ref a ∧ SqT K H a xs ∧ xs.length = n ∧ t xs σ H Q
theorem pg_tup {es : List Expr} {k : Nat} {t : TGs} {n : Nat} (hc : X.calm = true) (h : PGs X es t)
    (hn : (assignEach es X.env).length = n := by rfl) (hst : (assignEach es X.env).findIdx? (·.1) = none := by rfl) : PG X (.Tuple es k pos) (gTup X.K n t) := by
  intro pins s σ H v u Q I r hw
  obtain ⟨a, xs, e1, hq, hl, hw⟩ := hw
  subst e1
  cases r
  obtain ⟨its, rv, ht, hz⟩ := I.tuple hq
  refine assign_Tuple_tuple (I.ok.hd hc) ht (by simp [hn, ← hl, rv.length]) hst fun h' hx => ?_
  have I1 : Inv X pins σ H { s with heap := h' } := I.kept (t' := s.toks) fun b o e => hx b o (Nat.ne_of_lt (Heap.lt_size e)) e
  exact h pins _ σ H xs _ Q I1 (by simpa using rv) hw
def gSub (to ti : TE) (t : TSet) : TG := fun v σ H Q => to σ H fun o H1 => ti σ H1 fun i H2 => t o i v H2 fun H3 => Q σ H3
theorem pg_sub {o i : Expr} {to ti : TE} {t : TSet} (ho : PE X o to) (hi : PE X i ti) (hs : PSet X t)
    (ha : ∀ v, assign (.Subscript o i pos) X.env v = (do
      let ov ← holding [v] (eval o X.env)
      let iv ← holding [v, ov] (eval i X.env)
      standAt pos
      holding [v, ov, iv] (setItem ov iv v)
      release [v, ov, iv] []) := by intro _; rfl) : PG X (.Subscript o i pos) (gSub to ti t) := by
  intro pins s σ H v u Q I r h
  rw [ha]
  refine wpAny_bind (wpAny_holding (thn (ho pins s σ H _ I h) fun ov s1 ⟨x, H1, I1, r1, q1⟩ => ?_))
  refine wpAny_bind (wpAny_holding (thn (hi pins s1 σ H1 _ I1 q1) fun iv s2 ⟨y, H2, I2, r2, q2⟩ => ?_))
  refine wpAny_bind (wpAny_standAt (wpAny_bind (wpAny_holding (thn (hs pins s2 σ H2 x y v ov iv u _ I2 r1 r2 r q2) fun _ s3 ⟨H3, I3, q3⟩ => ?_))))
  exact wpAny_release ⟨σ, H3, I3, q3⟩
def tAsg (te : TE) (g : TG) : TS := fun D σ H => te σ H fun x H1 => g x σ H1 D.nx
theorem ps_asg {tg e : Expr} {te : TE} {g : TG} (he : PE X e te) (hg : PG X tg g) (hs : swapsWithSole [tg] e pos.line X.env = pure false := by rfl) (hw : swappedStores [tg] e X.env = pure none := by rfl)
    (h1 : (assignEach [tg] X.env).map (·.2) = [assign tg X.env] := by rfl) : PS X (.Assign [tg] e pos) (tAsg te g) := by
  intro pins s σ H D I h
  refine wpAny_Assign_stores (thn (he pins s σ H _ I h) fun v s1 ⟨x, H1, I1, r1, q1⟩ => ?_) hs hw
  rw [h1]
  exact thn (hg pins s1 σ H1 x v _ I1 r1 q1) fun _ s2 q => q
theorem ps_set {i : Nat} {x : Str} {e : Expr} {te : TE} {pos' : Pos} (hN : X.N.Nodup) (hi : X.N[i]? = some x) (hx : Loc X.env.scope x) (he : PE X e te) (hs : swapsWith e (some (.Name x pos')) pos.line X.env = pure false := by rfl) (hf : X.fn x = true ∨ X.env.scope.names.lookup x = some .local := by first | exact .inl rfl | exact .inr rfl | assumption) :
    PS X (.Assign [.Name x pos'] e pos) (tAsg te (gName i)) := by
  intro pins s σ H D I h
  refine wpAny_Assign_Name (thn (he pins s σ H _ I h) fun v s1 ⟨y, H1, I1, r1, q1⟩ => ?_) hs
  exact store_ok I1 hN hi hx r1 (fun s2 I2 => ⟨_, H1, I2, q1⟩) hf
def ipI (f : Int → Int → Int) : TIp := fun x y H Q => ∃ i j, x = .int i ∧ y = .int j ∧ Q (.int (f i j)) H
end
section
variable {X : Cx} {pos : Pos}
def tWhile (c : TT) (tb : TS) : TS := fun D σ H => ∃ W : Nat → St → Hp → Prop, (∃ m, W m σ H) ∧ ∀ m σ H, W m σ H →
  c σ H fun b H1 => if b = true then ∃ N : St → Hp → Prop, (∀ σ' H', N σ' H' → ∃ m', m' < m ∧ W m' σ' H') ∧ tb { D with nx := N, ct := N, bk := D.nx } σ H1 else D.nx σ H1
theorem ps_while {c : Expr} {body : List Stmt} {tc : TT} {tb : TS} (hp : PassesOwn (model X.prog X.w) X.A X.env X.xe) (hc : PT X c tc) (hb : PSs X body tb) : PS X (.While c body [] pos) (tWhile tc tb) := by
  intro pins s σ H D I h
  obtain ⟨W, ⟨m0, w0⟩, turn⟩ := h
  refine wpAny_While (codeAny_whileLoop (fun n s' => ∃ σ' H', Inv X pins σ' H' s' ∧ W n σ' H') ?_ m0 ⟨σ, H, I, w0⟩)
  rintro n s1 ⟨σ1, H1, I1, w1⟩
  refine wpAny_passesOwn hp (thn (hc pins s1 σ1 H1 _ I1 (turn n σ1 H1 w1)) fun b s2 ⟨H2, I2, q2⟩ => ?_)
  cases b with
  | true =>
    obtain ⟨N, hN, q2⟩ := q2
    rw [if_pos rfl]
    refine wpAny_passesOwn hp (thn (hb pins s2 σ1 H2 _ I2 q2) fun f s3 q3 => ?_)
    cases f with
    | next =>
      obtain ⟨σ3, H3, I3, n3⟩ := q3
      obtain ⟨m', hm, w3⟩ := hN σ3 H3 n3
      exact ⟨m', hm, σ3, H3, I3, w3⟩
    | cont =>
      obtain ⟨σ3, H3, I3, n3⟩ := q3
      obtain ⟨m', hm, w3⟩ := hN σ3 H3 n3
      exact ⟨m', hm, σ3, H3, I3, w3⟩
    | brk => exact q3
    | ret v => exact q3
  | false =>
    rw [if_neg Bool.false_ne_true]
    exact wpAny_execs_nil ⟨σ1, H2, I2, q2⟩
end
structure It where
  go : Nat → Hp → Prop
  yld : Nat → Hp → V → Hp → Prop
  stop : Nat → Hp → Prop
def FpOk (X : Cx) (pins : List (Addr × Obj)) (H : Hp) (b : Addr) : Prop :=
  H b = none ∧ b ≠ X.env.locals ∧ b ∉ X.fs ∧ (b ∈ X.ex ∨ X.s₀.heap.objs.size ≤ b) ∧ (∀ x c, X.env.cells.lookup x = some c → c ≠ b) ∧ ∀ p ∈ X.pn ++ pins, p.1 ≠ b
theorem Inv.fpOk {X : Cx} {pins : List (Addr × Obj)} {σ : St} {H H' : Hp} {s : Shared} {b : Addr} (I : Inv X pins σ H s) (hb : s.heap.objs.size ≤ b) (hn : H' b = none) : FpOk X pins H' b := by
  refine ⟨hn, Nat.ne_of_gt (Nat.lt_of_lt_of_le I.lt hb), I.nofs hb, .inr (Nat.le_trans I.sz hb), fun x c e z => ?_, fun p hp z => ?_⟩
  · obtain ⟨v, q⟩ := I.cell x c e
    exact absurd (Nat.lt_of_lt_of_le q.lt (by rw [z]; exact hb)) (Nat.lt_irrefl _)
  · exact absurd (Nat.lt_of_lt_of_le (Heap.lt_size (I.pin p hp).1) (by rw [z]; exact hb)) (Nat.lt_irrefl _)
structure Turn (P : Program) (w : World) (K : PySem.W.Frag) (tg : Expr) (J : It) (fp : List Addr) (it : Addr) (tn : Nat → Heap → Prop) : Prop where
  mem : it ∈ fp
  obj : ∀ i h, tn i h → ∀ b ∈ fp, ∃ o, h.get? b = some o ∧ ∀ v, o.data ≠ .cell v
  keep : ∀ i h h', tn i h → (∀ b ∈ fp, ∀ o, h.get? b = some o → h'.get? b = some o) → tn i h'
  item : ∀ (X : Cx), X.prog = P → X.w = w → X.K = K → X.calm = true → ∀ (i : Nat) (pins : List (Addr × Obj)) (s : Shared) (σ : St) (H : Hp) (E : Value → Shared → Prop), Inv X pins σ H s → (∀ b ∈ fp, FpOk X pins H b) → tn i s.heap → J.go i H →
    wpAny (model P w) X.A (pyNext (.ref it)) (fun r s1 => ∃ u, r = some u ∧
      wpAny (model P w) X.A (letOwnedTupleGo tg (.ref it) u) (fun _ s2 => ∃ x H', Inv X pins σ H' s2 ∧ RelV x u ∧ J.yld i H x H' ∧ tn (i + 1) s2.heap ∧ ∀ b ∈ fp, H' b = none) E s1) E s
  done : ∀ (X : Cx), X.prog = P → X.w = w → X.K = K → X.calm = true → ∀ (i : Nat) (pins : List (Addr × Obj)) (s : Shared) (σ : St) (H : Hp) (E : Value → Shared → Prop), Inv X pins σ H s → (∀ b ∈ fp, FpOk X pins H b) → tn i s.heap → J.stop i H →
    wpAny (model P w) X.A (pyNext (.ref it)) (fun r s1 => r = none ∧ Inv X pins σ H s1) E s
  self : ∀ (A : Around) (i : Nat) (s : Shared) (Q : Value → Shared → Prop) (E : Value → Shared → Prop), tn i s.heap → Q (.ref it) s → wpAny (model P w) A (pyIter (.ref it)) Q E s
abbrev TI := St → Hp → (It → Hp → Prop) → Prop
def PIE (X : Cx) (pins : List (Addr × Obj)) (σ : St) (tg : Expr) (R : It → Hp → Prop) (itv : Value) (s2 : Shared) : Prop :=
  ∃ (it : Addr) (fp : List Addr) (tn : Nat → Heap → Prop) (J : It) (H' : Hp), itv = .ref it ∧ Inv X pins σ H' s2 ∧ Turn X.prog X.w X.K tg J fp it tn ∧ tn 0 s2.heap ∧ (∀ b ∈ fp, FpOk X pins H' b) ∧ R J H'
def PI (X : Cx) (tg iter : Expr) (wi : TI) : Prop :=
  ∀ (pins : List (Addr × Obj)) (s : Shared) (σ : St) (H : Hp) (R : It → Hp → Prop), Inv X pins σ H s → wi σ H R →
    wpAny (model X.prog X.w) X.A (eval iter X.env) (fun v s1 => wpAny (model X.prog X.w) X.A (pyIter v) (PIE X pins σ tg R) X.xe s1) X.xe s
theorem go_of {M : Model} {A : Around} {E : Value → Shared → Prop} {s : Shared} {tg : Expr} {it : Addr} {u : Value} {o : Obj} {n : String} {vs : Array Value} {Q : Unit → Shared → Prop} (ho : s.heap.get? it = some o) (hc : o.cls = .type n) (hd : o.data = .fields vs)
    (hn : ["enumerate", "zip", "dict_itemiterator", "dict_reverseitemiterator", "odict_iterator", "itertools.zip_longest", "itertools.pairwise"].contains n = false) (hQ : Q () s) : wpAny M A (letOwnedTupleGo tg (.ref it) u) Q E s := by
  unfold letOwnedTupleGo
  cases tg <;> first
    | exact wpAny_pure hQ
    | (cases u <;> first
        | exact wpAny_pure hQ
        | (refine wpAny_bind (wpAny_load ho ?_)
           rw [hc, hd]
           show wpAny M A (if (["enumerate", "zip", "dict_itemiterator", "dict_reverseitemiterator", "odict_iterator", "itertools.zip_longest", "itertools.pairwise"].contains n && vs[0]? == some (rawInt _)) = true then _ else _) Q E s
           rw [if_neg (by intro h; rw [hn, Bool.false_and] at h; cases h)]
           exact wpAny_pure hQ))
def Itl (K : PySem.W.Frag) (a : Addr) : It :=
  ⟨fun i H => ∃ xs x, SqL K H a xs ∧ xs[i]? = some x, fun i H x H' => H' = H ∧ ∀ xs, SqL K H a xs → xs[i]? = some x, fun i H => ∃ xs, SqL K H a xs ∧ xs.length ≤ i⟩
def Itt (K : PySem.W.Frag) (a : Addr) : It :=
  ⟨fun i H => ∃ xs x, SqT K H a xs ∧ xs[i]? = some x, fun i H x H' => H' = H ∧ ∀ xs, SqT K H a xs → xs[i]? = some x, fun i H => ∃ xs, SqT K H a xs ∧ xs.length ≤ i⟩
def Itr (lo : Int) (n : Nat) : It := ⟨fun i _ => i < n, fun i H x H' => H' = H ∧ x = .int (lo + i), fun i _ => n ≤ i⟩
theorem turn_list {P : Program} {w : World} {K : PySem.W.Frag} {tg : Expr} (a it : Addr) : Turn P w K tg (Itl K a) [it] it (fun i h => h.IsListIter it a i) where
  mem := by simp
  obj := fun i h st b hb => by
    have e : b = it := by simpa using hb
    subst e
    obtain ⟨o, e, c, d⟩ := st
    exact ⟨o, e, fun v z => by rw [d] at z; cases z⟩
  keep := fun i h h' st k => st.at fun o e => k it (by simp) o e
  item := by
    intro X hP hw hK hc i pins s σ H E I hf st hg
    subst hP hw hK
    obtain ⟨xs, x, hq, hx⟩ := hg
    obtain ⟨its, rv, p, hz⟩ := I.list hq
    obtain ⟨u, hu, ru⟩ := rv.get hx
    obtain ⟨f0, f1, f2, f3, f4, f5⟩ := hf it (by simp)
    refine wpAny_pyNext_list_item st p.isList (x := u) (by simpa using hu) fun h' st' sb => ?_
    have I1 : Inv X pins σ H { s with heap := h' } := I.turned (t' := s.toks) (fun b o hb e => (sb.2 b hb).trans e) f0 f1 f3 f4 f5
    obtain ⟨o, e, c, d⟩ := id st'
    exact ⟨u, rfl, go_of (s := { s with heap := h' }) e c d (by decide) ⟨x, H, I1, ru, ⟨rfl, fun ys hy => by rw [I.list_inj hy hq]; exact hx⟩, st', fun b hb => (hf b hb).1⟩⟩
  done := by
    intro X hP hw hK hc i pins s σ H E I hf st hg
    subst hP hw hK
    obtain ⟨xs, hq, hx⟩ := hg
    obtain ⟨its, rv, p, hz⟩ := I.list hq
    obtain ⟨f0, f1, f2, f3, f4, f5⟩ := hf it (by simp)
    have hl := rv.length
    exact wpAny_pyNext_list_end (I.ok.hd hc) st p.isList (by simp; omega) fun h' eb => ⟨rfl, I.turned (t' := s.toks) (fun b o hb e => eb b o hb e) f0 f1 f3 f4 f5⟩
  self := fun _ _ _ _ _ st h => wpAny_pyIter_listiter st h
theorem turn_tuple {P : Program} {w : World} {K : PySem.W.Frag} {tg : Expr} (a it : Addr) : Turn P w K tg (Itt K a) [it] it (fun i h => h.IsTupleIter it a i) where
  mem := by simp
  obj := fun i h st b hb => by
    have e : b = it := by simpa using hb
    subst e
    obtain ⟨o, e, c, d⟩ := st
    exact ⟨o, e, fun v z => by rw [d] at z; cases z⟩
  keep := fun i h h' st k => st.at fun o e => k it (by simp) o e
  item := by
    intro X hP hw hK hc i pins s σ H E I hf st hg
    subst hP hw hK
    obtain ⟨xs, x, hq, hx⟩ := hg
    obtain ⟨its, rv, p, hz⟩ := I.tuple hq
    obtain ⟨u, hu, ru⟩ := rv.get hx
    obtain ⟨f0, f1, f2, f3, f4, f5⟩ := hf it (by simp)
    refine wpAny_pyNext_tuple_item st (show s.heap.IsTuple a its.toArray from p) (x := u) (by simpa using hu) fun h' st' sb => ?_
    have I1 : Inv X pins σ H { s with heap := h' } := I.turned (t' := s.toks) (fun b o hb e => (sb.2 b hb).trans e) f0 f1 f3 f4 f5
    obtain ⟨o, e, c, d⟩ := id st'
    exact ⟨u, rfl, go_of (s := { s with heap := h' }) e c d (by decide) ⟨x, H, I1, ru, ⟨rfl, fun ys hy => by rw [I.tuple_inj hy hq]; exact hx⟩, st', fun b hb => (hf b hb).1⟩⟩
  done := by
    intro X hP hw hK hc i pins s σ H E I hf st hg
    subst hP hw hK
    obtain ⟨xs, hq, hx⟩ := hg
    obtain ⟨its, rv, p, hz⟩ := I.tuple hq
    obtain ⟨f0, f1, f2, f3, f4, f5⟩ := hf it (by simp)
    have hl := rv.length
    exact wpAny_pyNext_tuple_end (I.ok.hd hc) st (show s.heap.IsTuple a its.toArray from p) (by simp; omega) fun h' eb => ⟨rfl, I.turned (t' := s.toks) (fun b o hb e => eb b o hb e) f0 f1 f3 f4 f5⟩
  self := fun _ _ _ _ _ st h => wpAny_pyIter_tupleiter st h
theorem turn_range {P : Program} {w : World} {K : PySem.W.Frag} {tg : Expr} (it : Addr) (lo : Int) (n : Nat) : Turn P w K tg (Itr lo n) [it] it (fun i h => IsRangeIter h it (lo + (i : Nat) * 1) ((n : Int) - (i : Nat)) 1) where
  mem := by simp
  obj := fun i h st b hb => by
    have e : b = it := by simpa using hb
    subst e
    exact ⟨_, st, fun v z => by
      have z' : Data.fields _ = Data.cell v := z
      cases z'⟩
  keep := fun i h h' st k => k it (by simp) _ st
  item := by
    intro X hP hw hK hc i pins s σ H E I hf st hg
    subst hP hw hK
    obtain ⟨f0, f1, f2, f3, f4, f5⟩ := hf it (by simp)
    have W := Walks.range (prog := X.prog) (w := X.w) (I.ok.hd hc) it lo 1 n
    refine W.item i s _ _ hg st fun v h' tk hv st' kk => ?_
    obtain ⟨t, rfl⟩ := hv
    have I1 : Inv X pins σ H { s with heap := h', toks := tk } := I.turned (fun b o hb e => kk b o (by simpa using hb) e) f0 f1 f3 f4 f5
    refine ⟨_, rfl, go_of (s := { s with heap := h', toks := tk }) (n := "range_iterator") st' rfl rfl (by decide) ⟨.int (lo + i), H, I1, ⟨t, ?_⟩, ⟨rfl, rfl⟩, st', fun b hb => (hf b hb).1⟩⟩
    rw [Int.mul_one]
  done := by
    intro X hP hw hK hc i pins s σ H E I hf st hg
    subst hP hw hK
    obtain ⟨f0, f1, f2, f3, f4, f5⟩ := hf it (by simp)
    exact wpAny_pyNext_range_end (I.ok.hd hc) st (by have : n ≤ i := hg; omega) fun h' eb => ⟨rfl, I.turned (t' := s.toks) (fun b o hb e => eb b o hb e) f0 f1 f3 f4 f5⟩
  self := fun _ _ _ _ _ st h => wpAny_pyIter_rangeiter st h
end L2
namespace L2
open PySem PySem.Spec PyProof.Rows
section
variable {X : Cx} {tg : Expr}
def iList (K : PySem.W.Frag) (tl : TE) : TI := fun σ H R => tl σ H fun x H1 => ∃ a, x = .ref a ∧ (∃ xs, SqL K H1 a xs) ∧ R (Itl K a) H1
def iTup (K : PySem.W.Frag) (tl : TE) : TI := fun σ H R => tl σ H fun x H1 => ∃ a, x = .ref a ∧ (∃ xs, SqT K H1 a xs) ∧ R (Itt K a) H1
theorem pi_list {l : Expr} {tl : TE} (hl : PE X l tl) : PI X tg l (iList X.K tl) := by
  intro pins s σ H R I h
  refine thn (hl pins s σ H _ I h) fun v s1 ⟨x, H1, I1, r1, q1⟩ => ?_
  obtain ⟨a, e, ⟨xs, hq⟩, q⟩ := q1
  subst e
  cases r1
  obtain ⟨its, rv, p, hz⟩ := I1.list hq
  refine wpAny_pyIter_list p.isList ?_
  refine ⟨s1.heap.objs.size, [s1.heap.objs.size], _, _, H1, rfl, I1.kept (t' := s1.toks) fun b o e => Heap.get?_push_of_some _ e, turn_list a _, ⟨_, Heap.get?_push_size _ rfl, rfl, rfl⟩, fun b hb => ?_, q⟩
  have e : b = s1.heap.objs.size := by simpa using hb
  subst e
  exact I1.fpOk (Nat.le_refl _) (I1.hok.fresh (Nat.le_refl _))
theorem pi_tup {l : Expr} {tl : TE} (hl : PE X l tl) : PI X tg l (iTup X.K tl) := by
  intro pins s σ H R I h
  refine thn (hl pins s σ H _ I h) fun v s1 ⟨x, H1, I1, r1, q1⟩ => ?_
  obtain ⟨a, e, ⟨xs, hq⟩, q⟩ := q1
  subst e
  cases r1
  obtain ⟨its, rv, p, hz⟩ := I1.tuple hq
  refine wpAny_pyIter_tuple (show s1.heap.IsTuple a its.toArray from p) ?_
  refine ⟨s1.heap.objs.size, [s1.heap.objs.size], _, _, H1, rfl, I1.kept (t' := s1.toks) fun b o e => Heap.get?_push_of_some _ e, turn_tuple a _, ⟨_, Heap.get?_push_size _ rfl, rfl, rfl⟩, fun b hb => ?_, q⟩
  have e : b = s1.heap.objs.size := by simpa using hb
  subst e
  exact I1.fpOk (Nat.le_refl _) (I1.hok.fresh (Nat.le_refl _))
theorem range_it {pins : List (Addr × Obj)} {σ : St} {H : Hp} {s : Shared} {R : It → Hp → Prop} {E : Value → Shared → Prop} {lo hi : Int} {t u v : Tok} {tk : Nat} (I : Inv X pins σ H s) (h1 : -(2 ^ 62) ≤ lo) (h2 : lo < 2 ^ 62) (h3 : -(2 ^ 62) ≤ hi) (h4 : hi < 2 ^ 62)
    (q : R (Itr lo (hi - lo).toNat) H) : wpAny (model X.prog X.w) X.A (pyIter (.ref s.heap.objs.size)) (PIE X pins σ tg R) E { s with heap := s.heap.push { cls := .type "range", data := .fields #[.int lo t, .int hi u, .int 1 v] }, toks := tk } := by
  refine wpAny_pyIter_range (IsRange.new ..) (small_one h1 h2 h3 h4) ?_
  have I1 : Inv X pins σ H { s with heap := s.heap.push { cls := .type "range", data := .fields #[.int lo t, .int hi u, .int 1 v] }, toks := tk } := I.kept fun b o e => Heap.get?_push_of_some _ e
  refine ⟨(s.heap.push { cls := .type "range", data := .fields #[.int lo t, .int hi u, .int 1 v] }).objs.size, [(s.heap.push { cls := .type "range", data := .fields #[.int lo t, .int hi u, .int 1 v] }).objs.size], _, _, H, rfl,
    I1.kept (t' := tk) fun b o e => Heap.get?_push_of_some _ e, turn_range _ lo (hi - lo).toNat, ?_, fun b hb => ?_, q⟩
  · have e1 : lo + ((0 : Nat) : Int) * 1 = lo := by simp
    have e2 : (((hi - lo).toNat : Nat) : Int) - ((0 : Nat) : Int) = Builtin.Range.rangeSize lo hi 1 := by rw [rangeSize_one]; split <;> omega
    show IsRangeIter _ _ (lo + ((0 : Nat) : Int) * 1) ((((hi - lo).toNat : Nat) : Int) - ((0 : Nat) : Int)) 1
    rw [e1, e2]
    exact Heap.get?_push_size _ rfl
  · have e : b = (s.heap.push { cls := .type "range", data := .fields #[.int lo t, .int hi u, .int 1 v] }).objs.size := by simpa using hb
    subst e
    exact I1.fpOk (Nat.le_refl _) (I1.hok.fresh (Nat.le_refl _))
def iRng1 (ta : TA) : TI := fun σ H R => ta σ H fun vs H1 => ∃ j : Int, vs = [.int j] ∧ -(2 ^ 62) ≤ j ∧ j < 2 ^ 62 ∧ R (Itr 0 j.toNat) H1
def iRng2 (ta : TA) : TI := fun σ H R => ta σ H fun vs H1 => ∃ i j : Int, vs = [.int i, .int j] ∧ (-(2 ^ 62) ≤ i ∧ i < 2 ^ 62 ∧ -(2 ^ 62) ≤ j ∧ j < 2 ^ 62) ∧ R (Itr i (j - i).toNat) H1
theorem pi_range1 {a : Expr} {ta : TA} {p pos : Pos} (hg : Gl X "range") (hm : X.mg "range" = none) (ha : PA X [a] ta) (hs : starEach [a] X.env = [(false, eval a X.env)] := by rfl) : PI X tg (.Call (.Name "range" p) [a] [] pos) (iRng1 ta) := by
  intro pins s σ H R I h
  refine Call_ (ld_blt I hg hm boot_range (PyProof.Rows.callWith_type1 (thn (ha pos pins s σ H _ I h) fun us s1 ⟨vs, H1, I1, r1, q1⟩ => ?_) hs rfl))
  obtain ⟨j, e, q1, q2, q⟩ := q1
  subst e
  cases r1 with
  | cons r rr =>
    cases rr
    obtain ⟨t, rfl⟩ := r
    exact call_range_1 (range_it I1 (by omega) (by omega) q1 q2 (by simpa using q))
theorem pi_range2 {a b : Expr} {ta : TA} {p pos : Pos} (hg : Gl X "range") (hm : X.mg "range" = none) (ha : PA X [a, b] ta) (hs : starEach [a, b] X.env = [(false, eval a X.env), (false, eval b X.env)] := by rfl) (hs2 : starEach [b] X.env = [(false, eval b X.env)] := by rfl) :
    PI X tg (.Call (.Name "range" p) [a, b] [] pos) (iRng2 ta) := by
  intro pins s σ H R I h
  refine Call_ (ld_blt I hg hm boot_range (PyProof.Rows.callWith_type1 (thn (ha pos pins s σ H _ I h) fun us s1 ⟨vs, H1, I1, r1, q1⟩ => ?_) (by rw [hs, hs2]) (by rw [hs2]; rfl)))
  obtain ⟨i, j, e, ⟨q1, q2, q3, q4⟩, q⟩ := q1
  subst e
  cases r1 with
  | cons r rr =>
    cases rr with
    | cons r' rr =>
      cases rr
      obtain ⟨t, rfl⟩ := r
      obtain ⟨t', rfl⟩ := r'
      exact call_range_2 (range_it I1 q1 q2 q3 q4 q)
def tFor (wi : TI) (g : TG) (tb : TS) : TS := fun D σ H => wi σ H fun J H1 => ∃ W : Nat → Nat → St → Hp → Prop, (∃ m, W 0 m σ H1) ∧ ∀ i m σ H, W i m σ H →
  (J.stop i H ∧ D.nx σ H) ∨ (J.go i H ∧ ∃ N : St → Hp → Prop, (∀ σ' H', N σ' H' → ∃ m', m' < m ∧ W (i + 1) m' σ' H') ∧ ∀ x H', J.yld i H x H' → g x σ H' fun σ2 H2 => tb { D with nx := N, ct := N, bk := D.nx } σ2 H2)
def pinsAt (fp : List Addr) (h : Heap) : List (Addr × Obj) := fp.filterMap fun b => (h.get? b).map fun o => (b, o)
theorem mem_pinsAt {fp : List Addr} {h : Heap} {b : Addr} {o : Obj} (hb : b ∈ fp) (e : h.get? b = some o) : (b, o) ∈ pinsAt fp h := List.mem_filterMap.mpr ⟨b, hb, by rw [e]; rfl⟩
theorem of_pinsAt {fp : List Addr} {h : Heap} {p : Addr × Obj} (hp : p ∈ pinsAt fp h) : p.1 ∈ fp ∧ h.get? p.1 = some p.2 := by
  obtain ⟨b, hb, e⟩ := List.mem_filterMap.mp hp
  cases q : h.get? b with
  | none => rw [q] at e; cases e
  | some o =>
    rw [q] at e
    have e' : (b, o) = p := Option.some.inj e
    subst e'
    exact ⟨hb, q⟩
theorem Inv.pinned {pins : List (Addr × Obj)} {σ : St} {H : Hp} {s : Shared} {fp : List Addr} (I : Inv X pins σ H s) (hf : ∀ b ∈ fp, FpOk X pins H b) (ho : ∀ b ∈ fp, ∃ o, s.heap.get? b = some o ∧ ∀ v, o.data ≠ .cell v) : Inv X (pins ++ pinsAt fp s.heap) σ H s :=
  I.pins_of fun p hp => (List.mem_append.mp hp).elim (fun z => I.pin p (List.mem_append_right _ z)) fun z => by
    obtain ⟨hb, e⟩ := of_pinsAt z
    obtain ⟨f0, f1, f2, _⟩ := hf p.1 hb
    obtain ⟨o, e', d⟩ := ho p.1 hb
    rw [e] at e'; cases e'
    exact ⟨e, f0, f1, f2, d⟩
theorem Inv.unpinned {pins pl : List (Addr × Obj)} {σ : St} {H : Hp} {s : Shared} (I : Inv X (pins ++ pl) σ H s) : Inv X pins σ H s := I.pins_of fun p hp => I.pin p (List.mem_append_right _ (List.mem_append_left _ hp))
theorem ps_for {iter : Expr} {body : List Stmt} {wi : TI} {g : TG} {tb : TS} {pos : Pos} (hp : PassesOwn (model X.prog X.w) X.A X.env X.xe) (hc : X.calm = true) (hi : PI X tg iter wi) (hg : PG X tg g) (hb : PSs X body tb)
    (hs : ∀ x, foldedSetIterable iter X.env x = pure x := by intro _; rfl) : PS X (.For tg iter body [] pos) (tFor wi g tb) := by
  intro pins s σ H D I h
  refine wpAny_For (thn (hi pins s σ H _ I h) fun v s1 h1 => thn h1 fun itv s2 h2 => ?_) hs
  obtain ⟨it, fp, tn, J, H2, e, I2, T, st2, f2, W, ⟨m0, w0⟩, turn⟩ := h2
  subst e
  -- what stays true of the iterator's objects through the loop
  have stat : ∀ {H' : Hp}, (∀ b ∈ fp, H' b = none) → ∀ b ∈ fp, FpOk X pins H' b := fun hn b hb => ⟨hn b hb, (f2 b hb).2⟩
  refine codeAny_forLoop_any (fun n s' => ∃ i σ' H', Inv X pins σ' H' s' ∧ tn i s'.heap ∧ (∀ b ∈ fp, H' b = none) ∧ W i n σ' H') ?_ m0 ⟨0, σ, H2, I2, st2, fun b hb => (f2 b hb).1, w0⟩
  rintro n s3 ⟨i, σ3, H3, I3, st3, fr3, w3⟩
  rcases turn i n σ3 H3 w3 with ⟨stop, qn⟩ | ⟨go, N, hN, step⟩
  · refine wpAny_passesOwn hp (thn (T.done X rfl rfl rfl hc i pins s3 σ3 H3 X.xe I3 (stat fr3) st3 stop) fun r s4 ⟨hr, I4⟩ => ?_)
    subst hr
    exact wpAny_execs_nil ⟨σ3, H3, I4, qn⟩
  · refine wpAny_passesOwn hp (thn (T.item X rfl rfl rfl hc i pins s3 σ3 H3 X.xe I3 (stat fr3) st3 go) fun r s4 ⟨u, hr, h4⟩ => ?_)
    subst hr
    refine wpAny_passesOwn hp (thn h4 fun _ s5 ⟨x, H5, I5, r5, y5, st5, fr5⟩ => ?_)
    have I5' := I5.pinned (stat fr5) (T.obj _ _ st5)
    refine wpAny_passesOwn hp (thn (hg _ s5 σ3 H5 x u _ I5' r5 (step x H5 y5)) fun _ s6 ⟨σ6, H6, I6, q6⟩ => ?_)
    refine wpAny_passesOwn hp (thn (hb _ s6 σ6 H6 _ I6 q6) fun f s7 q7 => ?_)
    have again : ∀ {σ7 : St} {H7 : Hp}, Inv X (pins ++ pinsAt fp s5.heap) σ7 H7 s7 → N σ7 H7 → ∃ m, m < n ∧ ∃ i σ' H', Inv X pins σ' H' s7 ∧ tn i s7.heap ∧ (∀ b ∈ fp, H' b = none) ∧ W i m σ' H' := fun {σ7 H7} I7 n7 => by
      obtain ⟨m', hm, w7⟩ := hN σ7 H7 n7
      refine ⟨m', hm, i + 1, σ7, H7, I7.unpinned, T.keep _ _ _ st5 fun b hb o e => (I7.pin (b, o) (List.mem_append_right _ (List.mem_append_right _ (mem_pinsAt hb e)))).1, fun b hb => ?_, w7⟩
      obtain ⟨o, e, d⟩ := T.obj _ _ st5 b hb
      exact (I7.pin (b, o) (List.mem_append_right _ (List.mem_append_right _ (mem_pinsAt hb e)))).2.1
    cases f with
    | next => obtain ⟨σ7, H7, I7, n7⟩ := q7; exact again I7 n7
    | cont => obtain ⟨σ7, H7, I7, n7⟩ := q7; exact again I7 n7
    | brk => obtain ⟨σ7, H7, I7, q7⟩ := q7; exact ⟨σ7, H7, I7.unpinned, q7⟩
    | ret v => obtain ⟨x7, σ7, H7, I7, r7, q7⟩ := q7; exact ⟨x7, σ7, H7, I7.unpinned, r7, q7⟩
end
theorem for_list {K : PySem.W.Frag} {a : Addr} {xs : List V} {g : TG} {tb : TS} {D : Ends} {σ : St} {H : Hp} (Pv : Nat → St → Hp → Prop) (h0 : Pv 0 σ H) (hl : ∀ i σ H, i ≤ xs.length → Pv i σ H → SqL K H a xs)
    (hs : ∀ i x σ H, xs[i]? = some x → Pv i σ H → g x σ H fun σ2 H2 => tb { D with nx := Pv (i + 1), ct := Pv (i + 1), bk := D.nx } σ2 H2) (hd : ∀ σ H, Pv xs.length σ H → D.nx σ H) :
    ∃ W : Nat → Nat → St → Hp → Prop, (∃ m, W 0 m σ H) ∧ ∀ i m σ H, W i m σ H →
      ((Itl K a).stop i H ∧ D.nx σ H) ∨ ((Itl K a).go i H ∧ ∃ N : St → Hp → Prop, (∀ σ' H', N σ' H' → ∃ m', m' < m ∧ W (i + 1) m' σ' H') ∧ ∀ x H', (Itl K a).yld i H x H' → g x σ H' fun σ2 H2 => tb { D with nx := N, ct := N, bk := D.nx } σ2 H2) := by
  refine ⟨fun i m σ H => m = xs.length - i ∧ i ≤ xs.length ∧ Pv i σ H, ⟨xs.length, by simp, Nat.zero_le _, h0⟩, ?_⟩
  rintro i m σ H ⟨rfl, hi, p⟩
  have q := hl i σ H hi p
  by_cases hlt : i < xs.length
  · refine .inr ⟨⟨xs, xs[i], q, by simp [hlt]⟩, Pv (i + 1), fun σ' H' p' => ⟨xs.length - (i + 1), by omega, rfl, hlt, p'⟩, fun x H' y => ?_⟩
    obtain ⟨e, y⟩ := y
    subst e
    exact hs i x σ _ (y xs q) p
  · have e : i = xs.length := by omega
    subst e
    exact .inl ⟨⟨xs, q, Nat.le_refl _⟩, hd σ H p⟩
theorem for_range {lo : Int} {n : Nat} {g : TG} {tb : TS} {D : Ends} {σ : St} {H : Hp} (Pv : Nat → St → Hp → Prop) (h0 : Pv 0 σ H)
    (hs : ∀ i σ H, i < n → Pv i σ H → g (.int (lo + i)) σ H fun σ2 H2 => tb { D with nx := Pv (i + 1), ct := Pv (i + 1), bk := D.nx } σ2 H2) (hd : ∀ σ H, Pv n σ H → D.nx σ H) :
    ∃ W : Nat → Nat → St → Hp → Prop, (∃ m, W 0 m σ H) ∧ ∀ i m σ H, W i m σ H →
      ((Itr lo n).stop i H ∧ D.nx σ H) ∨ ((Itr lo n).go i H ∧ ∃ N : St → Hp → Prop, (∀ σ' H', N σ' H' → ∃ m', m' < m ∧ W (i + 1) m' σ' H') ∧ ∀ x H', (Itr lo n).yld i H x H' → g x σ H' fun σ2 H2 => tb { D with nx := N, ct := N, bk := D.nx } σ2 H2) := by
  refine ⟨fun i m σ H => m = n - i ∧ i ≤ n ∧ Pv i σ H, ⟨n, by simp, Nat.zero_le _, h0⟩, ?_⟩
  rintro i m σ H ⟨rfl, hi, p⟩
  by_cases hlt : i < n
  · refine .inr ⟨hlt, Pv (i + 1), fun σ' H' p' => ⟨n - (i + 1), by omega, rfl, hlt, p'⟩, fun x H' y => ?_⟩
    obtain ⟨e, y⟩ := y
    subst e y
    exact hs i σ _ hlt p
  · have e : i = n := by omega
    subst e
    exact .inl ⟨Nat.le_refl _, hd σ H p⟩
theorem while_by {c : TT} {tb : TS} {D : Ends} {σ : St} {H : Hp} (Pv : St → Hp → Prop) (μ : St → Hp → Nat) (h0 : Pv σ H)
    (hs : ∀ σ H, Pv σ H → c σ H fun b H1 => if b = true then tb { D with nx := fun σ' H' => Pv σ' H' ∧ μ σ' H' < μ σ H, ct := fun σ' H' => Pv σ' H' ∧ μ σ' H' < μ σ H, bk := D.nx } σ H1 else D.nx σ H1)
    (mono : ∀ σ H Q Q', (∀ b H1, Q b H1 → Q' b H1) → c σ H Q → c σ H Q') : tWhile c tb D σ H := by
  refine ⟨fun m σ H => m = μ σ H ∧ Pv σ H, ⟨_, rfl, h0⟩, ?_⟩
  rintro m σ H ⟨rfl, p⟩
  refine mono σ H _ _ (fun b H1 q => ?_) (hs σ H p)
  cases b with
  | true => exact ⟨_, fun σ' H' ⟨p', l⟩ => ⟨_, l, rfl, p'⟩, q⟩
  | false => exact q
end L2
namespace L2
open PySem PySem.Spec PyProof.Rows
abbrev R2 := V → V → Hp → VK → Prop
def OpR (X : Cx) (f : Value → Value → Sem Value) (r : R2) : Prop :=
  ∀ (pins : List (Addr × Obj)) (s : Shared) (σ : St) (H : Hp) (x y : V) (v u : Value) (Q : VK), Inv X pins σ H s → RelV x v → RelV y u → r x y H Q →
    wpAny (model X.prog X.w) X.A (f v u) (EP X pins σ Q) X.xe s
def UnR (X : Cx) (f : Value → Sem Value) (r : V → Hp → VK → Prop) : Prop :=
  ∀ (pins : List (Addr × Obj)) (s : Shared) (σ : St) (H : Hp) (x : V) (v : Value) (Q : VK), Inv X pins σ H s → RelV x v → r x H Q →
    wpAny (model X.prog X.w) X.A (f v) (EP X pins σ Q) X.xe s
def CallR (X : Cx) (f : Value) (r : List V → Hp → VK → Prop) : Prop :=
  ∀ (pins : List (Addr × Obj)) (s : Shared) (σ : St) (H : Hp) (xs : List V) (us : List Value) (Q : VK), Inv X pins σ H s → Vals xs us → r xs H Q →
    wpAny (model X.prog X.w) X.A (call f us) (EP X pins σ Q) X.xe s
def tOp (r : R2) (ta tb : TE) : TE := fun σ H Q => ta σ H fun x H1 => tb σ H1 fun y H2 => r x y H2 Q
def tUn (r : V → Hp → VK → Prop) (ta : TE) : TE := fun σ H Q => ta σ H fun x H1 => r x H1 Q
def rI (C : Int → Int → Prop) (g : Int → Int → V) : R2 := fun x y H Q => ∃ i j, x = .int i ∧ y = .int j ∧ C i j ∧ Q (g i j) H
def rI0 (g : Int → Int → V) : R2 := fun x y H Q => ∃ i j, x = .int i ∧ y = .int j ∧ Q (g i j) H
def rU (g : Int → V) : V → Hp → VK → Prop := fun x H Q => ∃ i, x = .int i ∧ Q (g i) H
section
variable {X : Cx} {a b c : Expr} {ta tb tc : TE} {pos : Pos}
theorem binT (ha : PE X a ta) (hb : PE X b tb) {pins : List (Addr × Obj)} {s : Shared} {σ : St} {H : Hp} {R : V → V → Hp → Prop} (I : Inv X pins σ H s)
    (h : ta σ H fun x H1 => tb σ H1 fun y H2 => R x y H2) {Q : Value → Shared → Prop} {f : Value → Value → Sem Value}
    (hf : ∀ v u s2 x y H2, Inv X pins σ H2 s2 → RelV x v → RelV y u → R x y H2 → wpAny (model X.prog X.w) X.A (f v u) Q X.xe s2) :
    wpAny (model X.prog X.w) X.A (eval a X.env) (fun v s₁ => wpAny (model X.prog X.w) X.A (eval b X.env) (fun u s₂ => wpAny (model X.prog X.w) X.A (f v u) Q X.xe s₂) X.xe s₁) X.xe s := by
  refine thn (ha pins s σ H _ I h) fun v s1 ⟨x, H1, I1, r1, q1⟩ => ?_
  refine thn (hb pins s1 σ H1 _ I1 q1) fun u s2 ⟨y, H2, I2, r2, q2⟩ => ?_
  exact hf v u s2 x y H2 I2 r1 r2 q2
theorem pe_op {op : Operator} {r : R2} (ho : OpR X (binaryOp op) r) (ha : PE X a ta) (hb : PE X b tb) : PE X (.BinOp a op b pos) (tOp r ta tb) := by
  intro pins s σ H Q I h
  exact wpAny_BinOp (binT ha hb I h fun v u s2 x y H2 I2 rx ry q => ho pins s2 σ H2 x y v u Q I2 rx ry q)
theorem pe_un {op : UnaryOp} {r : V → Hp → VK → Prop} (ho : UnR X (unaryOp op) r) (ha : PE X a ta) : PE X (.UnaryOp op a pos) (tUn r ta) := by
  intro pins s σ H Q I h
  exact UnaryOp_ (thn (ha pins s σ H _ I h) fun v s1 ⟨x, H1, I1, r1, q1⟩ => ho pins s1 σ H1 x v Q I1 r1 q1)
theorem opI {f : Value → Value → Sem Value} {C : Int → Int → Prop} {g : Int → Int → Int}
    (rule : ∀ (i j : Int) (t u : Tok) (s : Shared) (Q : Value → Shared → Prop) (E : Value → Shared → Prop), C i j → Q (.int (g i j) s.toks) { s with toks := s.toks + 1 } → wpAny (model X.prog X.w) X.A (f (.int i t) (.int j u)) Q E s) :
    OpR X f (rI C fun i j => .int (g i j)) := by
  intro pins s σ H x y v u Q I rx ry h
  obtain ⟨i, j, rfl, rfl, hc, q⟩ := h
  obtain ⟨t, rfl⟩ := rx
  obtain ⟨t', rfl⟩ := ry
  exact rule i j t t' s _ _ hc ⟨.int (g i j), H, I.tok _, ⟨_, rfl⟩, q⟩
theorem opI0 {f : Value → Value → Sem Value} {g : Int → Int → Int}
    (rule : ∀ (i j : Int) (t u : Tok) (s : Shared) (Q : Value → Shared → Prop) (E : Value → Shared → Prop), Q (.int (g i j) s.toks) { s with toks := s.toks + 1 } → wpAny (model X.prog X.w) X.A (f (.int i t) (.int j u)) Q E s) :
    OpR X f (rI0 fun i j => .int (g i j)) := by
  intro pins s σ H x y v u Q I rx ry h
  obtain ⟨i, j, rfl, rfl, q⟩ := h
  obtain ⟨t, rfl⟩ := rx
  obtain ⟨t', rfl⟩ := ry
  exact rule i j t t' s _ _ ⟨.int (g i j), H, I.tok _, ⟨_, rfl⟩, q⟩
theorem opB0 {f : Value → Value → Sem Value} {g : Int → Int → Bool}
    (rule : ∀ (i j : Int) (t u : Tok) (s : Shared) (Q : Value → Shared → Prop) (E : Value → Shared → Prop), Q (.bool (g i j)) s → wpAny (model X.prog X.w) X.A (f (.int i t) (.int j u)) Q E s) :
    OpR X f (rI0 fun i j => .bl (g i j)) := by
  intro pins s σ H x y v u Q I rx ry h
  obtain ⟨i, j, rfl, rfl, q⟩ := h
  obtain ⟨t, rfl⟩ := rx
  obtain ⟨t', rfl⟩ := ry
  exact rule i j t t' s _ _ ⟨.bl (g i j), H, I, rfl, q⟩
def CPow (i j : Int) : Prop := 0 ≤ j ∧ j ≤ 1000000 ∧ i.natAbs < 2 ^ 64
def CMul (i j : Int) : Prop := (-(2 ^ 64) < i ∧ i < 2 ^ 64) ∨ (-(2 ^ 64) < j ∧ j < 2 ^ 64)
theorem CMul.ok {i j : Int} (h : CMul i j) : IntMulOk i j := by
  rcases h with ⟨h1, h2⟩ | ⟨h1, h2⟩
  · exact .of_left (intBits_le_64 h1 h2)
  · exact .of_right (intBits_le_64 h1 h2)
theorem op_add : OpR X (binaryOp .Add) (rI0 fun i j => .int (i + j)) := opI0 fun _ _ _ _ _ _ _ q => add_int q
theorem op_sub : OpR X (binaryOp .Sub) (rI0 fun i j => .int (i - j)) := opI0 fun _ _ _ _ _ _ _ q => sub_int q
theorem op_mul : OpR X (binaryOp .Mult) (rI CMul fun i j => .int (i * j)) := opI fun _ _ _ _ _ _ _ hc q => mul_int q hc.ok
theorem op_mod : OpR X (binaryOp .Mod) (rI (fun _ j => 0 < j) fun i j => .int (i % j)) := opI fun i j _ _ _ _ _ hc q => by
  have h1 : (0 : Int) < j := hc
  exact mod_int' (by omega) (by rw [Int.fmod_eq_emod_of_nonneg i (by omega)]; exact q)
theorem op_pow : OpR X (binaryOp .Pow) (rI CPow fun i j => .int (i ^ j.toNat)) := opI fun _ _ _ _ _ _ _ hc q => pow_int_small hc.1 hc.2.1 hc.2.2 q
theorem unI {f : Value → Sem Value} {g : Int → Int}
    (rule : ∀ (i : Int) (t : Tok) (s : Shared) (Q : Value → Shared → Prop) (E : Value → Shared → Prop), Q (.int (g i) s.toks) { s with toks := s.toks + 1 } → wpAny (model X.prog X.w) X.A (f (.int i t)) Q E s) :
    UnR X f (rU fun i => .int (g i)) := by
  intro pins s σ H x v Q I rx h
  obtain ⟨i, rfl, q⟩ := h
  obtain ⟨t, rfl⟩ := rx
  exact rule i t s _ _ ⟨.int (g i), H, I.tok _, ⟨_, rfl⟩, q⟩
theorem un_neg : UnR X (unaryOp .USub) (rU fun i => .int (-i)) := unI fun _ _ _ _ _ q => neg_int q
end
def scal : V → V → Bool
  | .non, .non => true | .non, .int _ => true | .int _, .non => true | .non, .bl _ => true | .bl _, .non => true | .non, .str _ => true | .str _, .non => true
  | .int _, .int _ => true | .bl _, .bl _ => true | .str _, .str _ => true | .byt _, .byt _ => true
  | .int _, .str _ => true | .str _, .int _ => true | .bl _, .str _ => true | .str _, .bl _ => true
  | _, _ => false
def rEq : R2 := fun x y H Q => scal x y = true ∧ Q (.bl (decide (x = y))) H
def rNe : R2 := fun x y H Q => scal x y = true ∧ Q (.bl (!decide (x = y))) H
theorem dec_int {i j : Int} : decide (V.int i = V.int j) = (i == j) := by
  rw [Bool.eq_iff_iff]
  simp
theorem dec_bl {i j : Bool} : decide (V.bl i = V.bl j) = (i == j) := by
  rw [Bool.eq_iff_iff]
  simp
theorem dec_str {i j : Str} : decide (V.str i = V.str j) = (i == j) := by
  rw [Bool.eq_iff_iff]
  simp
theorem dec_byt {i j : Array UInt8} : decide (V.byt i = V.byt j) = (i.toList == j.toList) := by
  rw [Bool.eq_iff_iff]
  cases i
  cases j
  simp
section
variable {X : Cx} {a b c : Expr} {ta tb tc : TE} {pos : Pos}
theorem fin_bl {pins : List (Addr × Obj)} {σ : St} {H : Hp} {s : Shared} {Q : VK} {k k' : Bool} (I : Inv X pins σ H s) (q : Q (.bl k) H) (e : k = k') : EP X pins σ Q (.bool k') s := by
  subst e
  exact ⟨.bl k, H, I, rfl, q⟩
theorem op_eq : OpR X (compareOp .Eq) rEq := by
  intro pins s σ H x y v u Q I rx ry h
  obtain ⟨hs, q⟩ := h
  cases x with
  | non =>
    cases rx
    cases y with
    | non => cases ry; exact PySem.EqNone.eq_none_none (fin_bl I q (by simp))
    | bl j => cases ry; exact PySem.EqNone.eq_none_bool (fin_bl I q (by simp))
    | int j => obtain ⟨t', rfl⟩ := ry; exact PySem.EqNone.eq_none_int (fin_bl I q (by simp))
    | str j => obtain ⟨t', rfl⟩ := ry; exact PySem.EqNone.eq_none_str (fin_bl I q (by simp))
    | _ => exact absurd (show false = true from hs) Bool.false_ne_true
  | bl i =>
    cases rx
    cases y with
    | non => cases ry; exact PySem.EqNone.eq_bool_none (fin_bl I q (by simp))
    | bl j => cases ry; exact eq_bool (fin_bl I q dec_bl)
    | str j => obtain ⟨t', rfl⟩ := ry; exact PySem.EqMixed.eq_bool_str (fin_bl I q (by simp))
    | _ => exact absurd (show false = true from hs) Bool.false_ne_true
  | int i =>
    obtain ⟨t, rfl⟩ := rx
    cases y with
    | non => cases ry; exact PySem.EqNone.eq_int_none (fin_bl I q (by simp))
    | int j => obtain ⟨t', rfl⟩ := ry; exact eq_int (fin_bl I q dec_int)
    | str j => obtain ⟨t', rfl⟩ := ry; exact PySem.EqMixed.eq_int_str (fin_bl I q (by simp))
    | _ => exact absurd (show false = true from hs) Bool.false_ne_true
  | str i =>
    obtain ⟨t, rfl⟩ := rx
    cases y with
    | non => cases ry; exact PySem.EqNone.eq_str_none (fin_bl I q (by simp))
    | bl j => cases ry; exact PySem.EqMixed.eq_str_bool (fin_bl I q (by simp))
    | int j => obtain ⟨t', rfl⟩ := ry; exact PySem.EqMixed.eq_str_int (fin_bl I q (by simp))
    | str j => obtain ⟨t', rfl⟩ := ry; exact eq_str (fin_bl I q dec_str)
    | _ => exact absurd (show false = true from hs) Bool.false_ne_true
  | byt i =>
    obtain ⟨t, rfl⟩ := rx
    cases y with
    | byt j => obtain ⟨t', rfl⟩ := ry; exact PySem.W.eq_bytes (fin_bl I q dec_byt)
    | _ => exact absurd (show false = true from hs) Bool.false_ne_true
  | _ => cases y <;> exact absurd (show false = true from hs) Bool.false_ne_true
theorem op_ne : OpR X (compareOp .NotEq) rNe := by
  intro pins s σ H x y v u Q I rx ry h
  obtain ⟨hs, q⟩ := h
  cases x with
  | non =>
    cases rx
    cases y with
    | non => cases ry; exact PySem.EqNone.ne_none_none (fin_bl I q (by simp))
    | bl j => cases ry; exact PySem.EqNone.ne_none_bool (fin_bl I q (by simp))
    | int j => obtain ⟨t', rfl⟩ := ry; exact PySem.EqNone.ne_none_int (fin_bl I q (by simp))
    | str j => obtain ⟨t', rfl⟩ := ry; exact PySem.EqNone.ne_none_str (fin_bl I q (by simp))
    | _ => exact absurd (show false = true from hs) Bool.false_ne_true
  | bl i =>
    cases rx
    cases y with
    | non => cases ry; exact PySem.EqNone.ne_bool_none (fin_bl I q (by simp))
    | bl j => cases ry; exact ne_bool (fin_bl I q (congrArg not dec_bl))
    | str j => obtain ⟨t', rfl⟩ := ry; exact PySem.EqMixed.ne_bool_str (fin_bl I q (by simp))
    | _ => exact absurd (show false = true from hs) Bool.false_ne_true
  | int i =>
    obtain ⟨t, rfl⟩ := rx
    cases y with
    | non => cases ry; exact PySem.EqNone.ne_int_none (fin_bl I q (by simp))
    | int j => obtain ⟨t', rfl⟩ := ry; exact ne_int (fin_bl I q (congrArg not dec_int))
    | str j => obtain ⟨t', rfl⟩ := ry; exact PySem.EqMixed.ne_int_str (fin_bl I q (by simp))
    | _ => exact absurd (show false = true from hs) Bool.false_ne_true
  | str i =>
    obtain ⟨t, rfl⟩ := rx
    cases y with
    | non => cases ry; exact PySem.EqNone.ne_str_none (fin_bl I q (by simp))
    | bl j => cases ry; exact PySem.EqMixed.ne_str_bool (fin_bl I q (by simp))
    | int j => obtain ⟨t', rfl⟩ := ry; exact PySem.EqMixed.ne_str_int (fin_bl I q (by simp))
    | str j => obtain ⟨t', rfl⟩ := ry; exact ne_str (fin_bl I q (congrArg not dec_str))
    | _ => exact absurd (show false = true from hs) Bool.false_ne_true
  | byt i =>
    obtain ⟨t, rfl⟩ := rx
    cases y with
    | byt j => obtain ⟨t', rfl⟩ := ry; exact PySem.W.ne_bytes (fin_bl I q (congrArg not dec_byt))
    | _ => exact absurd (show false = true from hs) Bool.false_ne_true
  | _ => cases y <;> exact absurd (show false = true from hs) Bool.false_ne_true
theorem op_lt : OpR X (compareOp .Lt) (rI0 fun i j => .bl (decide (i < j))) := opB0 fun _ _ _ _ _ _ _ q => lt_int q
theorem op_le : OpR X (compareOp .LtE) (rI0 fun i j => .bl (decide (i ≤ j))) := opB0 fun _ _ _ _ _ _ _ q => le_int q
theorem op_gt : OpR X (compareOp .Gt) (rI0 fun i j => .bl (decide (j < i))) := opB0 fun _ _ _ _ _ _ _ q => gt_int q
theorem op_ge : OpR X (compareOp .GtE) (rI0 fun i j => .bl (decide (j ≤ i))) := opB0 fun _ _ _ _ _ _ _ q => ge_int q
theorem op_isN : OpR X (compareOp .Is) (fun x y H Q => y = .non ∧ Q (.bl (decide (x = .non))) H) := by
  intro pins s σ H x y v u Q I rx ry h
  obtain ⟨rfl, q⟩ := h
  cases ry
  refine is_none_gen (fin_bl I q ?_)
  cases x <;> first
    | (cases rx; rfl)
    | (obtain ⟨t, rfl⟩ := rx; rfl)
theorem op_notN : OpR X (compareOp .IsNot) (fun x y H Q => y = .non ∧ Q (.bl (!decide (x = .non))) H) := by
  intro pins s σ H x y v u Q I rx ry h
  obtain ⟨rfl, q⟩ := h
  cases ry
  refine isnot_none_gen (fin_bl I q ?_)
  cases x <;> first
    | (cases rx; rfl)
    | (obtain ⟨t, rfl⟩ := rx; rfl)
theorem nomark (b : Expr) {op : CmpOp} (h : op ≠ .In := by decide) (h2 : op ≠ .NotIn := by decide) : behindInMarks op b = false := by
  have e1 : (op == CmpOp.In) = false := by cases op <;> first | rfl | exact absurd rfl h
  have e2 : (op == CmpOp.NotIn) = false := by cases op <;> first | rfl | exact absurd rfl h2
  cases b <;> simp [behindInMarks, e1, e2]
theorem pe_cmpR {op : CmpOp} {r : R2} (ho : OpR X (compareOp op) r) (ha : PE X a ta) (hb : PE X b tb) (hm : behindInMarks op b = false) : PE X (.Compare a [op] [b] pos) (tOp r ta tb) := by
  intro pins s σ H Q I h
  exact wpAny_Compare1 (binT ha hb I h fun v u s2 x y H2 I2 rx ry q => ho pins s2 σ H2 x y v u Q I2 rx ry q) hm
def tTest (t : TE) : TT := fun σ H Q => t σ H fun x H' => ∃ k, x = .bl k ∧ Q k H'
theorem pt_cmpR {op : CmpOp} {r : R2} (ho : OpR X (compareOp op) r) (ha : PE X a ta) (hb : PE X b tb) (hm : behindInMarks op b = false) : PT X (.Compare a [op] [b] pos) (tTest (tOp r ta tb)) := by
  intro pins s σ H Q I h
  refine wpAny_isTrue_Compare1 (thn (ha pins s σ H _ I h) fun v s1 ⟨x, H1, I1, r1, q1⟩ => thn (hb pins s1 σ H1 _ I1 q1) fun u s2 ⟨y, H2, I2, r2, q2⟩ =>
    thn (ho pins s2 σ H2 x y v u _ I2 r1 r2 q2) fun c s3 ⟨z, H3, I3, r3, k, e, q3⟩ => ?_) hm
  subst e
  cases r3
  exact wpAny_truthy_bool ⟨H3, I3, q3⟩
def tChain (r r' : R2) (ta tb tc : TE) : TE := fun σ H Q => ta σ H fun x H1 => tb σ H1 fun y H2 => r x y H2 fun z H3 => ∃ k, z = .bl k ∧
  (if k = true then tc σ H3 fun w' H4 => r' y w' H4 Q else Q (.bl false) H3)
theorem pt_chain {op op' : CmpOp} {r r' : R2} (ho : OpR X (compareOp op) r) (ho' : OpR X (compareOp op') r') (ha : PE X a ta) (hb : PE X b tb) (hc : PE X c tc)
    (hm : lastMarks [op, op'] [b, c] = false := by with_unfolding_all rfl) : PT X (.Compare a [op, op'] [b, c] pos) (tTest (tChain r r' ta tb tc)) := by
  intro pins s σ H Q I h
  refine isTrue_chain (thn (ha pins s σ H _ I h) fun v s1 ⟨x, H1, I1, r1, q1⟩ => test_link (thn (hb pins s1 σ H1 _ I1 q1) fun u s2 ⟨y, H2, I2, r2, q2⟩ =>
    thn (ho pins s2 σ H2 x y v u _ I2 r1 r2 q2) fun d s3 ⟨z, H3, I3, r3, k, e, q3⟩ => ?_)) hm
  subst e
  cases r3
  refine wpAny_truthy_bool ?_
  cases k with
  | false =>
    obtain ⟨k', e', q'⟩ := q3
    cases e'
    exact ite_ff ⟨H3, I3, q'⟩
  | true =>
    refine ite_tt (test_last (thn (hc pins s3 σ H3 _ I3 q3) fun w' s4 ⟨z', H4, I4, r4, q4⟩ => thn (ho' pins s4 σ H4 y z' u w' _ I4 r2 r4 q4) fun d' s5 ⟨z2, H5, I5, r5, k2, e2, q5⟩ => ?_))
    subst e2
    cases r5
    exact wpAny_truthy_bool ⟨H5, I5, q5⟩
theorem line63 : (sizeLine : Nat) < 2 ^ 63 := by rw [sizeLine_eq]; decide
theorem op_add_str : OpR X (binaryOp .Add) (fun x y H Q => ∃ i j, x = .str i ∧ y = .str j ∧ i.length + j.length ≤ sizeLine ∧ Q (.str (i ++ j)) H) := by
  intro pins s σ H x y v u Q I rx ry h
  obtain ⟨i, j, rfl, rfl, hz, q⟩ := h
  obtain ⟨t, rfl⟩ := rx
  obtain ⟨t', rfl⟩ := ry
  exact add_str (fun t' tk => ⟨.str (i ++ j), H, I.tok _, ⟨_, rfl⟩, q⟩) hz
theorem vals1 {x : V} {us : List Value} (r : Vals [x] us) : ∃ u, us = [u] ∧ RelV x u := by
  cases r with
  | cons r1 r2 => cases r2; exact ⟨_, rfl, r1⟩
theorem vals2 {x y : V} {us : List Value} (r : Vals [x, y] us) : ∃ u w', us = [u, w'] ∧ RelV x u ∧ RelV y w' := by
  cases r with
  | cons r1 r2 =>
    cases r2 with
    | cons r3 r4 => cases r4; exact ⟨_, _, rfl, r1, r3⟩
theorem call_abs : CallR X (.builtin "abs") (fun xs H Q => ∃ i, xs = [.int i] ∧ Q (.int (if i < 0 then -i else i)) H) := by
  intro pins s σ H xs us Q I r h
  obtain ⟨i, rfl, q⟩ := h
  obtain ⟨u, rfl, t, rfl⟩ := vals1 r
  exact call_abs_int fun u tk => ⟨.int (if i < 0 then -i else i), H, I.tok _, ⟨_, rfl⟩, q⟩
theorem call_max2 (hc : X.calm = true) : CallR X (.builtin "max") (fun xs H Q => ∃ i j, xs = [.int i, .int j] ∧ Q (.int (if j > i then j else i)) H) := by
  intro pins s σ H xs us Q I r h
  obtain ⟨i, j, rfl, q⟩ := h
  obtain ⟨u, w', rfl, ⟨t, rfl⟩, ⟨t', rfl⟩⟩ := vals2 r
  refine max_two_ints (I.ok.hd hc) fun h' tk k => ⟨_, H, I.kept k, ?_, q⟩
  by_cases hj : j > i
  · rw [if_pos hj, if_pos hj]; exact ⟨_, rfl⟩
  · rw [if_neg hj, if_neg hj]; exact ⟨_, rfl⟩
theorem call_min2 (hc : X.calm = true) : CallR X (.builtin "min") (fun xs H Q => ∃ i j, xs = [.int i, .int j] ∧ Q (.int (if j < i then j else i)) H) := by
  intro pins s σ H xs us Q I r h
  obtain ⟨i, j, rfl, q⟩ := h
  obtain ⟨u, w', rfl, ⟨t, rfl⟩, ⟨t', rfl⟩⟩ := vals2 r
  refine min_two_ints (I.ok.hd hc) fun h' tk k => ⟨_, H, I.kept k, ?_, q⟩
  by_cases hj : j < i
  · rw [if_pos hj, if_pos hj]; exact ⟨_, rfl⟩
  · rw [if_neg hj, if_neg hj]; exact ⟨_, rfl⟩
end
end L2
namespace L2
open PySem PySem.Spec PyProof.Rows
section
variable {prog : Program} {w : World} {A : Around} {E : Value → Shared → Prop} {s : Shared} {K : PySem.W.Frag} {x dx C f : Addr} {mA : Str → Option Value} {name : Str} {v : Value}
end
theorem RelO.some_of {v : V} {o : Option Value} (r : RelO (some v) o) : ∃ u, o = some u ∧ RelV v u := by
  cases o with
  | none => exact (show False from r).elim
  | some u => exact ⟨u, rfl, r⟩
section
variable {P : Program} {w : World} {H H' : Hp} {h h' : Heap} {a C dx : Addr} {fs fs' : List (Str × V)}
end
section
variable {X : Cx} {pins : List (Addr × Obj)} {σ : St} {H : Hp} {s : Shared} {a C dx : Addr} {fs : List (Str × V)} {f : Str} {v : V} {A : Around} {E : Value → Shared → Prop}
end
section
variable {X : Cx} {o e value : Expr} {f : Str} {pos pos' tpos : Pos} {ta tv : TE}
end
section
variable {X : Cx} {pins : List (Addr × Obj)} {σ : St} {H : Hp} {s : Shared} {A : Around} {E : Value → Shared → Prop} {Q : Value → Shared → Prop} {c : Value} {b : Bool}
end
end L2
namespace L2
open PySem PySem.Spec PyProof.Rows
structure Room (k : Nat) (A : Around) : Prop where
  hd : A.handled = none
  dp : A.depth + 3 * k + 5 < recursionLimit
  un : A.units + 16 * k + 200 < cLine
theorem Room.mono {j k : Nat} {A : Around} (r : Room k A) (h : j ≤ k) : Room j A := ⟨r.hd, by have := r.dp; omega, by have := r.un; omega⟩
theorem Room.deeper {k : Nat} {A : Around} (r : Room (k + 1) A) (env : Env) : Room k (A.deeper env) :=
  ⟨r.hd, by have := r.dp; show A.depth + 1 + 3 * k + 5 < _; omega, by have := r.un; show A.units + 3 + 16 * k + 200 < _; omega⟩
theorem make_depth {A : Around} {C : Addr} {us : List Value} {kw : List (Str × Value)} : (A.under (.builtin "type.__call__" ⟨.ref C :: us, kw⟩)).depth = A.depth + 1 := by
  first | rfl | simp [Around.under, Code.weight, Code.isCreation, Code.isGuard, Code.isCaller, Code.frames, Code.isFrame, guardIds]
theorem make_units {A : Around} {C : Addr} {us : List Value} {kw : List (Str × Value)} : (A.under (.builtin "type.__call__" ⟨.ref C :: us, kw⟩)).units = A.units + 1 := by
  first | rfl | simp [Around.under, Code.cUnits, Code.frames, Code.isFrame]
theorem Room.make {k : Nat} {A : Around} (r : Room (k + 1) A) (C : Addr) (us : List Value) (kw : List (Str × Value)) : Room k (A.under (.builtin "type.__call__" ⟨.ref C :: us, kw⟩)) :=
  ⟨r.hd, by have := r.dp; rw [make_depth]; omega, by have := r.un; rw [make_units]; omega⟩
theorem Room.depth {k : Nat} {A : Around} (r : Room k A) : A.depth < recursionLimit := by have := r.dp; omega
theorem Room.units {k : Nat} {A : Around} (r : Room k A) : A.units + 64 < cLine := by have := r.un; omega
def tNil : TA := fun _ H Q => Q [] H
def tCons (ta : TE) (tr : TA) : TA := fun σ H Q => ta σ H fun x H1 => tr σ H1 fun xs H2 => Q (x :: xs) H2
section
variable {X : Cx} {e : Expr} {es : List Expr} {te : TE} {t : TA} {pos : Pos}
theorem pa_nil : PA X [] tNil := fun _ _ _ _ H Q I h => Calls.spliced_nil ⟨[], H, I, .nil, h⟩
theorem pa_cons (ha : PE X e te) (hr : PA X es t) (hs : starEach (e :: es) X.env = (false, eval e X.env) :: starEach es X.env := by rfl) : PA X (e :: es) (tCons te t) := by
  intro pos pins s σ H Q I h
  rw [hs]
  show wpAny _ _ (spliced ((false, eval e X.env) :: backTo pos (starEach es X.env))) _ _ s
  refine Calls.spliced_cons (thn (ha pins s σ H _ I h) fun u s1 ⟨x, H1, I1, r1, q1⟩ => ?_)
  exact thn (hr pos pins s1 σ H1 _ I1 q1) fun us s2 ⟨xs, H2, I2, r2, q2⟩ => ⟨x :: xs, H2, I2, .cons r1 r2, q2⟩
def tTup (t : TA) : TE := fun σ H Q => t σ H fun xs H1 => xs.length ≤ sizeLine ∧ ∀ p, H1 p = none → Q (.ref p) (upd H1 p (.tup xs))
def tLst (t : TA) : TE := fun σ H Q => t σ H fun xs H1 => xs.length ≤ sizeLine ∧ ∀ p, H1 p = none → Q (.ref p) (upd H1 p (.lst xs))
theorem pe_tup {x1} (h : PA X es t) : PE X (.Tuple es x1 pos) (tTup t) := by
  intro pins s σ H Q I hq
  refine wpAny_Tuple_spliced (thn (h pos pins s σ H _ I hq) fun us s1 ⟨xs, H1, I1, r, z, q⟩ => ⟨by rw [← r.length]; exact z, ?_⟩)
  have hf : H1 s1.heap.objs.size = none := I1.hok.fresh (Nat.le_refl _)
  refine ⟨.ref s1.heap.objs.size, upd H1 s1.heap.objs.size (.tup xs), I1.laid (t' := s1.toks) (fun b u e => Heap.get?_push_of_some _ e) (Nat.le_refl _) ?_, rfl, q _ hf⟩
  exact ⟨z, us, r, ⟨_, Heap.get?_push_size _ rfl, rfl, _, rfl⟩⟩
theorem pe_lst (h : PA X es t) : PE X (.List es pos) (tLst t) := by
  intro pins s σ H Q I hq
  refine wpAny_List_spliced (thn (h pos pins s σ H _ I hq) fun us s1 ⟨xs, H1, I1, r, z, q⟩ => ⟨by rw [← r.length]; exact z, ?_⟩)
  have hf : H1 s1.heap.objs.size = none := I1.hok.fresh (Nat.le_refl _)
  refine ⟨.ref s1.heap.objs.size, upd H1 s1.heap.objs.size (.lst xs), I1.laid (t' := s1.toks) (fun b u e => Heap.get?_push_of_some _ e) (Nat.le_refl _) ?_, rfl, q _ hf⟩
  exact ⟨z, us, 0, r, Heap.get?_push_size _ rfl⟩
end
abbrev Sp := List V → Hp → VK → XK → Prop
abbrev CXT := List Env → Hp → Shared → XK → Value → Shared → Prop
structure Env0 (P : Program) (w : World) (K : PySem.W.Frag) (mg : Str → Option Value) (base : Heap) (A : Around) (outer : List Env) (s : Shared) (H : Hp) : Prop where
  frames : A.frames = some outer
  mod : Mod K mg base
  bs : ∀ b o, base.get? b = some o → s.heap.get? b = some o ∧ H b = none
  bsz : base.objs.size ≤ s.heap.objs.size
  funs : s.heap.FunFrames base outer
  frf : ∀ b ∈ frs outer, H b = none
  hok : HOk P w H s.heap
  bare : AllBare s.gens
def CE (outer : List Env) (P : Program) (w : World) (H : Hp) (s : Shared) (Q : VK) (u : Value) (s' : Shared) : Prop :=
  ∃ v H', s'.os = s.os ∧ AllBare s'.gens ∧ Un (frs outer) [] H H' s.heap s'.heap ∧ HOk P w H' s'.heap ∧ RelV v u ∧ Q v H'
def CR (CX : CXT) (outer : List Env) (P : Program) (w : World) (H : Hp) (s : Shared) (Q : VK) (E : XK) (r : Result) (s' : Shared) : Prop :=
  match r with
  | .ok (.ret u) => CE outer P w H s Q u s'
  | .ok _ => False
  | .error e => CX outer H s E e s'
structure FnOk (P : Program) (w : World) (K : PySem.W.Frag) (mg : Str → Option Value) (base : Heap) (CX : CXT) (k : Nat) (f : Addr) (fd : FuncData) (ps : List Str) (sp : Sp) : Prop where
  len : ∀ vs H Q E, sp vs H Q E → vs.length = ps.length
  run : ∀ (A : Around) (outer : List Env) (s : Shared) (H : Hp) (args : Args) (us : List Value) (vs : List V) (Q : VK) (E : XK), Room k A → Env0 P w K mg base A outer s H → BindsTo s fd args (ps.zip us) → Vals vs us → sp vs H Q E →
    codeAny (model P w) A (.call (.ref f) args) (CR CX outer P w H s Q E) s
theorem Env0.make {P : Program} {w : World} {K : PySem.W.Frag} {mg : Str → Option Value} {base : Heap} {A : Around} {outer : List Env} {s : Shared} {H : Hp} (e : Env0 P w K mg base A outer s H) (C : Addr) (us : List Value) (kw : List (Str × Value)) :
    Env0 P w K mg base (A.under (.builtin "type.__call__" ⟨.ref C :: us, kw⟩)) outer s H := ⟨by first | exact e.frames | (simpa [Around.under, Code.envs, Code.isFrame, pushEnvs] using e.frames), e.mod, e.bs, e.bsz, e.funs, e.frf, e.hok, e.bare⟩
section
variable {X : Cx} {pins : List (Addr × Obj)} {σ : St} {H : Hp} {s s' : Shared}
theorem Inv.env0 (I : Inv X pins σ H s) : Env0 X.prog X.w X.K X.mg X.base X.A X.stack s H :=
  ⟨I.ok.frames, I.ok.mod, I.bs, Nat.le_trans I.ok.bsz I.sz, I.stack, I.stkFree, I.hok, I.bare⟩
theorem Inv.after {Q : VK} {u : Value} (I : Inv X pins σ H s) (h : CE X.stack X.prog X.w H s Q u s') : EP X pins σ Q u s' := by
  obtain ⟨v, H', os, bare, un, hok, r, q⟩ := h
  obtain ⟨hh, g, d, t, os'⟩ := s'
  obtain rfl : os' = s.os := os
  exact ⟨v, H', I.call (h' := hh) (g' := g) (d' := d) (t' := t) (ch := []) un hok bare (fun b z => absurd z (by simp)), r, q⟩
end
def tCall (sp : Sp) (dvs : List V) (E : XK) (t : TA) : TE := fun σ H Q => t σ H fun vs H1 => sp (vs ++ dvs) H1 Q E
def Binds (K : PySem.W.Frag) (fd : FuncData) (ps : List Str) (ds : List Value) : Prop :=
  ∀ (s : Shared) (us : List Value), K.In s.heap → (us ++ ds).length = ps.length → BindsTo s fd ⟨us, []⟩ (ps.zip (us ++ ds))
theorem Binds.all {K : PySem.W.Frag} {fd : FuncData} {ps : List Str} (h : ∀ us : List Value, us.length = ps.length → bindArgs fd ⟨us, []⟩ = pure (ps.zip us)) : Binds K fd ps [] := fun s us _ hl => by
  rw [List.append_nil] at hl ⊢
  exact .of_eq (h us hl)
def Passes (CX : CXT) (X : Cx) (E : XK) : Prop := ∀ (pins : List (Addr × Obj)) (σ : St) (H : Hp) (s : Shared) (e : Value) (s' : Shared), Inv X pins σ H s → CX X.stack H s E e s' → X.xe e s'
section
variable {X : Cx} {CX : CXT} {k : Nat} {f C : Addr} {fd : FuncData} {ps : List Str} {sp : Sp} {dvs : List V} {ds : List Value} {E : XK} {x m : Str} {p pos apos : Pos} {e o : Expr} {es : List Expr} {ta : TE} {t : TA}
theorem run_fn {pins : List (Addr × Obj)} {σ : St} {H : Hp} {s : Shared} {Q : VK} {us : List Value} {vs : List V} (F : FnOk X.prog X.w X.K X.mg X.base CX k f fd ps sp) (hr : Room k X.A) (hb : Binds X.K fd ps ds) (hd : Vals dvs ds) (hx : Passes CX X E)
    (I : Inv X pins σ H s) (r : Vals vs us) (h : sp (vs ++ dvs) H Q E) : wpAny (model X.prog X.w) X.A (call (.ref f) us) (EP X pins σ Q) X.xe s := by
  have r2 : Vals (vs ++ dvs) (us ++ ds) := r.append hd
  have hl : (us ++ ds).length = ps.length := by rw [← r2.length]; exact F.len _ _ _ _ h
  refine wpAny_call (codeAny_mono (F.run X.A X.stack s H ⟨us, []⟩ (us ++ ds) (vs ++ dvs) Q E hr I.env0 (hb s us I.kIn hl) r2 h) fun r s' hq => ?_)
  cases r with
  | error e => exact hx pins σ H s e s' I hq
  | ok fl =>
    cases fl with
    | ret u => exact I.after hq
    | next => exact False.elim hq
    | brk => exact False.elim hq
    | cont => exact False.elim hq
theorem pe_call (F : FnOk X.prog X.w X.K X.mg X.base CX k f fd ps sp) (hr : Room k X.A) (hg : Gl X x) (hm : X.mg x = some (.ref f)) (hk : PySem.W.keepIn X.K (.ref f) = true) (hb : Binds X.K fd ps ds) (hd : Vals dvs ds) (hx : Passes CX X E)
    (ha : PA X (e :: es) t) (hdb : (x == ("__debug__" : Str)) = false := by decide) (he : starEach (e :: es) X.env = (false, eval e X.env) :: starEach es X.env := by rfl) (hpl : (backTo pos (starEach es X.env)).any (·.1) = false := by rfl) :
    PE X (.Call (.Name x p) (e :: es) [] pos) (tCall sp dvs E t) := by
  intro pins s σ H Q I h
  refine wpAny_Call_Name_kw (ld_glob I hg hm ?_ hdb)
  refine PySem.W.callWith_K (h₀ := X.base) I.ok.mod.kin hk (thn (ha pos pins s σ H _ I h) fun us s1 ⟨vs, H1, I1, r, q⟩ => ⟨I1.kIn, ?_⟩) he hpl
  exact run_fn F hr hb hd hx I1 r q
end
section
variable {X : Cx} {CX : CXT} {k : Nat} {f C : Addr} {fd : FuncData} {ps ks : List Str} {sp : Sp} {E : XK} {x m : Str} {p pos apos kpos : Pos} {e o : Expr} {es : List Expr} {kws : List Keyword} {te ta : TE} {t tk : TA} {nm : Option Str}
variable {g : List Value → List Value → List Value} {gV : List V → List V → List V}
end
structure FnScope (N P : List Str) (sc : Scope) : Prop where
  kind : sc.kind = .function
  co : sc.isCoroutine = false
  gen : sc.isGenerator = false
  nd : N.Nodup
  pre : N.take P.length = P
  par : ∀ x ∈ P, sc.names.lookup x = some .local ∨ sc.names.lookup x = some .cell
  nofree : ∀ y ∈ sc.names, y.2 ≠ .free
theorem bindL_out {kindOf : Str → Option NameKind} {x : Str} : ∀ {binds : List (Str × Value)} {m : Str → Option Value}, (∀ v, (x, v) ∉ binds) → bindL kindOf binds m x = m x
  | [], _, _ => rfl
  | (n, v) :: r, m, h => by
    unfold bindL
    rw [bindL_out fun w hw => h w (List.mem_cons_of_mem _ hw)]
    split
    · have : x ≠ n := by rintro rfl; exact h v List.mem_cons_self
      simp [this]
    · rfl
theorem bindC_out {kindOf : Str → Option NameKind} {x : Str} : ∀ {binds : List (Str × Value)} {m : Str → Option Value}, (∀ v, (x, v) ∉ binds) → bindC kindOf binds m x = m x
  | [], _, _ => rfl
  | (n, v) :: r, m, h => by
    unfold bindC
    rw [bindC_out fun w hw => h w (List.mem_cons_of_mem _ hw)]
    split
    · rfl
    · have : x ≠ n := by rintro rfl; exact h v List.mem_cons_self
      simp [this]
theorem bindL_get {kindOf : Str → Option NameKind} {x : Str} {v : Value} : ∀ {P : List Str} {vs : List Value} {i : Nat} {m : Str → Option Value}, P.Nodup → P[i]? = some x → vs[i]? = some v → kindOf x = some .local →
    bindL kindOf (P.zip vs) m x = some v
  | [], _, _, _, _, h, _, _ => by simp at h
  | _ :: _, [], _, _, _, _, h, _ => by simp at h
  | p :: P, w :: vs, 0, m, nd, h1, h2, hk => by
    simp at h1 h2; subst h1; subst h2
    show bindL kindOf ((p, w) :: P.zip vs) m p = _
    unfold bindL
    rw [bindL_out fun v hv => (List.nodup_cons.mp nd).1 (List.of_mem_zip hv).1, if_pos hk]
    simp
  | p :: P, w :: vs, i + 1, m, nd, h1, h2, hk => by
    show bindL kindOf ((p, w) :: P.zip vs) m x = _
    unfold bindL
    exact bindL_get (i := i) (List.nodup_cons.mp nd).2 (by simpa using h1) (by simpa using h2) hk
theorem bindC_get {kindOf : Str → Option NameKind} {x : Str} {v : Value} : ∀ {P : List Str} {vs : List Value} {i : Nat} {m : Str → Option Value}, P.Nodup → P[i]? = some x → vs[i]? = some v → kindOf x ≠ some .local →
    bindC kindOf (P.zip vs) m x = some v
  | [], _, _, _, _, h, _, _ => by simp at h
  | _ :: _, [], _, _, _, _, h, _ => by simp at h
  | p :: P, w :: vs, 0, m, nd, h1, h2, hk => by
    simp at h1 h2; subst h1; subst h2
    show bindC kindOf ((p, w) :: P.zip vs) m p = _
    unfold bindC
    rw [bindC_out fun v hv => (List.nodup_cons.mp nd).1 (List.of_mem_zip hv).1, if_neg hk]
    simp
  | p :: P, w :: vs, i + 1, m, nd, h1, h2, hk => by
    show bindC kindOf ((p, w) :: P.zip vs) m x = _
    unfold bindC
    exact bindC_get (i := i) (List.nodup_cons.mp nd).2 (by simpa using h1) (by simpa using h2) hk
def start (N : List Str) (vs : List V) : St := vs.map some ++ List.replicate (N.length - vs.length) none
def cxOf (CX : CXT) (P : Program) (w : World) (K : PySem.W.Frag) (mg : Str → Option Value) (base : Heap) (N : List Str) (qual : Str) (scope : Scope) (f : Addr) (cd : Value) (A : Around) (outer : List Env) (s : Shared) (H : Hp) (E : XK) : Cx where
  prog := P
  w := w
  K := K
  mg := mg
  base := base
  A := A.deeper (envOfC qual scope s.heap.objs.size f cd)
  N := N
  s₀ := s
  H₀ := H
  env := envOfC qual scope s.heap.objs.size f cd
  outer := outer
  stack := envOfC qual scope s.heap.objs.size f cd :: outer
  ex := []
  calm := true
  fn := fun _ => true
  pn := []
  xe := fun e s' => wpAny (model P w) (A.deeper (envOfC qual scope s.heap.objs.size f cd)) (leaving (envOfC qual scope s.heap.objs.size f cd) e) (fun _ s'' => CX outer H s E e s'') (fun e' s'' => CX outer H s E e' s'') s'
theorem cell_has {sc : Scope} {n : Nat} {x : Str} (h : sc.names.lookup x = some .cell) : ∃ c, (cellsFrom n sc.names []).lookup x = some c := by
  have q := PySem.W.cellsFrom_some sc.names n [] (.inl h)
  exact Option.isSome_iff_exists.mp q
theorem inv_start {CX : CXT} {P : Program} {w : World} {K : PySem.W.Frag} {mg : Str → Option Value} {base : Heap} {N ps : List Str} {qual : Str} {scope : Scope} {f : Addr} {cd : Value} {A : Around} {outer : List Env} {s s1 : Shared} {H : Hp} {E : XK} {us : List Value} {vs : List V}
    (S : FnScope N ps scope) (hd : A.handled = none) (e0 : Env0 P w K mg base A outer s H) (hl : vs.length = ps.length) (r : Vals vs us)
    (x : InCallC s s.heap.objs.size (bindL (envOfC qual scope s.heap.objs.size f cd).kindOf (ps.zip us) fun _ => none) (cellsFrom (s.heap.objs.size + 1) scope.names []) (bindC (envOfC qual scope s.heap.objs.size f cd).kindOf (ps.zip us) fun _ => none) s1) :
    Inv (cxOf CX P w K mg base N qual scope f cd A outer s H E) [] (start N vs) H s1 := by
  have hpl : ps.length ≤ N.length := by have := congrArg List.length S.pre; rw [List.length_take] at this; omega
  obtain ⟨h1, tk, rfl, hk⟩ := x.done
  have noA : ∀ b : Addr, b ∉ (cxOf CX P w K mg base N qual scope f cd A outer s H E).ex := fun b z => absurd (show b ∈ ([] : List Addr) from z) (by simp)
  refine ⟨⟨e0.mod, S.kind, rfl, rfl, Nat.le_refl _, fun y z c h1 h2 => ?_, fun y hy => ?_, fun y c _ h => ?_, fun _ => hd, Around.frames_deeper e0.frames, .inr ⟨rfl, rfl⟩, fun b z => absurd z (noA b), e0.bs, e0.bsz, fun b _ _ => noA b, fun b z => absurd z (noA b), e0.funs, e0.frf⟩,
    rfl, e0.bare, Un.kept hk, ⟨_, x.toInCall.ns, fun i y v h1 h2 h3 => ?_⟩, fun y c h => ⟨_, x.cell y c h⟩, e0.hok.fresh (Nat.le_refl _), fun y c h => ?_, fun p hp => absurd (show p ∈ ([] : List (Addr × Obj)) from hp) (by simp), e0.hok.kept hk, ?_⟩
  · exact name_of_addr x.apart (PySem.mem_of_lookup h1) (PySem.mem_of_lookup h2)
  · have hy : scope.names.lookup y = some .cell ∨ scope.names.lookup y = some .free := hy
    rcases hy with hy | hy
    · exact cell_has hy
    · exact absurd rfl (S.nofree _ (PySem.mem_of_lookup hy))
  · exact Nat.le_of_lt (x.above y c (PySem.mem_of_lookup h))
  · have hi : i < vs.length := by
      unfold start at h2
      by_cases hi : i < vs.length
      · exact hi
      · rw [List.getElem?_append_right (by simpa using hi)] at h2
        rw [List.getElem?_replicate] at h2
        split at h2 <;> cases h2
    have ha : vs[i]? = some v := by
      unfold start at h2
      rw [List.getElem?_append_left (by simpa using hi), List.getElem?_map] at h2
      cases e : vs[i]? with
      | none => rw [e] at h2; cases h2
      | some a => rw [e] at h2; cases h2; rfl
    obtain ⟨u, hu, rv⟩ := r.get ha
    have hp : ps[i]? = some y := by
      rw [← S.pre, List.getElem?_take_of_lt (by omega)]; exact h1
    have ndP : ps.Nodup := by rw [← S.pre]; exact S.nd.sublist (List.take_sublist _ _)
    refine ⟨u, rv, ?_⟩
    rcases S.par y (List.mem_of_getElem? hp) with k | k
    · exact .inl ⟨k, bindL_get ndP hp hu k⟩
    · obtain ⟨c, e⟩ := cell_has (n := s.heap.objs.size + 1) k
      refine .inr ⟨.inl k, c, e, ?_⟩
      have q := x.cell y c e
      rw [bindC_get ndP hp hu (by show scope.names.lookup y ≠ _; rw [k]; decide)] at q
      exact q
  · exact e0.hok.fresh (Nat.le_of_lt (x.above y c (PySem.mem_of_lookup h)))
  · unfold start
    show _ = N.length
    rw [List.length_append, List.length_map, List.length_replicate]
    omega
theorem fn_of {CX : CXT} {P : Program} {w : World} {K : PySem.W.Frag} {mg : Str → Option Value} {base : Heap} {k : Nat} {f : Addr} {name qual : Str} {params : Arguments} {body : List Stmt} {scope : Scope} {dV kV doc pm cdv ct oc : Value} {an od : Option Addr}
    {osl : Array (Option Value)} {N ps : List Str} {sp : Sp} (lk : K.lookup f = some ⟨oc, od, .func (PySem.W.fnOf name qual params body scope dV kV doc pm an cdv ct), osl⟩) (hcd : PySem.W.codeIn K cdv qual = true) (S : FnScope N ps scope)
    (len : ∀ vs H Q E, sp vs H Q E → vs.length = ps.length)
    (hbody : ∀ (A : Around) (outer : List Env) (s : Shared) (H : Hp) (vs : List V) (Q : VK) (E : XK), Room k (A.deeper (envOfC qual scope s.heap.objs.size f cdv)) → sp vs H Q E →
      ∃ t, PSs (cxOf CX P w K mg base N qual scope f cdv A outer s H E) body t ∧ t { nx := fun _ H' => Q .non H', rt := Q } (start N vs) H) :
    FnOk P w K mg base CX (k + 1) f (PySem.W.fnOf name qual params body scope dV kV doc pm an cdv ct) ps sp := by
  refine ⟨len, fun A outer s H args us vs Q E hr e0 hb r hsp => ?_⟩
  have hl := len _ _ _ _ hsp
  have KX : K.In s.heap := e0.mod.kin.keeps fun b o e => (e0.bs b o e).1
  have lim : s.heap.NoLimit := e0.mod.nolimit.keeps fun b o e => (e0.bs b o e).1
  have hkind : ∀ y ∈ ps.zip us, scope.names.lookup y.1 = some .local ∨ (scope.names.lookup y.1 = some .cell ∧ ((cellsFrom (s.heap.objs.size + 1) scope.names []).lookup y.1).isSome = true) := fun ⟨n, v⟩ hy => by
    rcases S.par n (List.of_mem_zip hy).1 with q | q
    · exact .inl q
    · exact .inr ⟨q, PySem.W.cellsFrom_some _ _ _ (.inl q)⟩
  refine codeAny_call_function hr.depth (KX _ _ lk) rfl S.co S.gen rfl (PySem.W.codeRec_of KX hcd) (hb _ _ _ _ ?_)
  refine wpAny_newFunctionEnv_cells S.kind hkind fun env he s1 x => ?_
  subst he
  refine ⟨lim.keeps x.toInCall.keep, codeAny_func ?_⟩
  obtain ⟨t, ht, hq⟩ := hbody A outer s H vs Q E (hr.deeper _) hsp
  have I : Inv (cxOf CX P w K mg base N qual scope f cdv A outer s H E) [] (start N vs) H s1 := inv_start S hr.hd e0 hl r x
  refine wpAny_mono (ht [] s1 (start N vs) H _ I hq) (fun fl s' hs => ?_) fun e s' hs => hs
  have fin : ∀ {σ' : St} {H' : Hp} {v : V} {u : Value}, Inv (cxOf CX P w K mg base N qual scope f cdv A outer s H E) [] σ' H' s' → RelV v u → Q v H' → CE outer P w H s Q u s' :=
    fun {σ' H' v u} J rv q => ⟨v, H', J.os, J.bare, J.base, J.hok, rv, q⟩
  cases fl with
  | ret u =>
    obtain ⟨v, σ', H', J, rv, q⟩ := hs
    exact fin J rv q
  | next =>
    obtain ⟨σ', H', J, q⟩ := hs
    exact fin (v := V.non) (u := Value.none) J rfl q
  | brk =>
    obtain ⟨_, _, _, q⟩ := hs
    exact False.elim q
  | cont =>
    obtain ⟨_, _, _, q⟩ := hs
    exact False.elim q
end L2
namespace L2
open PySem PySem.Spec PyProof.Rows
section
variable {X : Cx} {x : Str} {p pos : Pos} {e : Expr} {es : List Expr} {t : TA} {id T : String} {r : List V → Hp → VK → Prop}
def tCB (r : List V → Hp → VK → Prop) (t : TA) : TE := fun σ H Q => t σ H fun vs H1 => r vs H1 Q
theorem pe_callB (hc : CallR X (.builtin id) r) (hg : Gl X x) (hm : X.mg x = none) (hv : bootBuiltins x = some (.builtin id)) (ha : PA X (e :: es) t) (hn : x ≠ "__name__" := by decide) (hdb : (x == ("__debug__" : Str)) = false := by decide)
    (he : starEach (e :: es) X.env = (false, eval e X.env) :: starEach es X.env := by rfl) (hpl : (backTo pos (starEach es X.env)).any (·.1) = false := by rfl) : PE X (.Call (.Name x p) (e :: es) [] pos) (tCB r t) := by
  intro pins s σ H Q I h
  refine wpAny_Call_Name_kw (ld_blt I hg hm hv ?_ hn hdb)
  exact PyProof.Rows.callWith_builtin1 (thn (ha pos pins s σ H _ I h) fun us s1 ⟨vs, H1, I1, r1, q1⟩ => hc pins s1 σ H1 vs us Q I1 r1 q1) he hpl
theorem pe_callTy (hc : CallR X (.type T) r) (hg : Gl X x) (hm : X.mg x = none) (hv : bootBuiltins x = some (.type T)) (ha : PA X (e :: es) t) (hn : x ≠ "__name__" := by decide) (hdb : (x == ("__debug__" : Str)) = false := by decide)
    (he : starEach (e :: es) X.env = (false, eval e X.env) :: starEach es X.env := by rfl) (hpl : (backTo pos (starEach es X.env)).any (·.1) = false := by rfl) : PE X (.Call (.Name x p) (e :: es) [] pos) (tCB r t) := by
  intro pins s σ H Q I h
  refine wpAny_Call_Name_kw (ld_blt I hg hm hv ?_ hn hdb)
  exact PyProof.Rows.callWith_type1 (thn (ha pos pins s σ H _ I h) fun us s1 ⟨vs, H1, I1, r1, q1⟩ => hc pins s1 σ H1 vs us Q I1 r1 q1) he hpl
end
end L2
namespace HT
open PySem PyProof.Rows
section
open PySem.SeqAt
open PySem.AutoSeq1 (wpAny_loadPart')
open PySem.MeetsSeq PySem.MeetsSeq2 PySem.MeetsSeq3
end
section
variable {prog : Program} {w : World} {A : Around} {E : Value → Shared → Prop} {s : Shared}
def sIx (n d : Nat) : Option Int → Nat
  | none => d
  | some v => if v < 0 then (v + (n : Int)).toNat else min v.toNat n
theorem sIx_none (n d : Nat) : sIx n d none = d := rfl
theorem sIx_nat (n d k : Nat) : sIx n d (some (k : Int)) = min k n := by
  show (if (k : Int) < 0 then ((k : Int) + (n : Int)).toNat else min (k : Int).toNat n) = min k n
  rw [if_neg (by omega), Int.toNat_natCast]
theorem sIx_le (n d : Nat) (hd : d ≤ n) (o : Option Int) : sIx n d o ≤ n := by
  cases o with
  | none => exact hd
  | some v =>
    show (if v < 0 then (v + (n : Int)).toNat else min v.toNat n) ≤ n
    by_cases hv : v < 0
    · rw [if_pos hv]; omega
    · rw [if_neg hv]; exact Nat.min_le_right _ _
theorem clip_eq (v : Int) (n d : Nat) : (if v < 0 then max (v + (n : Int)) 0 else min v (n : Int)) = ((sIx n d (some v) : Nat) : Int) := by
  show (if v < 0 then max (v + (n : Int)) 0 else min v (n : Int)) = (((if v < 0 then (v + (n : Int)).toNat else min v.toNat n) : Nat) : Int)
  by_cases hv : v < 0
  · simp only [if_pos hv]; omega
  · simp only [if_neg hv]; omega
theorem adjust_gen (lo hi : Option Int) (n : Nat) : Builtin.Slice.sliceAdjust lo hi 1 (n : Int) = (((sIx n 0 lo : Nat) : Int), ((sIx n n hi : Nat) : Int)) := by
  have h1 : ¬ ((1 : Int) < 0) := by omega
  unfold Builtin.Slice.sliceAdjust
  simp only [h1, if_false]
  refine Prod.ext ?_ ?_
  · cases lo with
    | none => rfl
    | some v => exact clip_eq v n 0
  · cases hi with
    | none => rfl
    | some v => exact clip_eq v n n
theorem places_gen (i j : Nat) : Builtin.Slice.slicePlaces (i : Int) (j : Int) 1 = j - i := by
  unfold Builtin.Slice.slicePlaces
  have h1 : (1 : Int) > 0 := by omega
  simp only [h1, if_true, Int.ediv_one]
  split <;> omega
theorem slicePart_ {v : Value} {o : Option Int} {Q : Option Int → Shared → Prop} (p : IsPart v o) (h : Q o s) : wpAny (model prog w) A (Builtin.Slice.slicePartIndex v) Q E s := by
  cases p with
  | none => exact slicePart_none h
  | int i t => exact slicePart_int h
theorem sliceApplied_gen {sl : Addr} {vl vu : Value} {lo hi : Option Int} {n : Nat} {Q : Int × Int × Nat → Shared → Prop} (hs : s.heap.IsSliceOf sl vl vu .none) (pl : IsPart vl lo) (pu : IsPart vu hi)
    (h : Q (((sIx n 0 lo : Nat) : Int), 1, sIx n n hi - sIx n 0 lo) s) : wpAny (model prog w) A (Builtin.Slice.sliceApplied (.ref sl) (pure (n : Int))) Q E s := by
  obtain ⟨os, hos, hcs, hds⟩ := id hs
  unfold Builtin.Slice.sliceApplied Builtin.Slice.sliceFields
  refine wpAny_bind (wpAny_bind (wpAny_field hos hds (x := vl) rfl (wpAny_bind (wpAny_field hos hds (x := vu) rfl (wpAny_bind (wpAny_field hos hds (x := .none) rfl (wpAny_pure ?_)))))))
  refine wpAny_bind (slicePart_none ?_)
  show wpAny _ _ (if ((1 : Int) == 0) = true then _ else _) _ _ s
  rw [if_neg (by decide)]
  refine wpAny_bind (slicePart_ pl (wpAny_bind (slicePart_ pu (wpAny_bind (wpAny_pure ?_)))))
  show wpAny _ _ (match Builtin.Slice.sliceAdjust lo hi 1 (n : Int) with | (lo, hi) => pure (lo, (1 : Int), Builtin.Slice.slicePlaces lo hi 1)) _ _ s
  rw [adjust_gen lo hi n]
  show wpAny _ _ (pure (((sIx n 0 lo : Nat) : Int), (1 : Int), Builtin.Slice.slicePlaces ((sIx n 0 lo : Nat) : Int) ((sIx n n hi : Nat) : Int) 1)) _ _ s
  rw [places_gen]
  exact wpAny_pure h
theorem pick_gen (xs : Array Value) (i k : Nat) : ((List.range k).filterMap fun (m : Nat) => xs[((i : Int) + (m : Int) * 1).toNat]?).toArray = ((xs.toList.drop i).take k).toArray := by
  have e : (fun (m : Nat) => xs[((i : Int) + (m : Int) * 1).toNat]?) = fun m => xs[i + m]? := by
    funext m
    have : ((i : Int) + (m : Int) * 1).toNat = i + m := by omega
    rw [this]
  rw [e]
  have := pick_run xs i k
  rw [List.filterMap_map] at this
  have e2 : ((fun x => xs[x]?) ∘ fun x => i + x) = fun m => xs[i + m]? := rfl
  rw [e2] at this
  rw [this]
theorem getItem_tuple_cut {t sl : Addr} {items : Array Value} {vl vu : Value} {lo hi : Option Int} {Q : Value → Shared → Prop} (ht : IsTup s.heap t items) (hs : s.heap.IsSliceOf sl vl vu .none) (pl : IsPart vl lo) (pu : IsPart vu hi)
    (hw : ¬ (sIx items.size 0 lo = 0 ∧ sIx items.size items.size hi = items.size))
    (h : Q (.ref s.heap.objs.size) { s with heap := s.heap.push { cls := .type "tuple", data := .seq ((items.toList.drop (sIx items.size 0 lo)).take (sIx items.size items.size hi - sIx items.size 0 lo)).toArray } })
    (hsz : items.size ≤ sizeLine) : wpAny (model prog w) A (getItem (.ref t) (.ref sl)) Q E s := by
  have htake : sizeOk (.seq ((items.toList.drop (sIx items.size 0 lo)).take (sIx items.size items.size hi - sIx items.size 0 lo)).toArray) := by
    show ((items.toList.drop (sIx items.size 0 lo)).take (sIx items.size items.size hi - sIx items.size 0 lo)).toArray.size ≤ sizeLine
    rw [List.size_toArray, List.length_take, List.length_drop, Array.length_toList]
    omega
  have hj : sIx items.size items.size hi ≤ items.size := sIx_le _ _ (Nat.le_refl _) hi
  obtain ⟨os, hos, hcs, hds⟩ := id hs
  have hTs : s.TypeIs (.ref sl) "slice" := ⟨os, hos, hcs⟩
  unfold getItem
  try with_reducible refine wpAny_holding ?_
  first | refine wpAny_bind (wpAny_pure ?_) | skip
  refine wpAny_bind (wpAny_sequenceKey ht.typeIs (by decide) ?_)
  refine wpAny_bind (wpAny_callSpecial?_slot (name := Str.ofString "__getitem__") ht.typeIs PyProof.Rows.slot_tuple_getitem
    (wpAny_call_entry PyProof.Rows.slot_tuple_getitem ht.typeIs entry_tuple_getitem ?_ (args_tuple_getitem _ _)))
  show wpAny _ _ (Builtin.Tuple.tupleItemsOf (.ref t) >>= _) _ _ s
  refine wpAny_bind (tupleItemsOf_ ht ?_)
  refine wpAny_bind (wpAny_typeOf hTs ?_)
  rw [if_pos (by decide)]
  refine wpAny_bind (sliceApplied_gen hs pl pu ?_)
  have hno : ¬ ((((sIx items.size 0 lo : Nat) : Int) == 0 && (1 : Int) == 1 && (sIx items.size items.size hi - sIx items.size 0 lo) == items.size) = true) := by
    intro q
    rw [Bool.and_eq_true, Bool.and_eq_true] at q
    have q1 : ((sIx items.size 0 lo : Nat) : Int) = 0 := eq_of_beq q.1.1
    have q2 : sIx items.size items.size hi - sIx items.size 0 lo = items.size := eq_of_beq q.2
    exact hw ⟨by omega, by omega⟩
  show wpAny _ _ (if (((sIx items.size 0 lo : Nat) : Int) == 0 && (1 : Int) == 1 && (sIx items.size items.size hi - sIx items.size 0 lo) == items.size) = true then _ else _) _ _ s
  rw [if_neg hno, pick_gen]
  first
    | exact wpAny_bind (m := Builtin.Tuple.tupleExact _) (wpAny_newObj_type (wpAny_pure ⟨_, rfl, wpAny_pure h⟩) htake)
    | exact wpAny_bind (m := Builtin.Tuple.tupleExact _) (wpAny_newObj_type (wpAny_bind (wpAny_pure (wpAny_pure ⟨_, rfl, wpAny_pure h⟩))) htake)
    | exact wpAny_bind (wpAny_bind (m := Builtin.Tuple.tupleExact _) (wpAny_newObj_type (wpAny_pure (wpAny_pure ⟨_, rfl, wpAny_pure h⟩)) htake))
    | exact wpAny_bind (wpAny_bind (m := Builtin.Tuple.tupleExact _) (wpAny_newObj_type (wpAny_pure ⟨_, rfl, wpAny_pure h⟩) htake))
end
end HT
namespace L2
open PySem PySem.Spec PyProof.Rows
abbrev TO := St → Hp → (Option Int → Hp → Prop) → Prop
def PO (X : Cx) (e : Option Expr) (t : TO) : Prop :=
  ∀ (pins : List (Addr × Obj)) (s : Shared) (σ : St) (H : Hp) (Q : Option Int → Hp → Prop), Inv X pins σ H s → t σ H Q →
    wpAny (model X.prog X.w) X.A (evalPart e X.env) (fun u s' => ∃ o H', Inv X pins σ H' s' ∧ IsPart u o ∧ Q o H') X.xe s
def tNoPart : TO := fun _ H Q => Q none H
def tPart (t : TE) : TO := fun σ H Q => t σ H fun x H1 => ∃ i, x = .int i ∧ Q (some i) H1
section
variable {X : Cx} {e : Expr} {te : TE} {lo hi : Option Expr} {tl th : TO} {pos p2 : Pos}
theorem po_none : PO X none tNoPart := by
  intro pins s σ H Q I h
  rw [evalPart_none]
  exact wpAny_pure ⟨none, H, I, .none, h⟩
theorem po_some (h : PE X e te) : PO X (some e) (tPart te) := by
  intro pins s σ H Q I hw
  rw [evalPart_some]
  refine thn (h pins s σ H _ I hw) fun u s1 ⟨x, H1, I1, r1, q1⟩ => ?_
  obtain ⟨i, rfl, q⟩ := q1
  obtain ⟨t, rfl⟩ := r1
  exact ⟨some i, H1, I1, .int i t, q⟩
def SlR (X : Cx) (r : V → Option Int → Option Int → Hp → VK → Prop) : Prop :=
  ∀ (pins : List (Addr × Obj)) (s : Shared) (σ : St) (H : Hp) (x : V) (v vl vu : Value) (lo hi : Option Int) (sl : Addr) (Q : VK), Inv X pins σ H s → RelV x v → s.heap.IsSliceOf sl vl vu .none → IsPart vl lo → IsPart vu hi → r x lo hi H Q →
    ∃ T id, typeLookup (.type T) "__getitem__" = pure (some (.builtin id)) ∧ s.TypeIs v T ∧ wpAny (model X.prog X.w) X.A (getItem v (.ref sl)) (EP X pins σ Q) X.xe s
theorem SlR.or {r r' : V → Option Int → Option Int → Hp → VK → Prop} (h : SlR X r) (h' : SlR X r') : SlR X (fun x lo hi H Q => r x lo hi H Q ∨ r' x lo hi H Q) := by
  intro pins s σ H x v vl vu lo hi sl Q I rx hs pl pu q
  rcases q with q | q
  · exact h pins s σ H x v vl vu lo hi sl Q I rx hs pl pu q
  · exact h' pins s σ H x v vl vu lo hi sl Q I rx hs pl pu q
def tSl (r : V → Option Int → Option Int → Hp → VK → Prop) (te : TE) (tl th : TO) : TE := fun σ H Q => te σ H fun x H1 => tl σ H1 fun l H2 => th σ H2 fun u H3 => r x l u H3 Q
theorem pe_slice {r : V → Option Int → Option Int → Hp → VK → Prop} (hr : SlR X r) (he : PE X e te) (hl : PO X lo tl) (hu : PO X hi th) : PE X (.Subscript e (.Slice lo hi none p2) pos) (tSl r te tl th) := by
  intro pins s σ H Q I h
  refine Subscript_ (thn (he pins s σ H _ I h) fun v s1 ⟨x, H1, I1, r1, q1⟩ => ?_)
  refine wpAny_Slice (thn (hl pins s1 σ H1 _ I1 q1) fun vl s2 ⟨l, H2, I2, pl, q2⟩ => thn (hu pins s2 σ H2 _ I2 q2) fun vu s3 ⟨u, H3, I3, pu, q3⟩ => ?_)
  rw [evalPart_none]
  refine wpAny_pure ?_
  have I4 : Inv X pins σ H3 { s3 with heap := s3.heap.push { cls := .type "slice", data := .fields #[vl, vu, .none] } } := I3.kept (t' := s3.toks) fun b ob q => Heap.get?_push_of_some _ q
  obtain ⟨T, id, hT, ht, hg⟩ := hr pins { s3 with heap := s3.heap.push { cls := .type "slice", data := .fields #[vl, vu, .none] } } σ H3 x v vl vu l u s3.heap.objs.size Q I4 r1 (Heap.IsSliceOf.new ..) pl pu q3
  show wpAny (model X.prog X.w) X.A (subscriptTail e (.Slice lo hi none p2) v (.ref s3.heap.objs.size)) (EP X pins σ Q) X.xe { s3 with heap := s3.heap.push { cls := .type "slice", data := .fields #[vl, vu, .none] } }
  exact tail_any (ops := [.ref s3.heap.objs.size, v]) ht hT hg (by with_unfolding_all rfl)
def cutV (xs : List V) (lo hi : Option Int) : List V := (xs.drop (HT.sIx xs.length 0 lo)).take (HT.sIx xs.length xs.length hi - HT.sIx xs.length 0 lo)
theorem cutV_length (xs : List V) (lo hi : Option Int) : (cutV xs lo hi).length ≤ xs.length := by
  unfold cutV
  rw [List.length_take, List.length_drop]
  omega
def rSlT (K : PySem.W.Frag) : V → Option Int → Option Int → Hp → VK → Prop := fun x lo hi H Q => ∃ a xs, x = .ref a ∧ SqT K H a xs ∧
  ¬ (HT.sIx xs.length 0 lo = 0 ∧ HT.sIx xs.length xs.length hi = xs.length) ∧ ∀ p, H p = none → Q (.ref p) (upd H p (.tup (cutV xs lo hi)))
theorem sl_tup : SlR X (rSlT X.K) := by
  intro pins s σ H x v vl vu lo hi sl Q I rx hs pl pu h
  obtain ⟨a, xs, rfl, hx, hw, q⟩ := h
  cases rx
  obtain ⟨its, r, ht, hz⟩ := I.tuple hx
  have hlen : its.toArray.size = xs.length := by rw [List.size_toArray]; exact r.length.symm
  refine ⟨"tuple", _, PyProof.Rows.slot_tuple_getitem.lookup, ht.typeIs, ?_⟩
  refine HT.getItem_tuple_cut ht hs pl pu (by rw [hlen]; exact hw) ?_ (by rw [hlen]; exact hz)
  rw [hlen]
  refine ⟨.ref s.heap.objs.size, _, I.laid (t' := s.toks) (o := .tup (cutV xs lo hi)) (fun b ob q => Heap.get?_push_of_some _ q) (Nat.le_refl _) ?_, rfl, q _ (I.hok.fresh (Nat.le_refl _))⟩
  exact ⟨Nat.le_trans (cutV_length xs lo hi) hz, _, (r.drop (HT.sIx xs.length 0 lo)).take (HT.sIx xs.length xs.length hi - HT.sIx xs.length 0 lo), IsTup.new _ _⟩
end
end L2
namespace L2
open PySem PySem.Spec PyProof.Rows
def ixN (n : Nat) (i : Int) : Option Nat := if 0 ≤ i then (if i < n then some i.toNat else none) else if -(n : Int) ≤ i then some (i + n).toNat else none
def atI {α : Type} (xs : List α) (i : Int) : Option α := (ixN xs.length i).bind fun j => xs[j]?
theorem ixN_seq {n : Nat} {i : Int} {j : Nat} (h : ixN n i = some j) : seqIndex? i n = some j ∧ j < n ∧ -(n : Int) ≤ i ∧ i < n := by
  unfold ixN at h
  by_cases h0 : 0 ≤ i
  · rw [if_pos h0] at h
    by_cases h1 : i < n
    · rw [if_pos h1] at h
      have e : i.toNat = j := Option.some.inj h
      exact ⟨by rw [seqIndex_of h0 h1, e], by omega, by omega, h1⟩
    · rw [if_neg h1] at h; cases h
  · rw [if_neg h0] at h
    by_cases h1 : -(n : Int) ≤ i
    · rw [if_pos h1] at h
      have e : (i + n).toNat = j := Option.some.inj h
      exact ⟨by rw [seqIndex_neg (by omega) h1, e], by omega, h1, by omega⟩
    · rw [if_neg h1] at h; cases h
theorem atI_get {α : Type} {xs : List α} {i : Int} {v : α} (h : atI xs i = some v) : ∃ j, seqIndex? i xs.length = some j ∧ xs[j]? = some v ∧ j < xs.length ∧ -(xs.length : Int) ≤ i ∧ i < xs.length := by
  unfold atI at h
  cases e : ixN xs.length i with
  | none => rw [e] at h; cases h
  | some j =>
    rw [e] at h
    obtain ⟨h1, h2, h3, h4⟩ := ixN_seq e
    exact ⟨j, h1, h, h2, h3, h4⟩
theorem atI_nat {α : Type} {xs : List α} {j : Nat} {v : α} (h : xs[j]? = some v) : atI xs (j : Int) = some v := by
  have hj : j < xs.length := (List.getElem?_eq_some_iff.mp h).1
  have e : ixN xs.length (j : Int) = some j := by
    unfold ixN
    rw [if_pos (by omega), if_pos (by omega)]; simp
  unfold atI; rw [e]; exact h
def PlainIx (b : Expr) : Prop := ∀ o i, subscripted b false o i = operate [o, i] (getItem o i)
def IxR (X : Cx) (r : R2) : Prop :=
  ∀ (value slice : Expr) (pins : List (Addr × Obj)) (s : Shared) (σ : St) (H : Hp) (x y : V) (v u : Value) (Q : VK), Inv X pins σ H s → RelV x v → RelV y u → r x y H Q →
    subscripted slice false v u = operate [v, u] (getItem v u) → wpAny (model X.prog X.w) X.A (subscriptTail value slice v u) (EP X pins σ Q) X.xe s
def MtR (X : Cx) (id : String) (r : V → List V → Hp → VK → Prop) : Prop :=
  ∀ (pins : List (Addr × Obj)) (s : Shared) (σ : St) (H : Hp) (x : V) (xs : List V) (v : Value) (us : List Value) (Q : VK), Inv X pins σ H s → RelV x v → Vals xs us → r x xs H Q →
    wpAny (model X.prog X.w) X.A (call (.builtin id) (v :: us)) (EP X pins σ Q) X.xe s
section
variable {X : Cx} {a b : Expr} {ta tb : TE} {pos : Pos}
theorem IxR.or {r r' : R2} (h : IxR X r) (h' : IxR X r') : IxR X (fun x y H Q => r x y H Q ∨ r' x y H Q) := by
  intro value slice pins s σ H x y v u Q I rx ry q hs
  rcases q with q | q
  · exact h value slice pins s σ H x y v u Q I rx ry q hs
  · exact h' value slice pins s σ H x y v u Q I rx ry q hs
theorem pe_ix {r : R2} (hr : IxR X r) (ha : PE X a ta) (hb : PE X b tb) (hs : PlainIx b) : PE X (.Subscript a b pos) (tOp r ta tb) := by
  intro pins s σ H Q I h
  exact Subscript_ (binT ha hb I h fun v u s2 x y H2 I2 rx ry q => hr a b pins s2 σ H2 x y v u Q I2 rx ry q (hs _ _))
def rIxL (K : PySem.W.Frag) : R2 := fun x y H Q => ∃ p xs i v, x = .ref p ∧ y = .int i ∧ SqL K H p xs ∧ atI xs i = some v ∧ Q v H
def rIxT (K : PySem.W.Frag) : R2 := fun x y H Q => ∃ p xs i v, x = .ref p ∧ y = .int i ∧ SqT K H p xs ∧ atI xs i = some v ∧ Q v H
def rIxS : R2 := fun x y H Q => ∃ z i c, x = .str z ∧ y = .int i ∧ z.length ≤ sizeLine ∧ atI z.cps.toList i = some c ∧ Q (.str ⟨#[c]⟩) H
theorem ix_list : IxR X (rIxL X.K) := by
  intro value slice pins s σ H x y v u Q I rx ry h hs
  obtain ⟨p, xs, i, z, rfl, rfl, hq, he, q⟩ := h
  cases rx
  obtain ⟨t, rfl⟩ := ry
  obtain ⟨its, r, pl, hz⟩ := I.list hq
  obtain ⟨j, h1, h2, h3, h4, h5⟩ := atI_get he
  obtain ⟨w, ew, rw'⟩ := r.get h2
  have hl := r.length
  have hn := line63
  have fin : EP X pins σ Q w s := ⟨z, H, I, rw', q⟩
  by_cases h0 : 0 ≤ i
  · have hj : i.toNat = j := by
      rw [seqIndex_of h0 h5] at h1
      exact Option.some.inj h1
    exact item_listR pl.isList h0 (by omega) (by rw [hj]; simpa using ew) fin hs
  · have hj : (i + (its.toArray.size : Int)).toNat = j := by
      rw [seqIndex_neg (by omega) h4] at h1
      rw [List.size_toArray, ← hl]
      exact Option.some.inj h1
    exact subscriptTail_builtinR (x := w) pl.isList.typeIs slot_list_getitem.lookup
      (wpAny_getItem_list_neg (Q := fun r s' => r = w ∧ EP X pins σ Q r s') pl.isList (by omega) (by rw [List.size_toArray] <;> omega) (by omega) (by rw [hj]; simpa using ew) ⟨rfl, fin⟩) hs
theorem ix_tup : IxR X (rIxT X.K) := by
  intro value slice pins s σ H x y v u Q I rx ry h hs
  obtain ⟨p, xs, i, z, rfl, rfl, hq, he, q⟩ := h
  cases rx
  obtain ⟨t, rfl⟩ := ry
  obtain ⟨its, r, pl, hz⟩ := I.tuple hq
  obtain ⟨j, h1, h2, h3, h4, h5⟩ := atI_get he
  obtain ⟨w, ew, rw'⟩ := r.get h2
  have hl := r.length
  have hn := line63
  have fin : EP X pins σ Q w s := ⟨z, H, I, rw', q⟩
  exact subscriptTail_builtinR (x := w) pl.typeIs slot_tuple_getitem.lookup
    (getItem_tuple (j := j) (Q := fun r s' => r = w ∧ EP X pins σ Q r s') pl (by omega) (by omega) (by rw [List.size_toArray, ← hl]; exact h1) (by simpa using ew) ⟨rfl, fin⟩) hs
theorem ix_str : IxR X rIxS := by
  intro value slice pins s σ H x y v u Q I rx ry h hs
  obtain ⟨z, i, c, rfl, rfl, hz, he, q⟩ := h
  obtain ⟨t, rfl⟩ := rx
  obtain ⟨t', rfl⟩ := ry
  obtain ⟨j, h1, h2, h3, h4, h5⟩ := atI_get he
  have hl : z.cps.toList.length = z.length := by simp [Str.length]
  rw [hl] at h1 h4 h5
  have hn := line63
  exact tail_any (typeIs_str s z t) slot_str_getitem.lookup (getItem_str (c := c) (by
    have e1 : decide (i < -(2 ^ 63 : Int)) = false := decide_eq_false (by omega)
    have e2 : decide (i ≥ 2 ^ 63) = false := decide_eq_false (by omega)
    rw [e1, e2, Bool.or_false]) (by rw [h1]; simpa using h2) ⟨.str ⟨#[c]⟩, H, I.tok _, ⟨_, rfl⟩, q⟩) hs
def rIx (K : PySem.W.Frag) : R2 := fun x y H Q => rIxL K x y H Q ∨ rIxT K x y H Q ∨ rIxS x y H Q
theorem ix_seq : IxR X (rIx X.K) := ix_list.or (ix_tup.or ix_str)
theorem mapSeq_set (its : List Value) (n j : Nat) (u : Value) : Obj.mapSeq (·.setIfInBounds j u) { cls := .type "list", data := .seq its.toArray n } = { cls := .type "list", data := .seq (its.set j u).toArray n } := by
  simp [Obj.mapSeq]
theorem Inv.lst {pins : List (Addr × Obj)} {σ : St} {H : Hp} {s : Shared} {p : Addr} {xs : List V} (I : Inv X pins σ H s) (h : H p = some (.lst xs)) :
    ∃ (its : List Value) (n : Nat), Vals xs its ∧ s.heap.get? p = some { cls := .type "list", data := .seq its.toArray n } ∧ xs.length ≤ sizeLine := by
  obtain ⟨z, its, n, r, e⟩ := I.hok p _ h
  exact ⟨its, n, r, e, z⟩
theorem Inv.lstUpd {pins : List (Addr × Obj)} {σ : St} {H : Hp} {s : Shared} {p : Addr} {xs ys : List V} {its its' : List Value} {n n' : Nat} {f : Obj → Obj} (I : Inv X pins σ H s) (h : H p = some (.lst xs))
    (ho : s.heap.get? p = some { cls := .type "list", data := .seq its.toArray n }) (hf : f { cls := .type "list", data := .seq its.toArray n } = { cls := .type "list", data := .seq its'.toArray n' }) (r : Vals ys its') (hz : ys.length ≤ sizeLine) (t : Nat) :
    Inv X pins σ (upd H p (.lst ys)) { s with heap := s.heap.update p f, toks := t } := by
  have e : (s.heap.update p f).get? p = some { cls := .type "list", data := .seq its'.toArray n' } := by
    rw [Heap.get?_update_self f ho (by rw [hf] <;> rfl), hf]
  refine I.write (x := p) (e := p) (by rw [h]; trivial) (.inl rfl) (fun b u hb q => (Heap.get?_update_other _ _ (Ne.symm hb)).trans q) ⟨_, e⟩ ?_
  exact ⟨hz, its', n', r, e⟩
def rSetL : V → V → V → Hp → (Hp → Prop) → Prop := fun o i v H Q => ∃ p xs k j, o = .ref p ∧ i = .int k ∧ H p = some (.lst xs) ∧ ixN xs.length k = some j ∧ Q (upd H p (.lst (xs.set j v)))
theorem set_list : PSet X rSetL := by
  intro pins s σ H o i v ov iv u Q I ro ri rv h
  obtain ⟨p, xs, k, j, rfl, rfl, hp, hj, q⟩ := h
  cases ro
  obtain ⟨t, rfl⟩ := ri
  obtain ⟨its, n, r, ho, hz⟩ := I.lst hp
  obtain ⟨h1, h2, h3, h4⟩ := ixN_seq hj
  have hl := r.length
  have hn := line63
  have I' : Inv X pins σ (upd H p (.lst (xs.set j v))) { s with heap := s.heap.update p (Obj.mapSeq (·.setIfInBounds j u)) } :=
    I.lstUpd hp ho (mapSeq_set its n j u) (r.set rv j) (by rw [List.length_set]; exact hz) s.toks
  by_cases h0 : 0 ≤ k
  · have hk : k.toNat = j := by
      rw [seqIndex_of h0 h4] at h1
      exact Option.some.inj h1
    exact PySem.W.ki_setAt ho h0 (by omega) (by rw [List.size_toArray, ← hl]; exact h4) (by rw [hk]; exact ⟨_, I', q⟩)
  · have hk : (k + (its.toArray.size : Int)).toNat = j := by
      rw [seqIndex_neg (by omega) h3] at h1
      rw [List.size_toArray, ← hl]
      exact Option.some.inj h1
    exact PySem.W.ki_setBack ho (by omega) (by rw [List.size_toArray, ← hl]; exact h3) (by omega) (by rw [hk]; exact ⟨_, I', q⟩)
theorem slice_bounds (lo hi : Option Int) (n : Nat) : (sliceBounds lo hi none n).1 = ((HT.sIx n 0 lo : Nat) : Int) ∧ (sliceBounds lo hi none n).2.1 = ((HT.sIx n n hi : Nat) : Int) ∧ (sliceBounds lo hi none n).2.2 = 1 := by
  refine ⟨?_, ?_, rfl⟩
  · cases lo with
    | none => simp [sliceBounds, HT.sIx]
    | some i =>
      simp only [sliceBounds, HT.sIx, Option.getD_none, show (1 : Int) > 0 by decide, if_true]
      by_cases h : i < 0
      · simp only [h, if_true] <;> omega
      · simp only [h, if_false] <;> omega
  · cases hi with
    | none => simp [sliceBounds, HT.sIx]
    | some i =>
      simp only [sliceBounds, HT.sIx, Option.getD_none, show (1 : Int) > 0 by decide, if_true]
      by_cases h : i < 0
      · simp only [h, if_true] <;> omega
      · simp only [h, if_false] <;> omega
theorem slicePick_cut (its : List Value) (lo hi : Option Int) : slicePick its.toArray lo hi none = ((its.drop (HT.sIx its.length 0 lo)).take (HT.sIx its.length its.length hi - HT.sIx its.length 0 lo)).toArray := by
  obtain ⟨h1, h2, h3⟩ := slice_bounds lo hi its.toArray.size
  unfold slicePick
  rw [h1, h2, h3]
  simp only [sliceRange_one, pick_run, List.size_toArray] <;> rfl
def rSlL (K : PySem.W.Frag) : V → Option Int → Option Int → Hp → VK → Prop := fun x lo hi H Q => ∃ a xs, x = .ref a ∧ SqL K H a xs ∧ ∀ p, H p = none → Q (.ref p) (upd H p (.lst (cutV xs lo hi)))
theorem sl_list : SlR X (rSlL X.K) := by
  intro pins s σ H x v vl vu lo hi sl Q I rx hs pl pu h
  obtain ⟨a, xs, rfl, hx, q⟩ := h
  cases rx
  obtain ⟨its, r, ht, hz⟩ := I.list hx
  have hlen := r.length
  refine ⟨"list", _, slot_list_getitem.lookup, ht.isList.typeIs, ?_⟩
  refine wpAny_getItem_list_slice ht.isList hs pl pu .none (by simp) ?_ (by rw [List.size_toArray] <;> omega)
  rw [slicePick_cut, ← hlen]
  refine ⟨.ref s.heap.objs.size, _, I.laid (t' := s.toks) (o := .lst (cutV xs lo hi)) (fun b ob q => Heap.get?_push_of_some _ q) (Nat.le_refl _) ?_, rfl, q _ (I.hok.fresh (Nat.le_refl _))⟩
  exact ⟨Nat.le_trans (cutV_length xs lo hi) hz, _, 0, (r.drop (HT.sIx xs.length 0 lo)).take (HT.sIx xs.length xs.length hi - HT.sIx xs.length 0 lo), Heap.get?_push_size _ rfl⟩
theorem call_len_seq : CallR X (.builtin "len") (fun xs H Q => ∃ p ys, xs = [.ref p] ∧ (SqL X.K H p ys ∨ SqT X.K H p ys) ∧ Q (.int ys.length) H) := by
  intro pins s σ H xs us Q I r h
  obtain ⟨p, ys, rfl, hq, q⟩ := h
  obtain ⟨u, rfl, rx⟩ := vals1 r
  cases rx
  have hn := line63
  rcases hq with hq | hq
  · obtain ⟨its, r', pl, hz⟩ := I.list hq
    have hlen := r'.length
    exact Calls.call_len_list pl.isList (by simp only [List.size_toArray] <;> omega) ⟨.int ys.length, H, I.tok _, ⟨s.toks + 1, by rw [List.size_toArray, hlen]⟩, q⟩
  · obtain ⟨its, r', pl, hz⟩ := I.tuple hq
    have hlen := r'.length
    exact len_tuple pl (by simp only [List.size_toArray] <;> omega) ⟨.int ys.length, H, I.tok _, ⟨s.toks + 1, by rw [List.size_toArray, hlen]⟩, q⟩
theorem call_tuple_of : CallR X (.type "tuple") (fun xs H Q => ∃ p ys, xs = [.ref p] ∧ ((SqL X.K H p ys ∧ ∀ l, H l = none → Q (.ref l) (upd H l (.tup ys))) ∨ (SqT X.K H p ys ∧ Q (.ref p) H))) := by
  intro pins s σ H xs us Q I r h
  obtain ⟨p, ys, rfl, h⟩ := h
  obtain ⟨u, rfl, rx⟩ := vals1 r
  cases rx
  rcases h with ⟨hq, q⟩ | ⟨hq, q⟩
  · obtain ⟨its, r', pl, hz⟩ := I.list hq
    have hlen := r'.length
    refine call_tuple_list pl.isList (fun h' kp => ?_) (by simp only [List.size_toArray] <;> omega)
    have I1 : Inv X pins σ H { s with heap := h' } := I.kept (t' := s.toks) kp
    have I2 : Inv X pins σ (upd H h'.objs.size (.tup ys)) { s with heap := h'.push { cls := .type "tuple", data := .seq its.toArray } } :=
      I1.laid (t' := s.toks) (fun b o e => Heap.get?_push_of_some _ e) (Nat.le_refl _) (show ObjOk X.prog X.w _ _ _ (.tup ys) from ⟨hz, its, r', IsTup.new _ _⟩)
    exact ⟨.ref h'.objs.size, _, I2, rfl, q _ (I1.hok.fresh (Nat.le_refl _))⟩
  · obtain ⟨its, r', pl, hz⟩ := I.tuple hq
    exact call_tuple_same pl ⟨.ref p, H, I, rfl, q⟩
def tyV (K : PySem.W.Frag) (T : String) (x : V) (H : Hp) : Prop := match x with
  | .str _ => T = "str"
  | .int _ => T = "int"
  | .ref p => (T = "list" ∧ ∃ xs, SqL K H p xs) ∨ (T = "tuple" ∧ ∃ o, K.lookup p = some o ∧ o.cls = .type "tuple" ∧ o.dict = none) ∨
      (T = "dict" ∧ ((∃ kvs, H p = some (.dK kvs)) ∨ ∃ kvs, H p = some (.dT kvs))) ∨ (T = "set" ∧ ∃ S n, H p = some (.set S n))
  | _ => False
theorem tyV_is {pins : List (Addr × Obj)} {σ : St} {H : Hp} {s : Shared} {T : String} {x : V} {v : Value} (I : Inv X pins σ H s) (r : RelV x v) (ty : tyV X.K T x H) :
    s.TypeIs v T ∧ ∀ a, v = .ref a → ∃ ob, s.heap.get? a = some ob ∧ ob.dict = none := by
  cases x with
  | str z =>
    obtain ⟨t, rfl⟩ := r
    cases (show T = "str" from ty)
    exact ⟨typeIs_str s z t, fun _ e => nomatch e⟩
  | int i =>
    obtain ⟨t, rfl⟩ := r
    cases (show T = "int" from ty)
    exact ⟨typeIs_int s i t, fun _ e => nomatch e⟩
  | ref p =>
    cases r
    rcases ty with ⟨rfl, xs, hq⟩ | ⟨rfl, o, hk, hc, hd⟩ | ⟨rfl, hk⟩ | ⟨rfl, S, n, hk⟩
    · obtain ⟨its, _, pl, _⟩ := I.list hq
      refine ⟨pl.isList.typeIs, fun a e => ?_⟩
      cases e
      obtain ⟨o, n, e, c, hd, _⟩ := pl
      exact ⟨o, e, hd⟩
    · refine ⟨⟨o, I.kIn p o hk, hc⟩, fun a e => ?_⟩
      cases e
      exact ⟨o, I.kIn _ o hk, hd⟩
    · have z : ∃ o, s.heap.get? p = some o ∧ o.ExactDict := by
        rcases hk with ⟨kvs, hk⟩ | ⟨kvs, hk⟩
        · obtain ⟨_, _, _, _, o, _, _, e, ex, _⟩ := I.hok p _ hk
          exact ⟨o, e, ex⟩
        · obtain ⟨_, _, _, _, o, _, _, e, ex, _⟩ := I.hok p _ hk
          exact ⟨o, e, ex⟩
      obtain ⟨o, e, ex⟩ := z
      refine ⟨⟨o, e, ex.1⟩, fun a e2 => ?_⟩
      cases e2
      exact ⟨o, e, ex.2.1⟩
    · obtain ⟨o, _, _, _, e, ex, _⟩ := I.hok p _ hk
      refine ⟨⟨o, e, ex.1⟩, fun a e2 => ?_⟩
      cases e2
      exact ⟨o, e, ex.2.1⟩
  | _ => exact False.elim ty
def tBM (K : PySem.W.Frag) (T : String) (r : V → List V → Hp → VK → Prop) (to : TE) (t : TA) : TE := fun σ H Q => to σ H fun x H1 => tyV K T x H1 ∧ t σ H1 fun xs H2 => r x xs H2 Q
variable {o e : Expr} {es : List Expr} {to : TE} {t : TA} {name : Str} {apos cpos : Pos} {T id : String} {r : V → List V → Hp → VK → Prop}
theorem pe_bm (pa : PlainAttrs T) (slot : Slot T name id) (hty : typeOf (.builtin id) = pure (.type "method_descriptor")) (hm : MtR X id r) (ho : PE X o to) (ha : PA X (e :: es) t)
    (hbase : attributeBase o name X.env (eval o X.env) = eval o X.env := by rfl)
    (hfew : ((backTo cpos (starEach (e :: es) X.env)).all (fun x => !x.1) && (backToKw cpos (keywordEach [] X.env)).all (fun x => x.1.isSome)
      && decide ((e :: es).length + ([] : List Keyword).length + (if ([] : List Keyword).isEmpty then 0 else 1) < 30)) = true := by rfl)
    (hline : (apos.endLine == cpos.line) = true := by rfl) (hs : starEach (e :: es) X.env = (false, eval e X.env) :: starEach es X.env := by rfl) (hplain : (backTo cpos (starEach es X.env)).any (·.1) = false := by rfl) :
    PE X (.Call (.Attribute o name apos) (e :: es) [] cpos) (tBM X.K T r to t) := by
  intro pins s σ H Q I h
  refine wpAny_Call_method_late hbase hfew hline rfl (thn (ho pins s σ H _ I h) fun v s1 ⟨x, H1, I1, r1, ty, q1⟩ => ?_)
  obtain ⟨h1, h2⟩ := tyV_is I1 r1 ty
  refine ⟨T, id, pa, slot, hty, h1, h2, ?_⟩
  have hA := ha cpos pins s1 σ H1 _ I1 q1
  rw [hs] at hA ⊢
  refine Calls.callWith_builtin (by show (false || (backTo cpos (starEach es X.env)).any (·.1)) = false; rw [hplain] <;> rfl) (Calls.evalArgs_plain ?_)
  exact thn hA fun us s2 ⟨vs, H2, I2, r2, q2⟩ => hm pins s2 σ H2 x vs v us Q I2 r1 r2 q2
/- xs.append(e), list.index on a module's tuple .. are MtR facts of 06m -/
end
end L2
namespace L2
open PySem PySem.Spec PyProof.Rows
def MtM (X : Cx) (id : String) (r : V → List V → Hp → VK → Prop) : Prop :=
  ∀ (pins : List (Addr × Obj)) (s : Shared) (σ : St) (H : Hp) (x : V) (xs : List V) (v : Value) (us : List Value) (Q : VK), Inv X pins σ H s → RelV x v → Vals xs us → r x xs H Q →
    wpAny (model X.prog X.w) X.A (call (.builtin id) (v :: us)) (EP X pins σ Q) X.xe s
theorem Vals.one : ∀ {x : V} {us : List Value}, Vals [x] us → ∃ u, us = [u] ∧ RelV x u
  | _, _, .cons r .nil => ⟨_, rfl, r⟩
section
variable {X : Cx} {pins : List (Addr × Obj)} {σ : St} {H : Hp} {s : Shared} {l b : Addr} {xs ys zs : List V}
theorem Inv.lset {its its' : List Value} {n : Nat} {f : Array Value → Array Value} {t' : Nat} (I : Inv X pins σ H s) (hH : H l = some (.lst xs))
    (e : s.heap.get? l = some { cls := .type "list", data := .seq its.toArray n }) (hf : f its.toArray = its'.toArray) (hv : Vals ys its') (hz : ys.length ≤ sizeLine) :
    Inv X pins σ (upd H l (.lst ys)) { s with heap := s.heap.update l (Obj.mapSeq f), toks := t' } := by
  have q := PySem.IsL.update e f
  rw [hf] at q
  refine I.write (x := l) (e := l) (by rw [hH]; exact trivial) (.inl rfl) (fun b' u hb hu => (Heap.get?_update_other s.heap (Obj.mapSeq f) (Ne.symm hb)).trans hu) ⟨_, q⟩ ?_
  exact ⟨hz, its', _, hv, q⟩
theorem Inv.lnew {its : List Value} {t' : Nat} (I : Inv X pins σ H s) (hv : Vals ys its) (hz : ys.length ≤ sizeLine) :
    Inv X pins σ (upd H s.heap.objs.size (.lst ys)) { s with heap := s.heap.push { cls := .type "list", data := .seq its.toArray }, toks := t' } :=
  I.laid (fun _ _ q => Heap.get?_push_of_some _ q) (Nat.le_refl _) ⟨hz, its, 0, hv, Heap.get?_push_size _ rfl⟩
theorem Inv.fresh (I : Inv X pins σ H s) : H s.heap.objs.size = none := I.hok.fresh (Nat.le_refl _)
theorem Inv.lstM (I : Inv X pins σ H s) (hH : H l = some (.lst xs)) : xs.length ≤ sizeLine ∧ ∃ (its : List Value) (n : Nat), Vals xs its ∧ xs.length = its.length ∧ s.heap.get? l = some { cls := .type "list", data := .seq its.toArray n } := by
  obtain ⟨z, its, n, r, e⟩ := I.hok l _ hH
  exact ⟨z, its, n, r, r.length, e⟩
end
section
variable {X : Cx}
def rAppend : V → List V → Hp → VK → Prop := fun x vs H Q => ∃ l xs y, x = .ref l ∧ vs = [y] ∧ H l = some (.lst xs) ∧ xs.length < sizeLine ∧ Q .non (upd H l (.lst (xs ++ [y])))
theorem mt_append : MtM X "list.append" rAppend := by
  intro pins s σ H x vs v us Q I rx rv h
  obtain ⟨l, xs, y, rfl, rfl, hH, hz, q⟩ := h
  cases rx
  obtain ⟨u, rfl, ru⟩ := rv.one
  obtain ⟨z, its, n, r, hl, e⟩ := I.lstM hH
  refine call_meets F.slot_list_append ⟨_, e, rfl⟩ F.entry_list_append (F.args_list_append_2 _ _) (PySem.list_append l its.toArray n u (by rw [List.size_toArray]; omega)) ⟨e, ?_⟩
  refine ⟨.non, _, I.lset (its' := its ++ [u]) hH e (by simp) (r.append (.cons ru .nil)) ?_, rfl, q⟩
  rw [List.length_append, List.length_singleton]
  omega
def rCat : R2 := fun x y H Q => ∃ l b xs zs, x = .ref l ∧ y = .ref b ∧ H l = some (.lst xs) ∧ H b = some (.lst zs) ∧ xs.length + zs.length ≤ sizeLine ∧ ∀ p, H p = none → Q (.ref p) (upd H p (.lst (xs ++ zs)))
theorem op_cat : OpR X (binaryOp .Add) rCat := by
  intro pins s σ H x y v u Q I rx ry h
  obtain ⟨l, b, xs, zs, rfl, rfl, hH, hB, hz, q⟩ := h
  cases rx
  cases ry
  obtain ⟨z, its, n, r, hl, e⟩ := I.lstM hH
  obtain ⟨z2, its2, n2, r2, hl2, e2⟩ := I.lstM hB
  refine PySem.P.add_list e e2 ?_ (by rw [List.size_toArray, List.size_toArray]; omega)
  have ea : its.toArray ++ its2.toArray = (its ++ its2).toArray := by simp
  rw [ea]
  exact ⟨.ref _, _, I.lnew (t' := s.toks) (r.append r2) (by rw [List.length_append]; omega), rfl, q _ I.fresh⟩
end
section
variable {prog : Program} {w : World} {A : Around} {E : Value → Shared → Prop} {s : Shared}
end
section
variable {X : Cx}
end
end L2
namespace Att
open PySem PySem.W PySem.Calls PyProof.Rows
theorem ints_of_wellAll {P : Params} {h : Heap} : ∀ (ns : List Int) (vs : List Value), WellAll P h vs (ns.map WData.int) → IntsAre vs ns := by
  intro ns
  induction ns with
  | nil =>
    intro vs w
    rw [List.map_nil] at w
    cases w
    exact .nil
  | cons n ns ih =>
    intro vs w
    rw [List.map_cons] at w
    cases w with
    | cons a b =>
      cases a
      exact .cons _ _ (ih _ b)
theorem script_of {l : OpenLaw} {n : Nat} (hn : l.most = some n) {P : Params} {h : Heap} {args : List WData} {vals : List Value}
    (hpre : l.row.toRowW.claim.pre args = true) (hwl : WellAll P h vals args) :
    ∃ a vs ns, vals = [Value.ref a] ∧ args = [WData.list (ns.map WData.int)] ∧ h.get? a = some { cls := .type "list", data := .seq vs.toArray } ∧ IntsAre vs ns ∧ ns.length ≤ n := by
  have hsh : WShape.hasAll [] args [.list .int] = true := (pre_splitW hpre).1
  have hc : l.pre.holds [] { args := args } = true := (pre_splitW hpre).2
  obtain ⟨d, r, rfl, h1, h2⟩ := hasAllW_cons hsh
  obtain rfl := hasAllW_nil h2
  obtain ⟨xs, rfl, h3⟩ := hasW_list h1
  obtain ⟨ns, rfl⟩ := items_int h3
  have hlen : ns.length ≤ n := by
    unfold OpenLaw.pre at hc
    have h4 : (WTm.not (.lt (.lit (.int (n : Int))) (.len (.arg 0)))).holds [] { args := [.list (ns.map .int)] } = true := by
      have h4 := (holds_andW hc).1
      rw [hn] at h4
      exact h4
    have h5 := condW_of h4 (w_not (w_lt w_lit (w_len_list (w_arg rfl))))
    rw [List.length_map] at h5
    refine Nat.le_of_not_lt fun q => ?_
    have q' : (n : Int) < ((ns.length : Nat) : Int) := by omega
    first
      | (rw [decide_eq_true q'] at h5; exact absurd h5 (by decide))
      | (simp at h5; omega)
  cases hwl with
  | cons w1 w2 =>
    cases w2
    cases w1 with
    | list ho hall => exact ⟨_, _, ns, rfl, rfl, ho, ints_of_wellAll ns _ hall, hlen⟩
theorem post_true (l : OpenLaw) (args : List WData) : l.row.toRowW.claim.post args (.bool true) args = true :=
  postW_of (r := l.row.toRowW) (X := (true == true))
    (show WShape.has [] (.bool true) .bool = true by first | rfl | decide | simp [WShape.has, WShape.arms, WShape.armsAll])
    (show (WTm.eq .res (.lit (.bool true))).value [] { args := args, res := some (.bool true), after := args } = some (.bool (true == true)) from w_eq_bool (w_res rfl) w_lit) rfl
theorem attach_call {l : OpenLaw} {n : Nat} {q : Program} {loose : List Str} {XP : (Str → Option Value) → Heap → Prop} {YP : World → Heap → Prop} {d : DefRec}
    (hn : l.most = some n) (hdf : d.params.defaults = [])
    (call : ∀ (w : World) (s₀ s₁ : Shared) (mg mb : Str → Option Value) (fa : Addr) (o : Obj) (pm cd doc : Value) (a : Addr) (vs : List Value) (ns : List Int),
      Ground q loose [] XP w s₀ mg mb s₁.heap → YP w s₁.heap →
      s₁.heap.get? fa = some o → o.data = .func (docDef d.name d.params d.body d.scope pm cd doc) → s₁.heap.CodeRec cd d.name → mg d.name = some (.ref fa) →
      s₁.heap.get? a = some { cls := .type "list", data := .seq vs.toArray } → IntsAre vs ns → ns.length ≤ n → s₁.gens = #[] →
      codeAny (model l.prog w) callerA (.call (.ref fa) ⟨[.ref a], []⟩) (fun r s' => r = .ok (.ret (.bool true)) ∧ OldK s₁.heap s'.heap ∧ s'.os = s₁.os ∧ AllBare s'.gens) s₁) :
    WalkO q loose XP YP l.row.toRowW d [] (fun f vs => PySem.call f vs) := by
  intro w s₀ s₁ mg mb G Y fa o pm cd doc dV kV ho hd hcd hD hmg hg args vals as hpre hlay hrd hwl hlo
  obtain rfl : dV = .none := Dflts.none hD hdf
  obtain rfl : kV = .none := Dflts.noKw hD
  obtain ⟨a, vs, ns, rfl, rfl, hobj, hints, hlen⟩ := script_of hn hpre hwl
  refine enter_call (codeAny_mono (call w s₀ s₁ mg mb fa o pm cd doc a vs ns G Y ho (fd_plain hd) hcd hmg hobj hints hlen hg) fun r s' hq => ?_)
  obtain ⟨rfl, h2, h3, h4⟩ := hq
  exact ⟨.inl ⟨.bool true, .bool true, [], rfl, fun _ => rfl, .bool true, post_true l _, fun _ => ⟨List.Pairwise.nil, fun _ hm => (nomatch hm)⟩⟩, h2, h3, h4⟩
section
variable {prog : Program} {w : World} {A : Around} {E : Value → Shared → Prop} {s : Shared} {K : Frag}
end
end Att
namespace L2
open PySem PySem.Spec PyProof.Rows
theorem vals_ints : ∀ {vs : List Value} {ns : List Int}, IntsAre vs ns → Vals (ns.map V.int) vs
  | _, _, .nil => .nil
  | _, _, .cons n t h => .cons ⟨t, rfl⟩ (vals_ints h)
def Only (H : Hp) : Prop := ∀ b, H b = none ∨ ∃ o xs, H b = some (.frz o (.lst xs))
theorem law_call {P : Program} {w : World} {K : PySem.W.Frag} {mg mb : Str → Option Value} {CX : CXT} {k : Nat} {fa a : Addr} {fd : FuncData} {x : Str} {sp : Sp} {s₁ : Shared} {vs : List Value} {ns : List Int}
    (KX : K.In s₁.heap) (hns : s₁.heap.Ns mainGlobals mg) (hb : s₁.heap.Ns builtinsNs mb) (hbb : ∀ x : Str, x ≠ "__name__" → mb x = bootBuiltins x) (hlim : s₁.heap.NoLimit) (hg : s₁.gens = #[])
    (ha : s₁.heap.get? a = some { cls := .type "list", data := .seq vs.toArray }) (hi : IntsAre vs ns) (hl : ns.length ≤ sizeLine) (hr : Room k callerA)
    (F : ∀ base : Heap, K.In base → base.Ns mainGlobals mg → FnOk P w K mg base CX k fa fd [x] sp) (hbind : ∀ (s : Shared) (u : Value), BindsTo s fd ⟨[u], []⟩ [(x, u)])
    (hsp : ∀ H : Hp, Only H → SqL K H a (ns.map V.int) → sp [.ref a] H (fun v _ => v = .bl true) fun _ _ _ => False)
    (hCX : ∀ H e s', CX [] H s₁ (fun _ _ _ => False) e s' → False) :
    codeAny (model P w) callerA (.call (.ref fa) ⟨[.ref a], []⟩) (fun r s' => r = .ok (.ret (.bool true)) ∧ OldK s₁.heap s'.heap ∧ s'.os = s₁.os ∧ AllBare s'.gens) s₁ := by
  have rv := vals_ints hi
  have lenV := hi.length
  -- from an abstract heap in which nothing but the script may be tracked
  have core : ∀ H : Hp, Only H → SqL K H a (ns.map V.int) → HOk P w H s₁.heap → (∀ b, H b ≠ none → b = a) → (H a ≠ none → K.lookup a = none) →
      codeAny (model P w) callerA (.call (.ref fa) ⟨[.ref a], []⟩) (fun r s' => r = .ok (.ret (.bool true)) ∧ OldK s₁.heap s'.heap ∧ s'.os = s₁.os ∧ AllBare s'.gens) s₁ := by
    intro H hO hS hok hA hK
    have base_of : ∀ {b : Addr} {o : Obj}, s₁.heap.get? b = some o → H b = none → (hidT s₁.heap H).get? b = some o := fun e n => hidT_get e n
    have noA : ∀ {b : Addr} {o : Obj} {es : Array DictEntry} {ep : Nat}, s₁.heap.get? b = some o → o.data = .dict es ep → H b = none := fun {b o es ep} e d => by
      cases q : H b with
      | none => rfl
      | some u =>
        have e' : b = a := hA b (by rw [q]; simp)
        subst e'
        rw [ha] at e; cases e
        have d' : Data.seq vs.toArray _ = Data.dict es ep := d
        cases d'
    have nsK : ∀ {b : Addr} {m : Str → Option Value}, s₁.heap.Ns b m → (hidT s₁.heap H).Ns b m := fun {b m} ⟨o, es, ep, e, d, r⟩ => ⟨o, es, ep, base_of e (noA e d), d, r⟩
    have hKb : K.In (hidT s₁.heap H) := fun b o e => base_of (KX b o e) (by
      cases q : H b with
      | none => rfl
      | some u =>
        have e' : b = a := hA b (by rw [q]; simp)
        subst e'
        rw [hK (by rw [q]; simp)] at e; cases e)
    have hM : Mod K mg (hidT s₁.heap H) := ⟨hKb, nsK hns, ⟨mb, nsK hb, hbb⟩, let ⟨mc, h1, h2⟩ := hlim; ⟨mc, nsK h1, h2⟩⟩
    have e0 : Env0 P w K mg (hidT s₁.heap H) callerA [] s₁ H := ⟨rfl, hM, fun b o e => of_hidT e, Nat.le_of_eq (hidT_size _ _), trivial, fun b hb => absurd (show b ∈ ([] : List Addr) from hb) (by simp), hok, .of_eq hg⟩
    refine codeAny_mono ((F _ hKb (nsK hns)).run callerA [] s₁ H ⟨[.ref a], []⟩ [.ref a] [.ref a] _ _ hr e0 (hbind s₁ (.ref a)) (.cons rfl .nil) (hsp H hO hS)) fun r s' h => ?_
    cases r with
    | error e => exact (hCX H e s' h).elim
    | ok fl =>
      cases fl with
      | next => exact False.elim h
      | brk => exact False.elim h
      | cont => exact False.elim h
      | ret u =>
        obtain ⟨v, H', os, bare, un, hok', r', q⟩ := h
        have q' : v = .bl true := q
        subst q'
        obtain rfl : u = Value.bool true := r'
        refine ⟨rfl, OldK.of_keep fun b o e => ?_, os, bare⟩
        cases q : H b with
        | none => exact un.keep b o e q (by intro z; exact absurd (show b ∈ ([] : List Addr) from z) (by simp)) (by simp)
        | some u =>
          rcases hO b with z | ⟨ob, xs, z⟩
          · rw [q] at z; cases z
          · have z2 := un.frzs b ob _ z
            obtain ⟨e1, _⟩ := hok b _ z
            obtain ⟨e2, _⟩ := hok' b _ z2
            rw [e] at e1; cases e1
            exact e2
  cases hk : K.lookup a with
  | some o =>
    -- the script is one of the module's own objects
    have e := KX a o hk
    rw [ha] at e
    cases e
    refine core (fun _ => none) (fun _ => .inl rfl) (.inr ⟨_, vs.toArray, _, hk, rfl, rfl, rfl, by rw [List.size_toArray, lenV]; exact hl, by simpa using rv⟩) (fun b u z => by have z' : (none : Option HO) = some u := z; cases z') (fun b z => absurd rfl z) fun z => absurd rfl z
  | none =>
    refine core (fun b => if b = a then some (.frz { cls := .type "list", data := .seq vs.toArray } (.lst (ns.map V.int))) else none) (fun b => ?_) (.inl (.inr ⟨{ cls := .type "list", data := .seq vs.toArray }, if_pos rfl⟩)) (fun b u z => ?_) (fun b z => ?_) fun _ => hk
    · by_cases hb : b = a
      · exact .inr ⟨_, _, if_pos hb⟩
      · exact .inl (if_neg hb)
    · by_cases hb : b = a
      · have z' := (if_pos hb).symm.trans z
        cases z'
        subst hb
        exact ⟨ha, by rw [List.length_map]; exact hl, vs, _, rv, ha⟩
      · have z' := (if_neg hb).symm.trans z
        cases z'
    · by_cases hb : b = a
      · exact hb
      · exact absurd (if_neg hb) z
end L2
namespace L2
open PySem PySem.Spec PyProof.Rows
abbrev KOf {K : PySem.W.Frag} {h : Heap} (_ : K.In h) : PySem.W.Frag := K
theorem walk_of {l : PySem.W.OpenLaw} {n k : Nat} {q : Program} {loose : List Str} {XP : (Str → Option Value) → Heap → Prop} {YP : World → Heap → Prop} {d : DefRec} {K : Params → PySem.W.Frag} {CX : World → CXT} {sp : World → Sp} {x : Str}
    (hn : l.most = some n) (hn2 : n ≤ sizeLine) (hdf : d.params.defaults = []) (hr : Room k callerA)
    (hY : ∀ (w : World) (h : Heap), YP w h → (K w.params).In h)
    (F : ∀ (w : World) (mg : Str → Option Value) (fa : Addr) (h : Heap), (K w.params).In h → h.Ns mainGlobals mg → mg d.name = some (.ref fa) →
      ∃ fd : FuncData, (∀ (s : Shared) (u : Value), BindsTo s fd ⟨[u], []⟩ [(x, u)]) ∧
        ∀ base : Heap, (K w.params).In base → base.Ns mainGlobals mg → FnOk l.prog w (K w.params) mg base (CX w) k fa fd [x] (sp w))
    (hsp : ∀ (w : World) (H : Hp) (a : Addr) (ns : List Int), ns.length ≤ n → Only H → SqL (K w.params) H a (ns.map V.int) → sp w [.ref a] H (fun v _ => v = .bl true) fun _ _ _ => False)
    (hCX : ∀ (w : World) (H : Hp) (s : Shared) (e : Value) (s' : Shared), CX w [] H s (fun _ _ _ => False) e s' → False) :
    PySem.W.WalkO q loose XP YP l.row.toRowW d [] (fun f vs => PySem.call f vs) := by
  refine Att.attach_call hn hdf fun w s₀ s₁ mg mb fa o pm cd doc a vs ns G Y ho hd hcd hmg hobj hints hlen hg => ?_
  have KX := hY w _ Y
  obtain ⟨fd, hb, hF⟩ := F w mg fa _ KX G.T.g hmg
  exact law_call KX G.T.g G.T.b G.T.builtins G.T.nolimit hg hobj hints (Nat.le_trans hlen hn2) hr hF hb (fun H hO hS => hsp w H a ns hlen hO hS) fun H e s' => hCX w H s₁ e s'
end L2
/- THE LAST THEOREM (shape; LID, My.* are yours):
   My.Adr: a structure of the addresses that your layer names (classes, functions); My.Txt K t: a structure (Prop) of the equations over K;
   My.txt_mk : {K} {implicit addresses ..} (e1 : nsIn K mainGlobals "law" = some (some (.ref f))) (e2 : K.lookup f = some ⟨oc, od, .func (fnOf "law" "law" params body scope dV kV doc pm an cdv ct), sl⟩) (e3 : codeIn K cdv "law" = true) .. : ∃ t, My.Txt K t
set_option maxRecDepth 100000 in
set_option maxHeartbeats 0 in
theorem PySem.Challenge.cw_LID_holds : PySem.Challenge.rw_LID.Holds := by
  w_on; o_law; k_head; (case hw => w_witness2)
  k_fill
  refine L2.walk_of (l := PySem.Challenge.rw_LID) (n := 63) (k := 40) (x := "script") (CX := fun w => ..) (sp := fun _ => My.sp_law) rfl (by decide) rfl ⟨rfl, by decide, by decide⟩ (fun w h Y => PySem.W.kIn_of Y) ?F ?S ?C
  case F =>
    intro w mg fa h KX G hmg
    have T : ∃ t, My.Txt (L2.KOf KX) t := by
      dsimp only [L2.KOf]                          -- K must stand as «<heap const> w.params» for k_is
      refine' My.txt_mk ?e1 ?e2 ?e3 ..
      (case e1 => PySem.W.k_is)                    -- in the order: a name -> its address -> its object -> its parts
      (case e2 => PySem.W.k_is)
      ..
    obtain ⟨t, T⟩ := T
    have e0 := hmg.symm.trans (PySem.W.mg_of KX G T.law)
    cases e0                                       -- fa is the law's own address
    exact ⟨_, fun s u => .of_eq rfl, fun base kb nb => My.law_fn T kb nb⟩     -- if «.of_eq rfl» comes too early: refine' ⟨_, ?b, fun base kb nb => My.law_fn T kb nb⟩; exact fun s u => .of_eq rfl
  case S => exact fun w H a ns hl hO hS => ..
  case C => exact ..
(the tactic k_is has no namespace: write k_is) -/
namespace L2
open PySem PySem.Spec PyProof.Rows
def defArgs (s : Stmt) : Arguments := match s with
  | .FunctionDef _ a _ _ _ _ _ _ _ _ => a
  | _ => { posonlyargs := [], args := [], vararg := none, kwonlyargs := [], kw_defaults := [], kwarg := none, defaults := [] }
def defBody (s : Stmt) : List Stmt := match s with
  | .FunctionDef _ _ b _ _ _ _ _ _ _ => b
  | _ => []
def defScope (s : Stmt) : Scope := match s with
  | .FunctionDef _ _ _ _ _ _ sc _ _ _ => sc
  | _ => { kind := .function, names := [], isGenerator := false, isCoroutine := false }
abbrev E0 : XK := fun _ _ _ => False
structure Fun (K : PySem.W.Frag) (x qual : Str) (st : Stmt) (f : Addr) (fd : FuncData) : Prop where
  ex : ∃ (oc : Value) (od : Option Addr) (kV doc pm : Value) (an : Option Addr) (cdv ct : Value) (osl : Array (Option Value)),
    fd = PySem.W.fnOf x qual (defArgs st) (defBody st) (defScope st) .none kV doc pm an cdv ct ∧ K.lookup f = some ⟨oc, od, .func fd, osl⟩ ∧ PySem.W.codeIn K cdv qual = true
  kp : PySem.W.keepIn K (.ref f) = true
section
variable {P : Program} {w : World} {K : PySem.W.Frag} {mg : Str → Option Value} {base : Heap}
theorem Fun.binds {x qual : Str} {st : Stmt} {f : Addr} {fd : FuncData} {ps : List Str} (F : Fun K x qual st f fd)
    (h : ∀ (kV doc pm : Value) (an : Option Addr) (cdv ct : Value) (us : List Value), us.length = ps.length → bindArgs (PySem.W.fnOf x qual (defArgs st) (defBody st) (defScope st) .none kV doc pm an cdv ct) ⟨us, []⟩ = pure (ps.zip us)) : Binds K fd ps [] := by
  obtain ⟨oc, od, kV, doc, pm, an, cdv, ct, osl, rfl, lk, hcd⟩ := F.ex
  exact .all (h kV doc pm an cdv ct)
theorem fun_mk {x qual : Str} {st : Stmt} {f : Addr} {oc : Value} {od an : Option Addr} {osl : Array (Option Value)} {kV doc pm cdv ct : Value} (l : K.lookup f = some ⟨oc, od, .func (PySem.W.fnOf x qual (defArgs st) (defBody st) (defScope st) .none kV doc pm an cdv ct), osl⟩)
    (c : PySem.W.codeIn K cdv qual = true) (k : PySem.W.keepIn K (.ref f) = true) : Fun K x qual st f (PySem.W.fnOf x qual (defArgs st) (defBody st) (defScope st) .none kV doc pm an cdv ct) := ⟨⟨oc, od, kV, doc, pm, an, cdv, ct, osl, rfl, l, c⟩, k⟩
end
theorem hu_of {A : Around} {k : Nat} (hr : Room k A) : A.units + 1 < cLine := Nat.lt_of_le_of_lt (Nat.add_le_add_left (by decide : 1 ≤ 64) _) hr.units
theorem small1000 {n : Nat} (h : n ≤ 1000) : n < sizeLine := Nat.lt_of_le_of_lt h (by decide)
section
variable {X : Cx}
theorem pv (i : Nat) {x : Str} {pos : Pos} (hN : X.N[i]? = some x := by rfl) (hv : Vis X.env.scope x := by first | exact Or.inl rfl | exact Or.inr (Or.inl rfl) | exact Or.inr (Or.inr rfl)) (hd : (x == ("__debug__" : Str)) = false := by decide)
    (hcd : (x == ("__classdict__" : Str)) = false := by decide) : PE X (.Name x pos) (tVar i) := pe_var hN hv hd hcd
end
def Same (H H' : Hp) : Prop := ∀ b o, H b = some o → H' b = some o
theorem Same.refl (H : Hp) : Same H H := fun _ _ h => h
theorem Same.trans {H H1 H2 : Hp} (a : Same H H1) (b : Same H1 H2) : Same H H2 := fun c o h => b c o (a c o h)
theorem Same.free {H H' : Hp} (e : Same H H') {l : Addr} (h : H' l = Option.none) : H l = Option.none := by
  cases q : H l with
  | none => rfl
  | some o =>
    rw [e l o q] at h
    cases h
theorem Same.seq {K : PySem.W.Frag} {H H' : Hp} {a : Addr} {xs : List V} (e : Same H H') (h : SqL K H a xs) : SqL K H' a xs := by
  rcases h with (h | ⟨o, h⟩) | h
  · exact .inl (.inl (e _ _ h))
  · exact .inl (.inr ⟨o, e _ _ h⟩)
  · exact .inr h
end L2
namespace L2
open PySem PySem.Spec PyProof.Rows
def Dic (h : Heap) (e : Addr) (dv : Option Addr) : Prop := ∃ ob ws, h.get? e = some ob ∧ ob.dict = dv ∧ ob.data = .fields ws ∧ ws[2]? = some Value.none
structure Rest (fs : List Addr) (x : Addr) (ex : Option Addr) (h h' : Heap) : Prop where
  out : ∀ b o, h.get? b = some o → b ≠ x → some b ≠ ex → b ∉ fs → h'.get? b = some o
  sl : ∀ b o, h.get? b = some o → b ≠ x → some b ≠ ex → ∃ z, h'.get? b = some { o with slots := z }
section
variable {M : Model} {A : Around} {E : Value → Shared → Prop} {s : Shared} {B : Heap} {env : Env} {outer : List Env} {L e : Addr}
theorem dict_mapF (f : Array Value → Array Value) (o : Obj) : (Obj.mapFields f o).dict = o.dict := by
  obtain ⟨c, d, dt, sl⟩ := o
  cases dt <;> rfl
theorem entry_made {ob : Obj} {ws : Array Value} {hd : Value} {had : Bool} {Q : Unit → Shared → Prop} (gf : A.frames = some (env :: outer)) (ff : s.heap.FunFrames B (env :: outer)) (ge : env.frame = some L)
    (o1 : s.heap.get? e = some ob) (o2 : ob.data = .fields ws) (o3 : 1 < ws.size)
    (k : ∀ (h' : Heap) (T : Addr) (oT : Obj) (ts : Array Value), h'.get? e = some (Obj.mapFields (·.setIfInBounds 1 (.ref T)) ob) → T ≠ e → s.heap.get? T = none → h'.get? T = some oT → oT.data = .fields ts → ts[3]? = some (rawInt L) →
      Rest (frs (env :: outer)) e none s.heap h' → Q () { s with heap := h' }) :
    wpAny M A (do let a ← frameOf env; let pl ← entryPlaceOf L had; let b ← EntryCells.newEntry hd a .none (rawInt L) .none pl; setField (.ref e) 1 b) Q E s := by
  have en : e ∉ frs (env :: outer) := fun m => by
    obtain ⟨_, o, q, n⟩ := ff.mem m
    rw [o1] at q; cases q
    exact n ws o2
  refine wpAny_bind (wpAny_frameOf_fun gf ff ge fun h1 so => wpAny_bind (wpAny_entryPlaceOf fun pl place => ?_))
  unfold EntryCells.newEntry newFields
  refine wpAny_bind (wpAny_newObj_type ?_ (place.sizeOk5 _ _ _ _ _))
  have q1 : h1.get? e = some ob := (so.2.1 e en).trans o1
  have q2 := fun oT => Heap.get?_push_of_some (h := h1) oT q1
  refine wpAny_setField (q2 _) o2 o3 ?_
  refine k _ h1.objs.size _ _ ?_ (Nat.ne_of_gt (Heap.lt_size q1)) (Heap.get?_none_of_le (by rw [so.1]; exact Nat.le_refl _)) ((Heap.get?_update_other _ _ (Nat.ne_of_lt (Heap.lt_size q1))).trans (Heap.get?_push_size h1 rfl)) rfl ?_ ?_
  · exact Heap.get?_update_self _ (q2 _) (Obj.isFreed_of_fields (Obj.data_mapFields o2 _))
  · rcases place with rfl | ⟨_, _, _, _, _, _, _, rfl⟩ <;> simp
  · refine ⟨fun b o q n _ nf => ?_, fun b o q n _ => ?_⟩
    · exact (Heap.get?_update_other _ _ (Ne.symm n)).trans (Heap.get?_push_of_some _ ((so.2.1 b nf).trans q))
    · obtain ⟨z, y⟩ := so.2.2 b o q
      exact ⟨z, (Heap.get?_update_other _ _ (Ne.symm n)).trans (Heap.get?_push_of_some _ y)⟩
theorem rest_fly {h h' : Heap} {ex : Option Addr} {l : List Env} (st : B.StaysIn h) (be : B.get? e = none) (bx : ∀ t, ex = some t → B.get? t = none) (ff : h.FunFrames B l) (hx : ∀ t o, ex = some t → h.get? t = some o → ∃ ts, o.data = .fields ts)
    (he : ∀ o, h.get? e = some o → ∃ ts, o.data = .fields ts) (r : Rest (frs l) e ex h h') : B.StaysIn h' ∧ h'.FunFrames B l ∧ h.UpToSlots h' := by
  have up : h.UpToSlots h' := fun b o q nd => r.sl b o q (fun z => by subst z; obtain ⟨ts, y⟩ := he o q; exact nd ts y) fun z => by obtain ⟨ts, y⟩ := hx b o z.symm q; exact nd ts y
  refine ⟨fun b o q => r.out b o (st b o q) (fun z => by rw [z, be] at q; cases q) (fun z => by rw [bx b z.symm] at q; cases q) (fun m => by rw [(ff.mem m).1] at q; cases q), ff.of_keeps fun b o q nd => ?_, up⟩
  obtain ⟨z, y⟩ := up b o q nd
  exact ⟨_, y, rfl⟩
theorem note_first {ob : Obj} {ws : Array Value} {a0 : Value} {Q : Unit → Shared → Prop} (gf : A.frames = some (env :: outer)) (ge : env.frame = some L) (ff : s.heap.FunFrames B (env :: outer)) (st : B.StaysIn s.heap) (be : B.get? e = none)
    (o1 : s.heap.get? e = some ob) (o2 : ob.data = .fields ws) (o3 : ws[1]? = some .none) (o4 : ws[0]? = some a0) (o5 : ws[2]? = some Value.none)
    (k : ∀ h', Heap.HeldW B (env :: outer) e ob.cls a0 L h' → Dic h' e ob.dict → s.heap.UpToSlots h' → Q () { s with heap := h' }) : wpAny M A (noteFrame (.ref e) env) Q E s := by
  have z1 : 1 < ws.size := (Array.getElem?_eq_some_iff.mp o3).1
  unfold noteFrame
  simp only [ge]
  refine wpAny_bind (wpAny_field o1 o2 o3 ?_)
  rw [if_neg (by decide)]
  refine entry_made gf ff ge o1 o2 z1 fun h' T oT ts e1 e2 e3 e4 e5 e6 r => ?_
  obtain ⟨k1, k2, k3⟩ := rest_fly (ex := none) st be (by intro _ z; cases z) ff (by intro _ _ z; cases z) (fun o q => by rw [o1] at q; cases q; exact ⟨ws, o2⟩) r
  refine k h' ⟨k1, be, k2, _, _, T, oT, ts, e1, ⟨Obj.cls_mapFields _ _, ?_⟩, Obj.data_mapFields o2 _, by simp [z1], ?_, e2, e4, e5, e6⟩ ⟨_, _, e1, dict_mapF _ _, Obj.data_mapFields o2 _, by rw [Array.getElem?_setIfInBounds_ne (by decide)]; exact o5⟩ k3
  · rw [Array.getElem?_setIfInBounds_ne (by decide)]; exact o4
  · cases q : B.get? T with
    | none => rfl
    | some o => rw [st T o q] at e3; cases e3
theorem note_next {cls a0 : Value} {dv : Option Addr} {Q : Unit → Shared → Prop} (gf : A.frames = some (env :: outer)) (ge : env.frame = some L) (fl : Heap.FlyingW B (env :: outer) e cls a0 s.heap) (dc : Dic s.heap e dv)
    (k : ∀ h', Heap.HeldW B (env :: outer) e cls a0 L h' → Dic h' e dv → s.heap.UpToSlots h' → Q () { s with heap := h' }) : wpAny M A (noteFrame (.ref e) env) Q E s := by
  obtain ⟨st, be, ff, ob, ws, T, oT, ts, o1, ⟨rfl, o4⟩, o2, o3, bT, nT, t1, t2, t3⟩ := fl
  obtain ⟨ob', ws', q, rfl, d5, o5⟩ := dc
  rw [o1] at q; cases q
  rw [o2] at d5; cases d5
  have z1 : 1 < ws.size := (Array.getElem?_eq_some_iff.mp o3).1
  unfold noteFrame
  simp only [ge]
  refine wpAny_bind (wpAny_field o1 o2 o3 ?_)
  rw [if_pos (by simp)]
  refine wpAny_bind (wpAny_field t1 t2 t3 ?_)
  rw [if_neg (by simp [rawInt])]
  refine wpAny_bind (wpAny_setField t1 t2 (Array.getElem?_eq_some_iff.mp t3).1 ?_)
  have r0 : Rest (frs (env :: outer)) e (some T) s.heap (s.heap.update T (Obj.mapFields (·.setIfInBounds 3 Value.none))) :=
    ⟨fun b o q _ n _ => (Heap.get?_update_other _ _ fun z => n (by rw [z])).trans q, fun b o q _ n => ⟨o.slots, (Heap.get?_update_other _ _ fun z => n (by rw [z])).trans q⟩⟩
  obtain ⟨s1, s2, s3⟩ := rest_fly st be (fun t z => by cases z; exact bT) ff (fun t o z q => by cases z; rw [t1] at q; cases q; exact ⟨ts, t2⟩) (fun o q => by rw [o1] at q; cases q; exact ⟨ws, o2⟩) r0
  have o1' : (s.heap.update T (Obj.mapFields (·.setIfInBounds 3 Value.none))).get? e = some ob := (Heap.get?_update_other _ _ nT).trans o1
  refine entry_made (s := { s with heap := _ }) gf s2 ge o1' o2 z1 fun h' T' oT' ts' e1 e2 e3 e4 e5 e6 r => ?_
  obtain ⟨k1, k2, k3⟩ := rest_fly (ex := none) s1 be (by intro _ z; cases z) s2 (by intro _ _ z; cases z) (fun o q => by have := o1'.symm.trans q; cases this; exact ⟨ws, o2⟩) r
  refine k h' ⟨k1, be, k2, _, _, T', oT', ts', e1, ⟨Obj.cls_mapFields _ _, ?_⟩, Obj.data_mapFields o2 _, by simp [z1], ?_, e2, e4, e5, e6⟩ ⟨_, _, e1, dict_mapF _ _, Obj.data_mapFields o2 _, by rw [Array.getElem?_setIfInBounds_ne (by decide)]; exact o5⟩ (s3.trans k3)
  · rw [Array.getElem?_setIfInBounds_ne (by decide)]; exact o4
  · cases q : B.get? T' with
    | none => rfl
    | some o => have := (s1 T' o q).symm.trans e3; cases this
theorem lands_dic {l : List Env} {cls a0 v : Value} {dv : Option Addr} {Q : Unit → Shared → Prop} (fl : B.StaysIn s.heap ∧ B.get? e = none ∧ s.heap.FunFrames B l ∧ s.heap.TracedAtW B e cls a0 v) (dc : Dic s.heap e dv)
    (k : ∀ h', Heap.FlyingW B l e cls a0 h' → Dic h' e dv → s.heap.UpToSlots h' → Q () { s with heap := h' }) : wpAny M A (setFlight (.ref e) none) Q E s := by
  obtain ⟨st, be, ff, ob, ws, T, oT, ts, o1, oc, o2, o3, bT, nT, t1, t2, t3⟩ := fl
  have z3 : 3 < ts.size := (Array.getElem?_eq_some_iff.mp t3).1
  unfold setFlight
  refine wpAny_bind (wpAny_field o1 o2 o3 ?_)
  rw [if_pos (by simp)]
  refine wpAny_setField t1 t2 z3 ?_
  have r0 : Rest (frs l) e (some T) s.heap (s.heap.update T (Obj.mapFields (·.setIfInBounds 3 ((none : Option Addr).elim Value.none fun f => rawInt f)))) :=
    ⟨fun b o q _ n _ => (Heap.get?_update_other _ _ fun z => n (by rw [z])).trans q, fun b o q _ n => ⟨o.slots, (Heap.get?_update_other _ _ fun z => n (by rw [z])).trans q⟩⟩
  obtain ⟨s1, s2, s3⟩ := rest_fly st be (fun t z => by cases z; exact bT) ff (fun t o z q => by cases z; rw [t1] at q; cases q; exact ⟨ts, t2⟩) (fun o q => by rw [o1] at q; cases q; exact ⟨ws, o2⟩) r0
  have o1' := (Heap.get?_update_other s.heap (Obj.mapFields (·.setIfInBounds 3 ((none : Option Addr).elim Value.none fun f => rawInt f))) nT).trans o1
  refine k _ ⟨s1, be, s2, ob, ws, T, _, _, o1', oc, o2, o3, bT, nT, Heap.get?_update_self _ t1 (Obj.isFreed_of_fields (Obj.data_mapFields t2 _)), Obj.data_mapFields t2 _, by simp [z3]⟩ ?_ s3
  obtain ⟨ob', ws', q, d, d5, o5⟩ := dc
  rw [o1] at q; cases q
  exact ⟨ob, ws', o1', d, d5, o5⟩
theorem leaves_next {cls a0 : Value} {dv : Option Addr} {Q : Unit → Shared → Prop} (gf : A.frames = some (env :: outer)) (ge : env.frame = some L) (fl : Heap.FlyingW B (env :: outer) e cls a0 s.heap) (dc : Dic s.heap e dv)
    (k : ∀ h', Heap.FlyingW B outer e cls a0 h' → Dic h' e dv → s.heap.UpToSlots h' → Q () { s with heap := h' }) : wpAny M A (leaving env (.ref e)) Q E s := by
  unfold leaving
  refine wpAny_bind (note_next gf ge fl dc fun h1 x1 d1 u1 => lands_dic x1 d1 fun h2 x2 d2 u2 => ?_)
  obtain ⟨y1, y2, ⟨_, _, y3⟩, y4⟩ := x2
  exact k h2 ⟨y1, y2, y3, y4⟩ d2 (u1.trans u2)
theorem leaves_first {ob : Obj} {ws : Array Value} {a0 : Value} {Q : Unit → Shared → Prop} (gf : A.frames = some (env :: outer)) (ge : env.frame = some L) (ff : s.heap.FunFrames B (env :: outer)) (st : B.StaysIn s.heap) (be : B.get? e = none)
    (o1 : s.heap.get? e = some ob) (o2 : ob.data = .fields ws) (o3 : ws[1]? = some .none) (o4 : ws[0]? = some a0) (o5 : ws[2]? = some Value.none)
    (k : ∀ h', Heap.FlyingW B outer e ob.cls a0 h' → Dic h' e ob.dict → s.heap.UpToSlots h' → Q () { s with heap := h' }) : wpAny M A (leaving env (.ref e)) Q E s := by
  unfold leaving
  refine wpAny_bind (note_first gf ge ff st be o1 o2 o3 o4 o5 fun h1 x1 d1 u1 => lands_dic x1 d1 fun h2 x2 d2 u2 => ?_)
  obtain ⟨y1, y2, ⟨_, _, y3⟩, y4⟩ := x2
  exact k h2 ⟨y1, y2, y3, y4⟩ d2 (u1.trans u2)
end
end L2
namespace L2
open PySem PySem.Spec PyProof.Rows
theorem ObjOk.there {P : Program} {w : World} {H : Hp} {h : Heap} {a : Addr} {o : HO} (x : ObjOk P w H h a o) : ∃ ob, h.get? a = some ob := by
  cases o with
  | lst xs => obtain ⟨_, _, _, _, q⟩ := x; exact ⟨_, q⟩
  | tup xs => obtain ⟨_, _, _, ob, q, _⟩ := x; exact ⟨ob, q⟩
  | dK kvs => obtain ⟨_, _, _, _, ob, _, _, q, _⟩ := x; exact ⟨ob, q⟩
  | dT kvs => obtain ⟨_, _, _, _, ob, _, _, q, _⟩ := x; exact ⟨ob, q⟩
  | set S n => obtain ⟨ob, _, _, _, q, _⟩ := x; exact ⟨ob, q⟩
  | ins C dx fs => obtain ⟨_, _, _, q, _⟩ := x; exact ⟨_, q⟩
  | own y => exact x
  | xd fs => obtain ⟨_, ⟨ob, _, _, q, _⟩, _⟩ := x; exact ⟨ob, q⟩
  | rng lo hi => obtain ⟨_, _, _, q⟩ := x; exact ⟨_, q⟩
  | frz ob u => obtain ⟨q, _⟩ := x; exact ⟨_, q⟩
  | tbl ps => exact ⟨_, x⟩
  | met f y => exact ⟨_, x⟩
  | ext φ => obtain ⟨_, q, _⟩ := x; exact q
theorem HOk.there {P : Program} {w : World} {H : Hp} {h : Heap} {a : Addr} (k : HOk P w H h) (n : H a ≠ none) : ∃ ob, h.get? a = some ob := by
  cases e : H a with
  | none => exact absurd e n
  | some o => exact (k a o e).there
structure Flown (P : Program) (w : World) (outer : List Env) (H : Hp) (s : Shared) (H' : Hp) (s' : Shared) (B : Heap) (e : Addr) (cls a0 : Value) (dv : Option Addr) : Prop where
  os : s'.os = s.os
  bare : AllBare s'.gens
  un : Un (frs outer) [] H H' s.heap s'.heap
  hok : HOk P w H' s'.heap
  fly : Heap.FlyingW B outer e cls a0 s'.heap
  cond : ∀ b o, s'.heap.get? b = some o → b ∉ frs outer → ((∃ o', s.heap.get? b = some o') ∨ H' b ≠ none) → B.get? b = some o
  frf : ∀ b ∈ frs outer, H' b = none
  dic : Dic s'.heap e dv
def CXe (P : Program) (w : World) : CXT := fun outer H s E ev s' => ∃ (e : Addr) (cls a0 : Value) (dv : Option Addr) (H' : Hp) (B : Heap), ev = .ref e ∧ Flown P w outer H s H' s' B e cls a0 dv ∧ E cls dv H'
section
variable {P : Program} {w : World} {outer : List Env} {H H' : Hp} {s s' : Shared} {B : Heap} {e : Addr} {cls a0 : Value} {dv : Option Addr} {h' : Heap}
theorem Flown.unh (F : Flown P w outer H s H' s' B e cls a0 dv) (k : B.StaysIn h') (u : s'.heap.UpToSlots h') : Un (frs outer) [] H H' s.heap h' where
  keep := fun b o q n hb hx => k b o (F.cond b o (F.un.keep b o q n hb hx) hb (.inl ⟨o, q⟩))
  slot := fun b o q n hb hx => by
    obtain ⟨sl, q1⟩ := F.un.slot b o q n hb hx
    obtain ⟨_, o2, q2, nd⟩ := F.fly.2.2.1.mem hb
    rw [q1] at q2; cases q2
    obtain ⟨sl', q3⟩ := u b _ q1 nd
    exact ⟨sl', q3⟩
  free := F.un.free
  there := fun b o q hx => by
    obtain ⟨o1, q1⟩ := F.un.there b o q hx
    by_cases hb : b ∈ frs outer
    · obtain ⟨_, o2, q2, nd⟩ := F.fly.2.2.1.mem hb
      rw [q1] at q2; cases q2
      obtain ⟨sl', q3⟩ := u b _ q1 nd
      exact ⟨_, q3⟩
    · exact ⟨o1, k b o1 (F.cond b o1 q1 hb (.inl ⟨o, q⟩))⟩
  tups := F.un.tups
  frzs := F.un.frzs
  tbls := F.un.tbls
theorem Flown.trk (F : Flown P w outer H s H' s' B e cls a0 dv) (k : B.StaysIn h') : ∀ b o, H' b ≠ none → s'.heap.get? b = some o → h'.get? b = some o := fun b o n q =>
  k b o (F.cond b o q (fun hb => n (F.frf b hb)) (.inr n))
theorem Flown.hokh (F : Flown P w outer H s H' s' B e cls a0 dv) (k : B.StaysIn h') : HOk P w H' h' := fun a o q =>
  (F.hok a o q).stay (fun b u hb z => F.trk k b u (by
    rcases hb with rfl | hb
    · rw [q]; exact fun z => nomatch z
    · rw [hb]; exact fun z => nomatch z) z) (fun _ z => z) fun _ _ z => z
theorem Flown.go (F : Flown P w outer H s H' s' B e cls a0 dv) (x : Heap.FlyingW B outer e cls a0 h') (u : s'.heap.UpToSlots h') (dc : Dic h' e dv) : Flown P w outer H s H' { s' with heap := h' } B e cls a0 dv where
  os := F.os
  bare := F.bare
  un := F.unh x.1 u
  hok := F.hokh x.1
  fly := x
  cond := fun b o q hb hc => by
    have back : ∀ o', s'.heap.get? b = some o' → B.get? b = some o := fun o' q' => by
      have z := F.cond b o' q' hb hc
      have z' := x.1 b o' z
      have q2 : h'.get? b = some o := q
      rw [z'] at q2; cases q2
      exact z
    rcases id hc with ⟨o1, q1⟩ | n
    · obtain ⟨o2, q2⟩ := F.un.there b o1 q1 (by simp)
      exact back o2 q2
    · obtain ⟨o2, q2⟩ := F.hok.there n
      exact back o2 q2
  frf := F.frf
  dic := dc
end
section
variable {X : Cx} {pins : List (Addr × Obj)} {σ : St} {H H' : Hp} {s s' : Shared} {B : Heap} {e : Addr} {cls a0 : Value} {dv : Option Addr}
end
section
variable {P : Program} {w : World} {K : PySem.W.Frag} {mg : Str → Option Value} {base : Heap} {N : List Str} {qual : Str} {scope : Scope} {f : Addr} {cd : Value} {A : Around} {outer : List Env} {s : Shared} {H : Hp} {E : XK}
  {pins : List (Addr × Obj)} {σ : St} {H1 : Hp} {s1 : Shared}
theorem cx_frames (I : Inv (cxOf (CXe P w) P w K mg base N qual scope f cd A outer s H E) pins σ H1 s1) : (A.deeper (envOfC qual scope s.heap.objs.size f cd)).frames = some (envOfC qual scope s.heap.objs.size f cd :: outer) := I.ok.frames
theorem xe_core {e : Addr} {ob : Obj} {ws : Array Value} {a0 : Value} (gf : (A.deeper (envOfC qual scope s.heap.objs.size f cd)).frames = some (envOfC qual scope s.heap.objs.size f cd :: outer)) (os : s1.os = s.os) (bare : AllBare s1.gens) (un1 : Un (frs outer) [] H H1 s.heap s1.heap) (hok : HOk P w H1 s1.heap)
    (fr0 : s1.heap.FunFrames base (envOfC qual scope s.heap.objs.size f cd :: outer)) (free1 : ∀ b ∈ frs (envOfC qual scope s.heap.objs.size f cd :: outer), H1 b = none) (ge : s1.heap.get? e = some ob) (od : ob.data = .fields ws) (w1 : ws[1]? = some .none) (w0 : ws[0]? = some a0) (w2 : ws[2]? = some Value.none)
    (en : s.heap.get? e = none) (eH : H1 e = none) (q : E ob.cls ob.dict H1) :
    wpAny (model P w) (A.deeper (envOfC qual scope s.heap.objs.size f cd)) (leaving (envOfC qual scope s.heap.objs.size f cd) (.ref e)) (fun _ s'' => CXe P w outer H s E (.ref e) s'') (fun e' s'' => CXe P w outer H s E e' s'') s1 := by
  have fsE : frs (envOfC qual scope s.heap.objs.size f cd :: outer) = s.heap.objs.size :: frs outer := rfl
  have hin : ∀ env ∈ (envOfC qual scope s.heap.objs.size f cd :: outer), ∀ b, env.frame = some b → b ∈ e :: frs (envOfC qual scope s.heap.objs.size f cd :: outer) := fun env he b hb => List.mem_cons_of_mem _ (List.mem_filterMap.mpr ⟨env, he, hb⟩)
  refine leaves_first (B := PySem.W.hideAll s1.heap (e :: frs (envOfC qual scope s.heap.objs.size f cd :: outer))) (L := s.heap.objs.size) gf rfl (PySem.W.funFrames_hide fr0 hin) (fun b o z => PySem.W.of_hideAll _ z) (PySem.W.hideAll_none _ List.mem_cons_self) ge od w1 w0 w2 fun h2 fl dc up => ?_
  have inB : ∀ b o, s1.heap.get? b = some o → b ≠ e → b ∉ frs (envOfC qual scope s.heap.objs.size f cd :: outer) → (PySem.W.hideAll s1.heap (e :: frs (envOfC qual scope s.heap.objs.size f cd :: outer))).get? b = some o := fun b o z n1 n => PySem.W.hideAll_get _ z fun m => by
    rcases List.mem_cons.mp m with y | y
    · exact n1 y
    · exact n y
  have olde : ∀ b o, s.heap.get? b = some o → b ≠ e := fun b o z y => by rw [y, en] at z; cases z
  have old : ∀ b o, s.heap.get? b = some o → b ∉ frs outer → b ∉ frs (envOfC qual scope s.heap.objs.size f cd :: outer) := fun b o z n hm => by
    rw [fsE] at hm
    rcases List.mem_cons.mp hm with rfl | hm
    · exact absurd (Heap.lt_size z) (Nat.lt_irrefl _)
    · exact n hm
  have slots : ∀ b o, s1.heap.get? b = some o → b ∈ frs outer → ∃ sl, h2.get? b = some { o with slots := sl } := fun b o z hb => by
    obtain ⟨_, o2, q2, nd⟩ := fr0.mem (b := b) (by show b ∈ frs _; rw [fsE]; exact List.mem_cons_of_mem _ hb)
    rw [z] at q2; cases q2
    exact up b o z nd
  have keepT : ∀ b o, H1 b ≠ none → s1.heap.get? b = some o → h2.get? b = some o := fun b o n z => fl.1 b o (inB b o z (fun y => n (y ▸ eH)) fun hm => n (free1 b hm))
  refine ⟨e, ob.cls, a0, ob.dict, H1, _, rfl, ⟨os, bare, ⟨fun b o z n hb hx' => ?_, fun b o z n hb hx' => ?_, un1.free, fun b o z hx' => ?_, un1.tups, un1.frzs, un1.tbls⟩, fun a o z => ?_, fl, fun b o z hb hc => ?_, fun b hb => ?_, dc⟩, q⟩
  · exact fl.1 b o (inB b o (un1.keep b o z n hb hx') (olde b o z) (old b o z hb))
  · obtain ⟨sl, z1⟩ := un1.slot b o z n hb hx'
    obtain ⟨sl', z2⟩ := slots b _ z1 hb
    exact ⟨sl', z2⟩
  · obtain ⟨o1, z1⟩ := un1.there b o z hx'
    by_cases hb : b ∈ frs outer
    · obtain ⟨sl', z2⟩ := slots b _ z1 hb
      exact ⟨_, z2⟩
    · exact ⟨o1, fl.1 b o1 (inB b o1 z1 (olde b o z) (old b o z hb))⟩
  · refine (hok a o z).stay (fun b u hb y => keepT b u ?_ y) (fun _ y => y) fun _ _ y => y
    rcases hb with rfl | hb
    · rw [z]; exact fun y => nomatch y
    · rw [hb]; exact fun y => nomatch y
  · have back : ∀ o', s1.heap.get? b = some o' → b ≠ e → b ∉ frs (envOfC qual scope s.heap.objs.size f cd :: outer) → (PySem.W.hideAll s1.heap (e :: frs (envOfC qual scope s.heap.objs.size f cd :: outer))).get? b = some o := fun o' y ne nb => by
      have y1 := inB b o' y ne nb
      have y2 := fl.1 b o' y1
      have z2 : h2.get? b = some o := z
      rw [y2] at z2; cases z2
      exact y1
    rcases hc with ⟨o1, z1⟩ | n
    · obtain ⟨o2, z2⟩ := un1.there b o1 z1 (by simp)
      exact back o2 z2 (olde b o1 z1) (old b o1 z1 hb)
    · obtain ⟨o2, z2⟩ := hok.there n
      exact back o2 z2 (fun y => n (y ▸ eH)) fun hm => n (free1 b hm)
  · exact free1 b (by rw [fsE]; exact List.mem_cons_of_mem _ hb)
theorem xe_raise {h' : Heap} {e : Addr} {cls : Value} {vs : List Value} (I : Inv (cxOf (CXe P w) P w K mg base N qual scope f cd A outer s H E) pins σ H1 s1) (hx : Heap.MadeExcOf s1.heap h' e cls vs) (q : E cls none H1) :
    (cxOf (CXe P w) P w K mg base N qual scope f cd A outer s H E).xe (.ref e) { s1 with heap := h' } := by
  have un1 : Un (frs outer) [] H H1 s.heap s1.heap := I.base
  obtain ⟨t, ge, _, _⟩ := hx.there
  have new : ∀ b o, s1.heap.get? b = some o → b ≠ e := fun b o z y => by rw [y, hx.new] at z; cases z
  have eH : H1 e = none := by
    cases z : H1 e with
    | none => rfl
    | some o => obtain ⟨u, y⟩ := I.hok.there (a := e) (by rw [z]; exact fun y => nomatch y); rw [hx.new] at y; cases y
  refine xe_core (s1 := { s1 with heap := h' }) (w0 := rfl) (cx_frames I) I.os I.bare ⟨fun b o z n hb hx' => hx.keeps _ _ (un1.keep b o z n hb hx'), fun b o z n hb hx' => ?_, un1.free, fun b o z hx' => ?_, un1.tups, un1.frzs, un1.tbls⟩ (I.hok.kept hx.keeps)
    ((show s1.heap.FunFrames base (envOfC qual scope s.heap.objs.size f cd :: outer) from I.stack).of_keeps fun b o z _ => ⟨o, hx.keeps b o z, rfl⟩) I.stkFree ge rfl rfl (w2 := rfl) ?_ eH q
  · obtain ⟨sl, y⟩ := un1.slot b o z n hb hx'
    exact ⟨sl, hx.keeps _ _ y⟩
  · obtain ⟨o1, y⟩ := un1.there b o z hx'
    exact ⟨o1, hx.keeps _ _ y⟩
  · cases z : s.heap.get? e with
    | none => rfl
    | some o => obtain ⟨o1, y⟩ := un1.there e o z (by simp); rw [hx.new] at y; cases y
theorem xe_raiseD {e : Addr} {ob : Obj} {ws : Array Value} {a0 : Value} {φ : Heap → Prop} (I : Inv (cxOf (CXe P w) P w K mg base N qual scope f cd A outer s H E) pins σ H1 s1) (h1 : H1 e = some (.ext φ)) (ge : s1.heap.get? e = some ob) (od : ob.data = .fields ws) (w1 : ws[1]? = some .none) (w0 : ws[0]? = some a0) (w2 : ws[2]? = some Value.none)
    (en : s.heap.get? e = none) (q : E ob.cls ob.dict (fun b => if b = e then none else H1 b)) : (cxOf (CXe P w) P w K mg base N qual scope f cd A outer s H E).xe (.ref e) s1 := by
  have un1 : Un (frs outer) [] H H1 s.heap s1.heap := I.base
  have free1 : ∀ b ∈ frs (envOfC qual scope s.heap.objs.size f cd :: outer), H1 b = none := I.stkFree
  have he : ∀ b u, (∀ φ, u ≠ .ext φ) → H1 b = some u → (fun b => if b = e then none else H1 b) b = some u := fun b u nu z => by
    by_cases y : b = e
    · subst y; rw [h1] at z; cases z; exact absurd rfl (nu _)
    · show (if b = e then none else H1 b) = _
      rw [if_neg y]; exact z
  have hn : ∀ b, H1 b = none → (fun b => if b = e then none else H1 b) b = none := fun b z => by
    show (if b = e then none else H1 b) = _
    split
    · rfl
    · exact z
  refine xe_core (H1 := fun b => if b = e then none else H1 b) (cx_frames I) I.os I.bare ⟨un1.keep, un1.slot, fun b o z n hx' => hn b (un1.free b o z n hx'), un1.there, fun b xs z => he b _ (fun _ y => nomatch y) (un1.tups b xs z), fun b o u z => he b _ (fun _ y => nomatch y) (un1.frzs b o u z), fun b ps z => ?_⟩ (fun b o z => ?_) I.stack (fun b hb => hn b (free1 b hb)) ge od w1 w0 w2 en (if_pos rfl) q
  · obtain ⟨m, y⟩ := un1.tbls b ps z
    exact ⟨m, he b _ (fun _ y => nomatch y) y⟩
  · dsimp only at z
    have z' : H1 b = some o := by
      by_cases y : b = e
      · rw [if_pos y] at z; cases z
      · rw [if_neg y] at z; exact z
    exact (I.hok b o z').stay (fun _ _ _ y => y) (fun c y => he c _ (fun _ y => nomatch y) y) fun c xs y => he c _ (fun _ y => nomatch y) y
theorem xe_pass {ev : Value} {s' : Shared} (I : Inv (cxOf (CXe P w) P w K mg base N qual scope f cd A outer s H E) pins σ H1 s1) (h : CXe P w (envOfC qual scope s.heap.objs.size f cd :: outer) H1 s1 E ev s') :
    (cxOf (CXe P w) P w K mg base N qual scope f cd A outer s H E).xe ev s' := by
  obtain ⟨e, cls, a0, dv, H', B, rfl, F, q⟩ := h
  show wpAny (model P w) (A.deeper (envOfC qual scope s.heap.objs.size f cd)) (leaving (envOfC qual scope s.heap.objs.size f cd) (.ref e)) (fun _ s'' => CXe P w outer H s E (.ref e) s'') (fun e' s'' => CXe P w outer H s E e' s'') s'
  have fsE : frs (envOfC qual scope s.heap.objs.size f cd :: outer) = s.heap.objs.size :: frs outer := rfl
  have un1 : Un (frs outer) [] H H1 s.heap s1.heap := I.base
  have old : ∀ b o, s.heap.get? b = some o → b ∉ frs outer → b ∉ frs (envOfC qual scope s.heap.objs.size f cd :: outer) := fun b o z n hm => by
    rw [fsE] at hm
    rcases List.mem_cons.mp hm with rfl | hm
    · exact absurd (Heap.lt_size z) (Nat.lt_irrefl _)
    · exact n hm
  refine leaves_next (L := s.heap.objs.size) (cx_frames I) rfl F.fly F.dic fun h2 fl dc up => ?_
  have un2 := F.unh fl.1 up
  have sub : ∀ b, b ∈ frs outer → b ∈ frs (envOfC qual scope s.heap.objs.size f cd :: outer) := fun b hb => by rw [fsE]; exact List.mem_cons_of_mem _ hb
  refine ⟨e, cls, a0, dv, H', B, rfl, ⟨F.os.trans I.os, F.bare, ⟨fun b o z n hb hx' => ?_, fun b o z n hb hx' => ?_, fun b o z n hx' => ?_, fun b o z hx' => ?_, fun b xs z => F.un.tups b xs (un1.tups b xs z), fun b o u z => F.un.frzs b o u (un1.frzs b o u z), fun b ps z => ?_⟩, F.hokh fl.1, fl, fun b o z hb hc => ?_, fun b hb => F.frf b (sub b hb), dc⟩, q⟩
  · exact un2.keep b o (un1.keep b o z n hb hx') (un1.free b o z n hx') (old b o z hb) hx'
  · obtain ⟨sl, z1⟩ := un1.slot b o z n hb hx'
    obtain ⟨sl', z2⟩ := un2.slot b _ z1 (un1.free b o z n hx') (sub b hb) hx'
    exact ⟨sl', z2⟩
  · obtain ⟨o1, z1⟩ := un1.there b o z hx'
    exact F.un.free b o1 z1 (un1.free b o z n hx') hx'
  · obtain ⟨o1, z1⟩ := un1.there b o z hx'
    exact un2.there b o1 z1 hx'
  · obtain ⟨m1, z1⟩ := un1.tbls b ps z
    obtain ⟨m2, z2⟩ := F.un.tbls b _ z1
    exact ⟨m1 ++ m2, by rw [z2, Array.append_assoc]⟩
  · rcases hc with ⟨o1, z1⟩ | n
    · obtain ⟨o2, z2⟩ := un1.there b o1 z1 (by simp)
      exact (F.go (h' := h2) ⟨fl.1, fl.2.1, (F.fly.2.2.1.of_keeps fun c oc yc nd => by obtain ⟨sl, y⟩ := up c oc yc nd; exact ⟨_, y, rfl⟩), fl.2.2.2⟩ up dc).cond b o z (old b o1 z1 hb) (.inl ⟨o2, z2⟩)
    · refine (F.go (h' := h2) ⟨fl.1, fl.2.1, (F.fly.2.2.1.of_keeps fun c oc yc nd => by obtain ⟨sl, y⟩ := up c oc yc nd; exact ⟨_, y, rfl⟩), fl.2.2.2⟩ up dc).cond b o z (fun hm => n (F.frf b hm)) (.inr n)
end
theorem passE0 {P : Program} {w : World} {X : Cx} : Passes (CXe P w) X E0 := fun _ _ _ _ _ _ _ ⟨_, _, _, _, _, _, _, _, h⟩ => h.elim
theorem pass_cx {P : Program} {w : World} {K : PySem.W.Frag} {mg : Str → Option Value} {base : Heap} {N : List Str} {qual : Str} {scope : Scope} {f : Addr} {cd : Value} {A : Around} {outer : List Env} {s : Shared} {H : Hp} {E : XK} :
    Passes (CXe P w) (cxOf (CXe P w) P w K mg base N qual scope f cd A outer s H E) E := fun _ _ _ _ _ _ I h => xe_pass I h
end L2
namespace L2
open PySem PySem.Spec PyProof.Rows
theorem exc_obj {K : PySem.W.Frag} {h : Heap} {C : Addr} {bmB : List Value} {newId : String} (kin : K.In h) (yes : PySem.W.excIn K C bmB newId = true) :
    ∃ bm N nm q bs hdct sn sub ab col dd k0 k1 k2 k3 k5 mN, h.get? C = some (excClassObj nm q C N bs bm hdct sn sub ab col dd k0 k1 k2 k3 k5 newId) ∧ h.Ns N mN ∧ mN "__init__" = none ∧ OwnTail h bmB bm := by
  unfold PySem.W.excIn at yes
  split at yes
  case h_2 => cases yes
  case h_1 dict cdat slots found =>
    split at yes
    case h_2 => cases yes
    case h_1 C0 bm0 a0 a1 a2 a3 nid a5 em eslots =>
      simp only [Bool.and_eq_true, beq_iff_eq, Bool.not_eq_true'] at yes
      obtain ⟨⟨⟨⟨⟨y1, y2⟩, y3⟩, y4⟩, y5⟩, y6⟩ := yes
      subst y1 y2
      obtain ⟨f1, f2, f3, f4, f5, f6, f7, f8, f9, f10, f11⟩ := cdat
      dsimp only at em y3 y5 y6
      subst em y3
      obtain ⟨sl⟩ := slots
      dsimp only at eslots
      subst eslots
      have Nn := Heap.Ns.of_isNs (PySem.W.isNs_of_in kin y5)
      exact ⟨bm0, f4, f1, f5, f2, f6, f7, f8, f9, f10, dict, a0, a1, a2, a3, a5, _, kin _ _ found, Nn, PySem.W.ns_none_of kin Nn y6, PySem.W.tail_of_in kin y4⟩
def Raises (X : Cx) (E : XK) : Prop := ∀ (pins : List (Addr × Obj)) (σ : St) (H1 : Hp) (s1 : Shared) (h' : Heap) (e : Addr) (cls : Value) (vs : List Value), Inv X pins σ H1 s1 → Heap.MadeExcOf s1.heap h' e cls vs → E cls none H1 → X.xe (.ref e) { s1 with heap := h' }
theorem raises_cx {P : Program} {w : World} {K : PySem.W.Frag} {mg : Str → Option Value} {base : Heap} {N : List Str} {qual : Str} {scope : Scope} {f : Addr} {cd : Value} {A : Around} {outer : List Env} {s : Shared} {H : Hp} {E : XK} :
    Raises (cxOf (CXe P w) P w K mg base N qual scope f cd A outer s H E) E := fun _ _ _ _ _ _ _ _ I hx q => xe_raise I hx q
def vmro : List Value := [.type "ValueError", .type "Exception", .type "BaseException", .type "object"]
def ExcC (K : PySem.W.Frag) (C : Addr) : Prop := PySem.W.excIn K C vmro "ValueError.__new__" = true
def tRaise (C : Addr) (E : XK) (t : TA) : TS := fun _ σ H => t σ H fun vs H1 => vs.length ≤ sizeLine ∧ E (.ref C) none H1
theorem ps_raise {X : Cx} {E : XK} {x : Str} {C : Addr} {e : Expr} {es : List Expr} {t : TA} {np cpos pos : Pos} (hr : Raises X E) (hc : X.calm = true) (hg : Gl X x) (hm : X.mg x = some (.ref C)) (hC : ExcC X.K C) (ha : PA X (e :: es) t)
    (hdb : (x == ("__debug__" : Str)) = false := by decide) (he : starEach (e :: es) X.env = (false, eval e X.env) :: starEach es X.env := by rfl) (hpl : (backTo cpos (starEach es X.env)).any (·.1) = false := by rfl) :
    PS X (.Raise (some (.Call (.Name x np) (e :: es) [] cpos)) none pos) (tRaise C E t) := by
  intro pins s σ H D I h
  obtain ⟨bm, N, nm, q, bs, hdct, sn, sub, ab, col, dd, k0, k1, k2, k3, k5, mN, gC, gN, gi, gT⟩ := exc_obj I.mod.kin hC
  refine wpAny_Raise_call_subU (C := C) (nm := nm) (q := q) (N := N) (bs := bs) (bm := bm) (hdct := hdct) (sn := sn) (sub := sub) (ab := ab) (col := col) (dd := dd) (k0 := k0) (k1 := k1) (k2 := k2) (k3 := k3) (k5 := k5)
    PySem.F.excBase_ValueError (by decide +kernel) PySem.F.excBase_ValueError (mN := mN) (gT.hasType PySem.F.excBase_ValueError.hasBase) (I.ok.hd hc)
    (by rw [he]; show (false || (backTo cpos (starEach es X.env)).any (·.1)) = false; rw [hpl]; rfl) gi (ld_glob I hg hm ⟨rfl, ?_⟩ hdb)
  have hq := ha cpos pins s σ H _ I h
  rw [he] at hq ⊢
  refine Calls.evalArgs_plain (thn hq fun us s1 ⟨vs, H1, I1, r, z, y⟩ => ⟨rfl, by rw [← r.length]; exact z, I1.bk _ _ gC, gN.keeps I1.bk, gT.keeps I1.bk, fun h' e' hx => ?_⟩)
  exact hr pins σ H1 s1 h' e' _ us I1 hx y
section
variable {X : Cx} {CX : CXT} {k : Nat} {f : Addr} {fd : FuncData} {ps : List Str} {sp : Sp} {dvs : List V} {ds : List Value} {E : St → XK} {x : Str} {p pos : Pos} {e : Expr} {es : List Expr} {t : TA}
end
section
variable {X : Cx} {pins pins' : List (Addr × Obj)} {σ : St} {H : Hp} {s : Shared} {xe : Value → Shared → Prop} {e : Addr}
end
def Ends.gone (D : Ends) (i : Nat) : Ends := ⟨fun σ H => D.nx (σ.set i none) H, D.rt, fun σ H => D.bk (σ.set i none) H, fun σ H => D.ct (σ.set i none) H⟩
end L2
namespace L2
open PySem PySem.Spec PyProof.Rows PySem.Builtin PySem.Builtin.ObjectAttr PySem.Builtin.Getset_descriptor PySem.W
section
variable {prog : Program} {w : World} {A : Around} {E : Value → Shared → Prop} {s : Shared} {K : Frag} {x C : Addr} {ox : Obj} {od : Option Obj} {name : Str}
end
end L2
namespace L2
open PySem PySem.Spec PyProof.Rows
def cxU (CX : CXT) (P : Program) (w : World) (K : PySem.W.Frag) (mg : Str → Option Value) (base : Heap) (N : List Str) (qual : Str) (scope : Scope) (f : Addr) (cd : Value) (A : Around) (outer : List Env) (s : Shared) (H : Hp) (E : XK) : Cx :=
  { cxOf CX P w K mg base N qual scope f cd A outer s H E with calm := false }
section
variable {X : Cx} {CX : CXT} {k : Nat} {f : Addr} {fd : FuncData} {ps : List Str} {sp : Sp} {dvs : List V} {ds : List Value} {E : XK} {x : Str} {p pos : Pos} {e : Expr} {es : List Expr} {t : TA}
end
section
variable {P : Program} {w : World} {K : PySem.W.Frag} {mg : Str → Option Value} {base : Heap} {x qual : Str} {st : Stmt} {f : Addr} {fd : FuncData} {N ps : List Str} {k : Nat} {sp : Sp}
theorem Fun.okE (F : Fun K x qual st f fd) (S : FnScope N ps (defScope st)) (len : ∀ vs H Q E, sp vs H Q E → vs.length = ps.length)
    (hbody : ∀ (cdv : Value) (A : Around) (outer : List Env) (s : Shared) (H : Hp) (vs : List V) (Q : VK) (E : XK), Room k (A.deeper (envOfC qual (defScope st) s.heap.objs.size f cdv)) → sp vs H Q E →
      ∃ t, PSs (cxOf (CXe P w) P w K mg base N qual (defScope st) f cdv A outer s H E).nox (defBody st) t ∧ t { nx := fun _ H' => Q .non H', rt := Q } (start N vs) H) : FnOk P w K mg base (CXe P w) (k + 1) f fd ps sp := by
  obtain ⟨oc, od, kV, doc, pm, an, cdv, ct, osl, rfl, lk, hcd⟩ := F.ex
  refine fn_of lk hcd S len fun A outer s H vs Q E hr hsp => ?_
  obtain ⟨t, h, q⟩ := hbody cdv A outer s H vs Q E hr hsp
  exact ⟨t, h.nox, q⟩
theorem Fun.okX (F : Fun K x qual st f fd) (S : FnScope N ps (defScope st)) (len : ∀ vs H Q E, sp vs H Q E → vs.length = ps.length)
    (hbody : ∀ (cdv : Value) (A : Around) (outer : List Env) (s : Shared) (H : Hp) (vs : List V) (Q : VK) (E : XK), Room k (A.deeper (envOfC qual (defScope st) s.heap.objs.size f cdv)) → sp vs H Q E →
      ∃ t, PSs (cxOf (CXe P w) P w K mg base N qual (defScope st) f cdv A outer s H E) (defBody st) t ∧ t { nx := fun _ H' => Q .non H', rt := Q } (start N vs) H) : FnOk P w K mg base (CXe P w) (k + 1) f fd ps sp := by
  obtain ⟨oc, od, kV, doc, pm, an, cdv, ct, osl, rfl, lk, hcd⟩ := F.ex
  exact fn_of lk hcd S len fun A outer s H vs Q E hr hsp => hbody cdv A outer s H vs Q E hr hsp
end
def Bd (n : Nat) (i : Int) : Prop := i.natAbs < 2 ^ n
theorem Bd.mono {m n : Nat} {i : Int} (h : Bd m i) (l : m ≤ n) : Bd n i := Nat.lt_of_lt_of_le h (Nat.pow_le_pow_right (by decide) l)
theorem Bd.mul {m n : Nat} {i j : Int} (h : Bd m i) (k : Bd n j) : Bd (m + n) (i * j) := by
  unfold Bd at *
  rw [Int.natAbs_mul, Nat.pow_add]
  exact Nat.mul_lt_mul'' h k
theorem Bd.add {n : Nat} {i j : Int} (h : Bd n i) (k : Bd n j) : Bd (n + 1) (i + j) := by
  unfold Bd at *
  have := Int.natAbs_add_le i j
  rw [Nat.pow_succ]
  omega
theorem Bd.neg {n : Nat} {i : Int} (h : Bd n i) : Bd n (-i) := by unfold Bd at *; rw [Int.natAbs_neg]; exact h
theorem Bd.le {n : Nat} {i j : Int} (h : Bd n i) (k : j.natAbs ≤ i.natAbs) : Bd n j := Nat.lt_of_le_of_lt k h
theorem Bd.log {n : Nat} {i : Int} (h : Bd n i) (z : i ≠ 0) : i.natAbs.log2 < n := (Nat.log2_lt (by omega)).mpr h
theorem Bd.bits {n : Nat} {i : Int} (h : Bd n i) : Builtin.Int.intBits i ≤ n := PySem.intBits_le_iff.mpr h
def CDivB (_ j : Int) : Prop := j ≠ 0 ∧ Bd 9000 j
def CMulB (i j : Int) : Prop := Bd 100000 i ∧ Bd 100000 j
theorem op_fdivB {X : Cx} : OpR X (binaryOp .FloorDiv) (rI CDivB fun i j => .int (i.fdiv j)) := opI fun _ _ _ _ _ _ _ hc q => floordiv_int hc.1 q (.inl (PyProof.noPylong_of_log2 (hc.2.log hc.1)))
theorem op_mulB {X : Cx} : OpR X (binaryOp .Mult) (rI CMulB fun i j => .int (i * j)) := opI fun _ _ _ _ _ _ _ hc q =>
  mul_int q (IntMulOk.of_bits (Nat.le_trans hc.1.bits (by decide)) (Nat.le_trans hc.2.bits (by decide)))
end L2
namespace L2
open PySem PySem.Spec PyProof.Rows
section
variable {prog : Program} {w : World} {A : Around} {R : Result → Shared → Prop} {s : Shared}
theorem comp_loop {elt target iter : Expr} {scope : Scope} {pos : Pos} {it acc : Value} {env : Env} (J : Nat → Shared → Prop)
    (turn : ∀ n s, J n s → wpAny (model prog w) A (pyNext it) (fun r s1 => match r with
      | none => R (.ok .next) s1
      | some v => wpAny (model prog w) A (letOwnedTupleGo target it v) (fun _ s2 => wpAny (model prog w) A (assign target env v) (fun _ s3 => wpAny (model prog w) A (eval elt env) (fun x s4 =>
          wpAny (model prog w) A (call (.builtin "list.append") [acc, x]) (fun _ s5 => ∃ m, m < n ∧ J m s5) (fun _ _ => False) s4) (fun _ _ => False) s3) (fun _ _ => False) s2) (fun _ _ => False) s1) (fun _ _ => False) s)
    (n : Nat) (h : J n s) : codeAny (model prog w) A (.compLoop (.ListComp elt [⟨target, iter, [], 0⟩] scope pos) 0 it acc env) R s := by
  refine codeAny_loop rfl J (fun n s hJ => ?_) n h
  show wpAny _ A ((compTurn (.ListComp elt [⟨target, iter, [], 0⟩] scope pos) 0 it acc env).onRaise (fun x => do noteFrame x env; theTreesLotGoes x)) _ _ s
  refine wpAny_noted ?_
  rw [compTurn_list1]
  have no : ∀ {P : Value → Shared → Prop} (a : Value) (b : Shared), (fun _ _ => False : Value → Shared → Prop) a b → P a b := fun _ _ z => False.elim z
  refine wpAny_bind (wpAny_standAt (wpAny_bind (wpAny_mono (turn n s hJ) (fun r s1 h1 => ?_) no)))
  cases r with
  | none => exact wpAny_pure h1
  | some v =>
    refine wpAny_bind (wpAny_mono h1 (fun _ s2 h2 => wpAny_bind (wpAny_mono h2 (fun _ s3 h3 => ?_) no)) no)
    exact wpAny_bind (wpAny_bind (wpAny_mono h3 (fun x s4 h4 => wpAny_bind (wpAny_mono h4 (fun _ s5 h5 => wpAny_pure (wpAny_pure ⟨rfl, h5⟩)) no)) no))
end
abbrev Cx.cp (X : Cx) (Nc : List Str) (scope : Scope) (cl : List (Str × Addr)) (C : Addr) (s₀ : Shared) (H₀ : Hp) (ex : List Addr) (pn : List (Addr × Obj)) : Cx :=
  { X with N := Nc, s₀ := s₀, H₀ := H₀, env := compEnvC scope cl C X.env, outer := X.stack, ex := ex, fn := fun _ => false, pn := pn, xe := fun _ _ => False }
def cσ (js : List (Option Nat)) (σ : St) : St := js.map fun o => o.bind fun j => (σ[j]?).join
def tComp (js : List (Option Nat)) (wi : TI) (g : TG) (te : TE) : TE := fun σ H Q => wi σ H fun J H1 => ∀ D, H1 D = none → ∃ W : Nat → Nat → List V → St → Hp → Prop, (∃ m, W 0 m [] (cσ js σ) (upd H1 D (.lst []))) ∧
  ∀ i m ys σc H, W i m ys σc H → (H D = some (.lst ys) ∧ J.stop i H ∧ Q (.ref D) H) ∨ (J.go i H ∧ ∀ x H', J.yld i H x H' → g x σc H' fun σ2 H2 => te σ2 H2 fun y H3 => H3 D = some (.lst ys) ∧ ys.length < sizeLine ∧ ∃ m', m' < m ∧ W (i + 1) m' (ys ++ [y]) σ2 (upd H3 D (.lst (ys ++ [y]))))
def PCo (X : Cx) (e : Expr) (scope : Scope) (iter : Expr) (t : TE) : Prop :=
  ∀ (pos : Pos) (use : Option (Value → Sem Unit)) (QQ : Value → Shared → Prop) (pins : List (Addr × Obj)) (s : Shared) (σ : St) (H : Hp) (Q : VK), Inv X pins σ H s → t σ H Q →
    (∀ (D C : Addr) (H5 : Hp) (s6 : Shared) (mC : Str → Option Value), Inv X pins σ H5 s6 → s6.heap.Ns C mC → FpOk X pins H5 C → Q (.ref D) H5 → compPost (model X.prog X.w) X.A X.xe use QQ (.ref D) C (.ok .next) s6) →
    wpAny (model X.prog X.w) X.A (comprehension e scope X.env pos (newList []) false (eval iter X.env) use) QQ X.xe s
theorem PCo.of {X : Cx} {e : Expr} {scope : Scope} {iter : Expr} {t t' : TE} (h : PCo X e scope iter t') (k : ∀ σ H Q, t σ H Q → t' σ H Q) : PCo X e scope iter t := fun pos use QQ pins s σ H Q I q fin => h pos use QQ pins s σ H Q I (k σ H Q q) fin
theorem PCo.pe {X : Cx} {elt iter tg : Expr} {scope : Scope} {pos : Pos} {t : TE} (h : PCo X (.ListComp elt [⟨tg, iter, [], 0⟩] scope pos) scope iter t) : PE X (.ListComp elt [⟨tg, iter, [], 0⟩] scope pos) t := by
  intro pins s σ H Q I q
  rw [eval_ListComp]
  exact h _ none (EP X pins σ Q) pins s σ H Q I q fun D C H5 s6 mC I7 hn fp qn => ⟨mC, hn, fun h8 sb => ⟨.ref D, H5, I7.turned (t' := s6.toks) (fun b o hb z => (sb.2 b hb).trans z) fp.1 fp.2.1 fp.2.2.2.1 fp.2.2.2.2.1 fp.2.2.2.2.2, rfl, qn⟩⟩
theorem PCo.ps {X : Cx} {elt iter tg : Expr} {scope : Scope} {cpos pos pos' : Pos} {t : TE} {i : Nat} {x : Str} (h : PCo X (.ListComp elt [⟨tg, iter, [], 0⟩] scope cpos) scope iter t) (hN : X.N.Nodup) (hi : X.N[i]? = some x) (hx : Loc X.env.scope x)
    (hsw : swapsWith (.ListComp elt [⟨tg, iter, [], 0⟩] scope cpos) (some (.Name x pos')) pos.line X.env = pure true := by rfl)
    (hf : X.fn x = true ∨ X.env.scope.names.lookup x = some .local := by first | exact .inl rfl | exact .inr rfl | assumption) : PS X (.Assign [.Name x pos'] (.ListComp elt [⟨tg, iter, [], 0⟩] scope cpos) pos) (tAsg t (gName i)) := by
  intro pins s σ H D0 I q
  rw [exec_Assign_Name_used _ _ _ _ hsw]
  refine wpAny_bind (wpAny_standAt (wpAny_bind ?_))
  show wpAny _ X.A (do let _ ← comprehension (.ListComp elt [⟨tg, iter, [], 0⟩] scope cpos) scope X.env _ (newList []) false (eval iter X.env) (some (assign (.Name x pos') X.env))) _ _ s
  refine wpAny_bind (wpAny_mono (h _ (some (assign (.Name x pos') X.env)) (fun _ s' => SP X pins D0 .next s') pins s σ H _ I q ?_) (fun _ s' hq => wpAny_pure (wpAny_pure hq)) fun _ _ e => e)
  intro D C H5 s6 mC I7 hn fp qn
  refine wpAny_assign_Name (store_ok2 (v := .ref D) I7 hN hi hx rfl (fun s8 I8 sb8 => ?_) hf)
  obtain ⟨a, sb, ha⟩ := sb8
  have hne : C ≠ a := by
    rcases ha with rfl | ha
    · exact fp.2.1
    · exact fun z => fp.2.2.2.2.1 _ _ ha z.symm
  refine ⟨mC, hn.sameBut sb hne, fun h9 sb9 => ⟨_, H5, ?_, qn⟩⟩
  exact I8.turned (t' := s8.toks) (fun b o hb z => (sb9.2 b hb).trans z) fp.1 fp.2.1 fp.2.2.2.1 fp.2.2.2.2.1 fp.2.2.2.2.2
theorem pe_comp {X : Cx} {elt iter tg : Expr} {scope : Scope} {cl : List (Str × Addr)} {Nc : List Str} {js : List (Option Nat)} {wi : TI} {g : TG} {te : TE} {pos : Pos} (hc : X.calm = true) (hi : PI X tg iter wi)
    (hg : ∀ C s₀ H₀ ex pn, PG (X.cp Nc scope cl C s₀ H₀ ex pn) tg g) (he : ∀ C s₀ H₀ ex pn, PE (X.cp Nc scope cl C s₀ H₀ ex pn) elt te)
    (hlen : js.length = Nc.length) (hcl1 : ∀ y c, cl.lookup y = some c → X.env.cells.lookup y = some c) (hcl2 : ∀ y, ((relabel scope X.env).names.lookup y = some .cell ∨ (relabel scope X.env).names.lookup y = some .free) → ∃ c, cl.lookup y = some c)
    (hjs : ∀ (i : Nat) (y : Str) (j : Nat), Nc[i]? = some y → js[i]? = some (some j) → X.N[j]? = some y ∧ Vis X.env.scope y ∧ X.env.kindOf y ≠ some .local ∧ ((relabel scope X.env).names.lookup y = some .cell ∨ (relabel scope X.env).names.lookup y = some .free) ∧ ∀ c, X.env.cells.lookup y = some c → cl.lookup y = some c)
    (hclos : closureFor scope X.env = pure cl) (hcell : ∀ y ∈ scope.names, y.2 ≠ .cell) (hkind : scope.kind = .function) (hnames : ∀ y ∈ scope.names, y.2 = .local → scope.names.lookup y.1 = some .local)
    (hs : ∀ x, foldedSetIterable iter X.env x = pure x := by intro _; rfl) : PCo X (.ListComp elt [⟨tg, iter, [], 0⟩] scope pos) scope iter (tComp js wi g te) := by
  intro pos0 use QQ pins s σ H Q I h fin
  refine wpAny_comprehension_free (use := use) rfl hs hclos hkind hnames (thn (hi pins s σ H _ I h) fun v s1 h1 => thn h1 fun itv s2 h2 => ?_)
  obtain ⟨it, fp, tn, J, H2, rfl, I2, T, st2, f2, R⟩ := h2
  refine wpAny_newObj_type (wpAny_newFunctionEnv hcell (by intro y hy; simp at hy) (fun h1 hns hsb => ?_) hkind)
  dsimp only at hns hsb ⊢
  have hf : H2 s2.heap.objs.size = none := I2.hok.fresh (Nat.le_refl _)
  obtain ⟨W, ⟨m0, w0⟩, turn⟩ := R s2.heap.objs.size hf
  -- D: the list; C: the block's names
  generalize eD : s2.heap.objs.size = D at *
  have I3 : Inv X pins σ (upd H2 D (.lst [])) { s2 with heap := s2.heap.push { cls := .type "list", dict := none, data := .seq ([] : List Value).toArray } } :=
    I2.laid (t' := s2.toks) (fun b u e => Heap.get?_push_of_some _ e) (by rw [eD]; exact Nat.le_refl _) ⟨Nat.zero_le _, [], 0, .nil, by rw [← eD]; exact Heap.get?_push_size _ rfl⟩
  generalize e3 : ({ s2 with heap := s2.heap.push { cls := .type "list", dict := none, data := .seq ([] : List Value).toArray } } : Shared) = s3 at I3
  have hp3 : s2.heap.push { cls := .type "list", dict := none, data := .seq ([] : List Value).toArray } = s3.heap := by rw [← e3]
  rw [hp3] at hns hsb ⊢
  generalize eC : s3.heap.objs.size = C at *
  have old : ∀ b o, s3.heap.get? b = some o → h1.get? b = some o := fun b o z => hsb.extBut b o (by rw [← eC]; exact Nat.ne_of_lt (Heap.lt_size z)) (Heap.get?_push_of_some _ z)
  have fpo : ∀ b ∈ fp, b < D := fun b hb => by
    obtain ⟨o, z, _⟩ := T.obj _ _ st2 b hb
    rw [← eD]; exact Heap.lt_size z
  have eCD : C = D + 1 := by rw [← eC, ← hp3, Heap.size_push, eD]
  have f3 : ∀ b ∈ fp, FpOk X pins (upd H2 D (.lst [])) b := fun b hb => ⟨by rw [upd_ne (Nat.ne_of_lt (fpo b hb))]; exact (f2 b hb).1, (f2 b hb).2⟩
  have okC : (X.cp Nc scope cl C s3 (upd H2 D (.lst [])) fp (X.pn ++ pins)).Ok := by
    have ok := I3.ok
    refine ⟨ok.mod, hkind, ok.glob, ok.blt, by rw [eC]; exact Nat.le_refl _, fun x y c a b => ok.inj x y c (hcl1 x c a) (hcl1 y c b), fun x hx => hcl2 x hx, fun x c z => absurd z Bool.false_ne_true, ok.hd, ok.frames, .inl rfl, fun b hb => ?_, fun b o z => I3.bs b o z, Nat.le_trans ok.bsz I3.sz, fun b o z hb => ?_, fun b hb hm => ?_, I3.stack, I3.stkFree⟩
    · exact ⟨by rw [eCD]; exact Nat.ne_of_lt (Nat.lt_succ_of_lt (fpo b hb)), fun x c z => (f3 b hb).2.2.2.2.1 x c (hcl1 x c z)⟩
    · rcases (f3 b hb).2.2.2.1 with y | y
      · exact ok.noex b o z y
      · exact absurd (Nat.lt_of_lt_of_le (Heap.lt_size z) (Nat.le_trans ok.bsz y)) (Nat.lt_irrefl _)
    · rcases List.mem_cons.mp (I3.stkSub b hm) with y | y
      · exact (f3 b hb).2.1 y
      · exact (f3 b hb).2.2.1 y
  have I4 : Inv (X.cp Nc scope cl C s3 (upd H2 D (.lst [])) fp (X.pn ++ pins)) [] (cσ js σ) (upd H2 D (.lst [])) { s2 with heap := h1, toks := s2.toks + ([] : List (Str × Value)).length } := by
    have os3 : s2.os = s3.os := by rw [← e3]
    have fC : upd H2 D (.lst []) C = none := I3.hok.fresh (by rw [eC]; exact Nat.le_refl _)
    refine ⟨okC, os3, I2.bare, Un.kept old, ⟨_, hns, fun i y v e1 e2 e3' => ?_⟩, fun y c z => ?_, fC, fun y c z => I3.freeC y c (hcl1 y c z), fun p hp => ?_, I3.hok.kept old, by rw [cσ, List.length_map]; exact hlen⟩
    · unfold cσ at e2
      rw [List.getElem?_map] at e2
      cases ej : js[i]? with
      | none => rw [ej] at e2; cases e2
      | some oj =>
        rw [ej] at e2
        cases oj with
        | none => cases e2
        | some j =>
          obtain ⟨a1, a2, a3, a4, a5⟩ := hjs i y j e1 ej
          have e2' : (σ[j]?).join = some v := Option.some.inj e2
          have e4 : σ[j]? = some (some v) := by
            cases q : σ[j]? with
            | none => rw [q] at e2'; cases e2'
            | some o => rw [q] at e2'; exact congrArg some e2'
          obtain ⟨m, hn, hl⟩ := I3.loc
          obtain ⟨u, r, l⟩ := hl j y v a1 e4 a2
          refine ⟨u, r, .inr ⟨a4, ?_⟩⟩
          rcases l with ⟨k, _⟩ | ⟨k, c, z, ⟨o, ho, hd⟩⟩
          · exact absurd k a3
          · exact ⟨c, a5 c z, o, old _ _ ho, hd⟩
    · obtain ⟨w', o, ho, hd⟩ := I3.cell y c (hcl1 y c z)
      exact ⟨w', o, old _ _ ho, hd⟩
    · have hp' : p ∈ X.pn ++ pins := by
        have z : p ∈ (X.pn ++ pins) ++ [] := hp
        rw [List.append_nil] at z; exact z
      obtain ⟨z, n, ne, nf, d⟩ := I3.pin p hp'
      refine ⟨old _ _ z, n, by rw [← eC]; exact Nat.ne_of_lt (Heap.lt_size z), fun hm => ?_, d⟩
      rcases List.mem_cons.mp (I3.stkSub p.1 hm) with y | y
      · exact ne y
      · exact nf y
  have st4 : tn 0 h1 := T.keep _ _ _ st2 fun b hb o z => old b o (by rw [← hp3]; exact Heap.get?_push_of_some _ z)
  have stat : ∀ {H' : Hp}, (∀ b ∈ fp, H' b = none) → ∀ b ∈ fp, FpOk (X.cp Nc scope cl C s3 (upd H2 D (.lst [])) fp (X.pn ++ pins)) [] H' b := fun hn b hb =>
    ⟨hn b hb, (okC.exf b hb).1, okC.exfs b hb, .inl hb, (okC.exf b hb).2 |> fun q x c z => q x c z, fun p hp => (f3 b hb).2.2.2.2.2 p (by
      have z : p ∈ (X.pn ++ pins) ++ [] := hp
      rw [List.append_nil] at z; exact z)⟩
  have loop : codeAny (model X.prog X.w) X.A (.compLoop (.ListComp elt [⟨tg, iter, [], 0⟩] scope pos) 0 (.ref it) (.ref D) (compEnvC scope cl C X.env)) (compPost (model X.prog X.w) X.A X.xe use QQ (.ref D) C) { s2 with heap := h1, toks := s2.toks + ([] : List (Str × Value)).length } := by
    refine comp_loop (fun n s' => ∃ i ys σc H', Inv (X.cp Nc scope cl C s3 (upd H2 D (.lst [])) fp (X.pn ++ pins)) [] σc H' s' ∧ tn i s'.heap ∧ (∀ b ∈ fp, H' b = none) ∧ W i n ys σc H') ?_ m0 ⟨0, [], _, _, I4, st4, fun b hb => (f3 b hb).1, w0⟩
    rintro n s5 ⟨i, ys, σ5, H5, I5, st5, fr5, w5⟩
    rcases turn i n ys σ5 H5 w5 with ⟨hD, stop, qn⟩ | ⟨go, step⟩
    · refine thn (T.done (X.cp Nc scope cl C s3 (upd H2 D (.lst [])) fp (X.pn ++ pins)) rfl rfl rfl hc i [] s5 σ5 H5 _ I5 (stat fr5) st5 stop) fun r s6 ⟨hr, I6⟩ => ?_
      subst hr
      obtain ⟨mC, hnC, _⟩ := id I6.loc
      have I7 : Inv X pins σ H5 s6 := I3.call' (ch := fp) I6.os I6.base I6.hok I6.bare fun b hb => ⟨(f3 b hb).2.2.2.1, (f3 b hb).2.1, (f3 b hb).2.2.2.2.1, (f3 b hb).2.2.2.2.2⟩
      have nC : s3.heap.objs.size ≤ C := by rw [eC]; exact Nat.le_refl _
      exact fin D C H5 s6 mC I7 hnC (I3.fpOk nC I6.free) qn
    · refine thn (T.item (X.cp Nc scope cl C s3 (upd H2 D (.lst [])) fp (X.pn ++ pins)) rfl rfl rfl hc i [] s5 σ5 H5 _ I5 (stat fr5) st5 go) fun r s6 ⟨u, hr, h6⟩ => ?_
      subst hr
      refine thn h6 fun _ s7 ⟨x, H7, I7, r7, y7, st7, fr7⟩ => ?_
      have I7' := I7.pinned (stat fr7) (T.obj _ _ st7)
      refine thn (hg C s3 _ fp _ _ s7 σ5 H7 x u _ I7' r7 (step x H7 y7)) fun _ s8 ⟨σ8, H8, I8, q8⟩ => ?_
      refine thn (he C s3 _ fp _ _ s8 σ8 H8 _ I8 q8) fun v9 s9 ⟨y9, H9, I9, r9, hD9, hz9, m9, lt9, w9⟩ => ?_
      refine thn (mt_append (X := X.cp Nc scope cl C s3 (upd H2 D (.lst [])) fp (X.pn ++ pins)) _ s9 σ8 H9 (.ref D) [y9] (.ref D) [v9] (fun _ H10 => H10 = upd H9 D (.lst (ys ++ [y9]))) I9 rfl (.cons r9 .nil) ⟨D, ys, y9, rfl, rfl, hD9, hz9, rfl⟩) fun v10 s10 ⟨_, H10, I10, _, e10⟩ => ?_
      subst e10
      refine ⟨m9, lt9, i + 1, ys ++ [y9], σ8, _, I10.unpinned, T.keep _ _ _ st7 fun b hb o z => (I10.pin (b, o) (List.mem_append_right _ (List.mem_append_right _ (mem_pinsAt hb z)))).1, fun b hb => ?_, w9⟩
      obtain ⟨o, z, d⟩ := T.obj _ _ st7 b hb
      exact (I10.pin (b, o) (List.mem_append_right _ (List.mem_append_right _ (mem_pinsAt hb z)))).2.1
  exact codeAny_compStart_list loop (T.self X.A 0 _ _ _ st4 loop)
end L2
namespace L2
open PySem PySem.Spec PyProof.Rows
inductive Dt where
  | non | bl (b : Bool) | int (i : Int) | str (x : Str) | tup (l : List Dt) | lst (l : List Dt)
mutual
def Rep (K : PySem.W.Frag) (H : Hp) : Dt → V → Prop
  | .non, v => v = .non
  | .bl b, v => v = .bl b
  | .int i, v => v = .int i
  | .str x, v => v = .str x
  | .tup l, v => ∃ a xs, v = .ref a ∧ SqT K H a xs ∧ Reps K H l xs
  | .lst l, v => ∃ a xs, v = .ref a ∧ SqL K H a xs ∧ Reps K H l xs
def Reps (K : PySem.W.Frag) (H : Hp) : List Dt → List V → Prop
  | [], xs => xs = []
  | d :: l, xs => ∃ x r, xs = x :: r ∧ Rep K H d x ∧ Reps K H l r
end
mutual
def Dt.sim : Dt → Dt → Bool
  | .non, .non => true
  | .bl _, .bl _ => true
  | .int _, .int _ => true
  | .str _, .str _ => true
  | .tup l, .tup m => Dt.sims l m
  | .lst l, .lst m => Dt.sims l m
  | _, _ => false
def Dt.sims : List Dt → List Dt → Bool
  | d :: l, e :: m => Dt.sim d e && Dt.sims l m
  | _, _ => true
end
mutual
def Dt.eqb : Dt → Dt → Bool
  | .non, .non => true
  | .bl a, .bl b => a == b
  | .int a, .int b => a == b
  | .str a, .str b => a == b
  | .tup l, .tup m => Dt.eqbs l m
  | .lst l, .lst m => Dt.eqbs l m
  | _, _ => false
def Dt.eqbs : List Dt → List Dt → Bool
  | [], [] => true
  | d :: l, e :: m => Dt.eqb d e && Dt.eqbs l m
  | _, _ => false
end
mutual
def Dt.dep : Dt → Nat
  | .tup l => Dt.deps l + 1
  | .lst l => Dt.deps l + 1
  | _ => 0
def Dt.deps : List Dt → Nat
  | [] => 0
  | d :: l => max (Dt.dep d) (Dt.deps l)
end
mutual
theorem Dt.eqb_refl : ∀ d : Dt, Dt.eqb d d = true
  | .non => rfl
  | .bl b => by simp [Dt.eqb]
  | .int i => by simp [Dt.eqb]
  | .str x => by simp [Dt.eqb]
  | .tup l => by rw [Dt.eqb]; exact Dt.eqbs_refl l
  | .lst l => by rw [Dt.eqb]; exact Dt.eqbs_refl l
theorem Dt.eqbs_refl : ∀ l : List Dt, Dt.eqbs l l = true
  | [] => rfl
  | d :: l => by rw [Dt.eqbs, Dt.eqb_refl d, Dt.eqbs_refl l]; rfl
end
mutual
theorem Dt.sim_refl : ∀ d : Dt, Dt.sim d d = true
  | .non => rfl
  | .bl b => rfl
  | .int i => rfl
  | .str x => rfl
  | .tup l => by rw [Dt.sim]; exact Dt.sims_refl l
  | .lst l => by rw [Dt.sim]; exact Dt.sims_refl l
theorem Dt.sims_refl : ∀ l : List Dt, Dt.sims l l = true
  | [] => rfl
  | d :: l => by rw [Dt.sims, Dt.sim_refl d, Dt.sims_refl l]; rfl
end
section
variable {X : Cx} {pins : List (Addr × Obj)} {σ : St} {H : Hp} {s : Shared}
theorem Inv.lt_inj (I : Inv X pins σ H s) {a : Addr} {xs ys : List V} (h : SqL X.K H a xs) (h' : SqT X.K H a ys) : False := by
  obtain ⟨its, _, ⟨ob, n, p, c', _⟩, _⟩ := I.list h
  obtain ⟨its', _, ⟨o, q, c, _⟩, _⟩ := I.tuple h'
  rw [p] at q
  cases q
  rw [c'] at c
  exact absurd c (by decide)
mutual
theorem Rep.inj (I : Inv X pins σ H s) : ∀ (d e : Dt) (v : V), Rep X.K H d v → Rep X.K H e v → d = e := by
  intro d e v h k
  match d, e with
  | .non, .non => rfl
  | .bl a, .bl b => simp only [Rep] at h k; subst h; cases k; rfl
  | .int a, .int b => simp only [Rep] at h k; subst h; cases k; rfl
  | .str a, .str b => simp only [Rep] at h k; subst h; cases k; rfl
  | .tup l, .tup m =>
    simp only [Rep] at h k
    obtain ⟨a, xs, rfl, s1, r1⟩ := h
    obtain ⟨b, ys, e, s2, r2⟩ := k
    cases e
    rw [I.tuple_inj s2 s1] at r2
    rw [Reps.inj I l m xs r1 r2]
  | .lst l, .lst m =>
    simp only [Rep] at h k
    obtain ⟨a, xs, rfl, s1, r1⟩ := h
    obtain ⟨b, ys, e, s2, r2⟩ := k
    cases e
    rw [I.list_inj s2 s1] at r2
    rw [Reps.inj I l m xs r1 r2]
  | .tup l, .lst m =>
    simp only [Rep] at h k
    obtain ⟨a, xs, rfl, s1, r1⟩ := h
    obtain ⟨b, ys, e, s2, r2⟩ := k
    cases e
    exact (I.lt_inj s2 s1).elim
  | .lst l, .tup m =>
    simp only [Rep] at h k
    obtain ⟨a, xs, rfl, s1, r1⟩ := h
    obtain ⟨b, ys, e, s2, r2⟩ := k
    cases e
    exact (I.lt_inj s1 s2).elim
  | .non, .bl _ | .non, .int _ | .non, .str _ | .bl _, .non | .bl _, .int _ | .bl _, .str _ | .int _, .non | .int _, .bl _ | .int _, .str _ | .str _, .non | .str _, .bl _ | .str _, .int _ => simp only [Rep] at h k; subst h; cases k
  | .non, .tup _ | .bl _, .tup _ | .int _, .tup _ | .str _, .tup _ | .non, .lst _ | .bl _, .lst _ | .int _, .lst _ | .str _, .lst _ => simp only [Rep] at h k; subst h; obtain ⟨b, ys, e, _⟩ := k; cases e
  | .tup _, .non | .tup _, .bl _ | .tup _, .int _ | .tup _, .str _ | .lst _, .non | .lst _, .bl _ | .lst _, .int _ | .lst _, .str _ => simp only [Rep] at h k; subst k; obtain ⟨b, ys, e, _⟩ := h; cases e
theorem Reps.inj (I : Inv X pins σ H s) : ∀ (l m : List Dt) (xs : List V), Reps X.K H l xs → Reps X.K H m xs → l = m := by
  intro l m xs h k
  match l, m with
  | [], [] => rfl
  | [], e :: m => simp only [Reps] at h k; subst h; obtain ⟨x, r, z, _⟩ := k; cases z
  | d :: l, [] => simp only [Reps] at h k; subst k; obtain ⟨x, r, z, _⟩ := h; cases z
  | d :: l, e :: m =>
    simp only [Reps] at h k
    obtain ⟨x, r, rfl, h1, h2⟩ := h
    obtain ⟨y, q, z, k1, k2⟩ := k
    cases z
    rw [Rep.inj I d e x h1 k1, Reps.inj I l m r h2 k2]
end
theorem Reps.len {K : PySem.W.Frag} {H : Hp} : ∀ {l : List Dt} {xs : List V}, Reps K H l xs → l.length = xs.length
  | [], xs, h => by simp only [Reps] at h; rw [h]; rfl
  | d :: l, xs, h => by
    simp only [Reps] at h
    obtain ⟨x, r, rfl, _, h2⟩ := h
    simp [Reps.len h2]
theorem Reps.at {K : PySem.W.Frag} {H : Hp} : ∀ {l : List Dt} {xs : List V} {j : Nat} {d : Dt}, Reps K H l xs → l[j]? = some d → ∃ x, xs[j]? = some x ∧ Rep K H d x
  | [], _, _, _, _, e => by simp at e
  | d0 :: l, xs, 0, d, h, e => by
    simp only [Reps] at h
    obtain ⟨x, r, rfl, h1, _⟩ := h
    simp at e; subst e
    exact ⟨x, rfl, h1⟩
  | d0 :: l, xs, j + 1, d, h, e => by
    simp only [Reps] at h
    obtain ⟨x, r, rfl, _, h2⟩ := h
    obtain ⟨y, e1, e2⟩ := Reps.at (j := j) h2 (by simpa using e)
    exact ⟨y, by simpa using e1, e2⟩
theorem Dt.deps_at : ∀ {l : List Dt} {j : Nat} {d : Dt}, l[j]? = some d → d.dep ≤ Dt.deps l
  | [], _, _, e => by simp at e
  | d0 :: l, 0, d, e => by simp at e; subst e; rw [Dt.deps]; exact Nat.le_max_left _ _
  | d0 :: l, j + 1, d, e => by rw [Dt.deps]; exact Nat.le_trans (Dt.deps_at (j := j) (by simpa using e)) (Nat.le_max_right _ _)
theorem Dt.sims_at : ∀ {l m : List Dt} {j : Nat} {d e : Dt}, Dt.sims l m = true → l[j]? = some d → m[j]? = some e → d.sim e = true
  | [], _, _, _, _, _, z, _ => by simp at z
  | _ :: _, [], _, _, _, _, _, z => by simp at z
  | d0 :: l, e0 :: m, 0, d, e, h, z1, z2 => by
    rw [Dt.sims] at h
    simp at z1 z2; subst z1 z2
    exact (Bool.and_eq_true_iff.mp h).1
  | d0 :: l, e0 :: m, j + 1, d, e, h, z1, z2 => by
    rw [Dt.sims] at h
    exact Dt.sims_at (j := j) (Bool.and_eq_true_iff.mp h).2 (by simpa using z1) (by simpa using z2)
theorem Dt.eqbs_all : ∀ {l m : List Dt}, l.length = m.length → Dt.eqbs l m = (List.range l.length).all fun j => match l[j]?, m[j]? with | some d, some e => d.eqb e | _, _ => true
  | [], [], _ => rfl
  | d :: l, e :: m, h => by
    have h' : l.length = m.length := by simpa using h
    rw [Dt.eqbs, Dt.eqbs_all h', List.length_cons, List.range_succ_eq_map, List.all_cons, List.all_map]
    rfl
theorem Dt.eqbs_len : ∀ {l m : List Dt}, l.length ≠ m.length → Dt.eqbs l m = false
  | [], [], h => absurd rfl h
  | [], _ :: _, _ => rfl
  | _ :: _, [], _ => rfl
  | d :: l, e :: m, h => by rw [Dt.eqbs, Dt.eqbs_len (by simpa using h), Bool.and_false]
def pairE (l m : List Dt) (j : Nat) : Bool := match l[j]?, m[j]? with | some d, some e => d.eqb e | _, _ => true
theorem items_at (I : Inv X pins σ H s) {k : Nat} {A : Around} {l m : List Dt} {xs ys : List V} {us vs : List Value}
    (ih : ∀ (A : Around) (d e : Dt) (x y : V) (u v : Value), d.dep ≤ k → A.units + k < cLine → d.sim e = true → Rep X.K H d x → Rep X.K H e y → RelV x u → RelV y v → SeqAt.EqAt A s u v (d.eqb e))
    (hd : Dt.deps l ≤ k) (hu : A.units + (k + 1) < cLine) (hs : Dt.sims l m = true) (r1 : Reps X.K H l xs) (r2 : Reps X.K H m ys) (v1 : Vals xs us) (v2 : Vals ys vs) :
    ∀ j (h1 : j < us.toArray.size) (h2 : j < vs.toArray.size), SeqAt.EqAt A.in1 s us.toArray[j] vs.toArray[j] (pairE l m j) := by
  intro j h1 h2
  have l1 : j < us.length := by simpa using h1
  have l2 : j < vs.length := by simpa using h2
  have n1 : l.length = us.length := r1.len.trans v1.length
  have n2 : m.length = vs.length := r2.len.trans v2.length
  obtain ⟨d, ed⟩ : ∃ d, l[j]? = some d := ⟨l[j], List.getElem?_eq_getElem (by omega)⟩
  obtain ⟨e, ee⟩ : ∃ e, m[j]? = some e := ⟨m[j], List.getElem?_eq_getElem (by omega)⟩
  obtain ⟨x, ex, rx⟩ := r1.at ed
  obtain ⟨y, ey, ry⟩ := r2.at ee
  obtain ⟨u, eu, ru⟩ := v1.get ex
  obtain ⟨v, ev, rv⟩ := v2.get ey
  have e1 : us.toArray[j] = u := by
    have := List.getElem?_eq_getElem l1
    rw [eu] at this
    simpa using (Option.some.inj this).symm
  have e2 : vs.toArray[j] = v := by
    have := List.getElem?_eq_getElem l2
    rw [ev] at this
    simpa using (Option.some.inj this).symm
  have ep : pairE l m j = d.eqb e := by unfold pairE; rw [ed, ee]
  rw [e1, e2, ep]
  exact ih A.in1 d e x y u v (Nat.le_trans (Dt.deps_at ed) hd) (by show A.units + 1 + k < cLine; omega) (Dt.sims_at hs ed ee) rx ry ru rv
theorem tup_b {l m : List Dt} {us vs : List Value} (n1 : l.length = us.length) (n2 : m.length = vs.length) : ((List.range (min us.toArray.size vs.toArray.size)).all (pairE l m) && us.toArray.size == vs.toArray.size) = Dt.eqbs l m := by
  have a1 : us.toArray.size = l.length := by simp [n1]
  have a2 : vs.toArray.size = m.length := by simp [n2]
  rw [a1, a2]
  by_cases h : l.length = m.length
  · rw [Dt.eqbs_all h, h, Nat.min_self]
    simp [pairE]
    rfl
  · rw [Dt.eqbs_len h, (beq_eq_false_iff_ne).mpr h, Bool.and_false]
theorem lst_b {l m : List Dt} {us vs : List Value} (n1 : l.length = us.length) (n2 : m.length = vs.length) (h : us.toArray.size = vs.toArray.size) : (List.range us.toArray.size).all (pairE l m) = Dt.eqbs l m := by
  have a1 : us.toArray.size = l.length := by simp [n1]
  have a2 : vs.toArray.size = m.length := by simp [n2]
  rw [Dt.eqbs_all (by omega), a1]
  rfl
theorem rc_tup (I : Inv X pins σ H s) {k : Nat} {A : Around} {l m : List Dt} {a b : Addr} {xs ys : List V}
    (ih : ∀ (A : Around) (d e : Dt) (x y : V) (u v : Value), d.dep ≤ k → A.units + k < cLine → d.sim e = true → Rep X.K H d x → Rep X.K H e y → RelV x u → RelV y v → SeqAt.EqAt A s u v (d.eqb e))
    (hd : Dt.deps l ≤ k) (hu : A.units + (k + 1) < cLine) (hs : Dt.sims l m = true) (q1 : SqT X.K H a xs) (q2 : SqT X.K H b ys) (r1 : Reps X.K H l xs) (r2 : Reps X.K H m ys) :
    SeqAt.RcAt A s (.ref a) (.ref b) (Dt.eqbs l m) ∧ SeqAt.RcNeAt A s (.ref a) (.ref b) (!Dt.eqbs l m) := by
  obtain ⟨us, v1, p1, _⟩ := I.tuple q1
  obtain ⟨vs, v2, p2, _⟩ := I.tuple q2
  have he := items_at I ih hd hu hs r1 r2 v1 v2
  rw [← tup_b (l := l) (m := m) (us := us) (vs := vs) (r1.len.trans v1.length) (r2.len.trans v2.length)]
  exact ⟨SeqAt.RcAt.tuples (show s.heap.IsTuple a us.toArray from p1) (show s.heap.IsTuple b vs.toArray from p2) (by omega) he, SeqAt.RcNeAt.tuples (show s.heap.IsTuple a us.toArray from p1) (show s.heap.IsTuple b vs.toArray from p2) (by omega) he⟩
theorem rc_lst (I : Inv X pins σ H s) {k : Nat} {A : Around} {l m : List Dt} {a b : Addr} {xs ys : List V}
    (ih : ∀ (A : Around) (d e : Dt) (x y : V) (u v : Value), d.dep ≤ k → A.units + k < cLine → d.sim e = true → Rep X.K H d x → Rep X.K H e y → RelV x u → RelV y v → SeqAt.EqAt A s u v (d.eqb e))
    (hd : Dt.deps l ≤ k) (hu : A.units + (k + 1) < cLine) (hs : Dt.sims l m = true) (q1 : SqL X.K H a xs) (q2 : SqL X.K H b ys) (r1 : Reps X.K H l xs) (r2 : Reps X.K H m ys) :
    SeqAt.RcAt A s (.ref a) (.ref b) (Dt.eqbs l m) ∧ SeqAt.RcNeAt A s (.ref a) (.ref b) (!Dt.eqbs l m) := by
  obtain ⟨us, v1, p1, _⟩ := I.list q1
  obtain ⟨vs, v2, p2, _⟩ := I.list q2
  have he := items_at I ih hd hu hs r1 r2 v1 v2
  by_cases hsz : us.toArray.size = vs.toArray.size
  · rw [← lst_b (l := l) (m := m) (us := us) (vs := vs) (r1.len.trans v1.length) (r2.len.trans v2.length) hsz]
    exact ⟨SeqAt.RcAt.lists p1.isList p2.isList hsz (by omega) he, SeqAt.RcNeAt.lists p1.isList p2.isList hsz (by omega) he⟩
  · have hl : l.length ≠ m.length := fun z => hsz (by
      have a1 := r1.len.trans v1.length
      have a2 := r2.len.trans v2.length
      simp; omega)
    rw [Dt.eqbs_len hl]
    exact ⟨SeqAt.RcAt.lists_lengths p1.isList p2.isList (by simpa using hsz) (by omega), SeqAt.RcNeAt.lists_lengths p1.isList p2.isList (by simpa using hsz) (by omega)⟩
theorem eq_at (I : Inv X pins σ H s) : ∀ (k : Nat) (A : Around) (d e : Dt) (x y : V) (u v : Value), d.dep ≤ k → A.units + k < cLine → d.sim e = true → Rep X.K H d x → Rep X.K H e y → RelV x u → RelV y v → SeqAt.EqAt A s u v (d.eqb e) := by
  intro k
  induction k with
  | zero =>
    intro A d e x y u v hd hu hs h1 h2 r1 r2
    match d, e with
    | .non, .non => simp only [Rep] at h1 h2; subst h1 h2; cases r1; cases r2; exact SeqAt.EqAt.same _
    | .bl a, .bl b => simp only [Rep] at h1 h2; subst h1 h2; cases r1; cases r2; exact SeqAt.EqAt.bool_bool a b
    | .int a, .int b => simp only [Rep] at h1 h2; subst h1 h2; obtain ⟨t, rfl⟩ := r1; obtain ⟨t', rfl⟩ := r2; exact SeqAt.EqAt.int_int a t b t'
    | .str a, .str b => simp only [Rep] at h1 h2; subst h1 h2; obtain ⟨t, rfl⟩ := r1; obtain ⟨t', rfl⟩ := r2; exact SeqAt.EqAt.str_str a t b t'
    | .tup l, _ => rw [Dt.dep] at hd; omega
    | .lst l, _ => rw [Dt.dep] at hd; omega
  | succ k ih =>
    intro A d e x y u v hd hu hs h1 h2 r1 r2
    match d, e with
    | .non, .non => simp only [Rep] at h1 h2; subst h1 h2; cases r1; cases r2; exact SeqAt.EqAt.same _
    | .bl a, .bl b => simp only [Rep] at h1 h2; subst h1 h2; cases r1; cases r2; exact SeqAt.EqAt.bool_bool a b
    | .int a, .int b => simp only [Rep] at h1 h2; subst h1 h2; obtain ⟨t, rfl⟩ := r1; obtain ⟨t', rfl⟩ := r2; exact SeqAt.EqAt.int_int a t b t'
    | .str a, .str b => simp only [Rep] at h1 h2; subst h1 h2; obtain ⟨t, rfl⟩ := r1; obtain ⟨t', rfl⟩ := r2; exact SeqAt.EqAt.str_str a t b t'
    | .tup l, .tup m =>
      have g1 := h1
      have g2 := h2
      simp only [Rep] at h1 h2
      obtain ⟨a, xs, rfl, q1, p1⟩ := h1
      obtain ⟨b, ys, rfl, q2, p2⟩ := h2
      cases r1; cases r2
      by_cases hab : a = b
      · subst hab
        rw [← Rep.inj I _ _ _ g1 g2, Dt.eqb_refl]
        exact SeqAt.EqAt.same _
      · rw [Dt.eqb]
        exact SeqAt.EqAt.of_refs hab (rc_tup I ih (by rw [Dt.dep] at hd; omega) hu (by rw [Dt.sim] at hs; exact hs) q1 q2 p1 p2).1
    | .lst l, .lst m =>
      have g1 := h1
      have g2 := h2
      simp only [Rep] at h1 h2
      obtain ⟨a, xs, rfl, q1, p1⟩ := h1
      obtain ⟨b, ys, rfl, q2, p2⟩ := h2
      cases r1; cases r2
      by_cases hab : a = b
      · subst hab
        rw [← Rep.inj I _ _ _ g1 g2, Dt.eqb_refl]
        exact SeqAt.EqAt.same _
      · rw [Dt.eqb]
        exact SeqAt.EqAt.of_refs hab (rc_lst I ih (by rw [Dt.dep] at hd; omega) hu (by rw [Dt.sim] at hs; exact hs) q1 q2 p1 p2).1
end
def rEqD (K : PySem.W.Frag) (ne : Bool) : R2 := fun x y H Q => ∃ d e, Rep K H d x ∧ Rep K H e y ∧ d.sim e = true ∧ 1 ≤ d.dep ∧ d.dep ≤ 60 ∧ Q (.bl (if ne then !d.eqb e else d.eqb e)) H
theorem eqD_at {X : Cx} {pins : List (Addr × Obj)} {σ : St} {H : Hp} {s : Shared} (I : Inv X pins σ H s) (hu : X.A.units + 64 < cLine) {d e : Dt} {x y : V} {u v : Value} (h1 : Rep X.K H d x) (h2 : Rep X.K H e y) (hs : d.sim e = true) (hd : 1 ≤ d.dep) (hd2 : d.dep ≤ 60) (r1 : RelV x u) (r2 : RelV y v) :
    SeqAt.RcAt X.A s u v (d.eqb e) ∧ SeqAt.RcNeAt X.A s u v (!d.eqb e) := by
  cases d with
  | tup l =>
    cases e with
    | tup m =>
      simp only [Rep] at h1 h2
      obtain ⟨a, xs, rfl, q1, p1⟩ := h1
      obtain ⟨b, ys, rfl, q2, p2⟩ := h2
      cases r1; cases r2
      rw [show Dt.eqb (.tup l) (.tup m) = Dt.eqbs l m from by rw [Dt.eqb]]
      have hd3 : Dt.deps l + 1 ≤ 60 := by rw [Dt.dep] at hd2; exact hd2
      exact rc_tup I (eq_at I (Dt.deps l)) (Nat.le_refl _) (by omega) (by rw [Dt.sim] at hs; exact hs) q1 q2 p1 p2
    | _ => exact absurd hs (by rw [Dt.sim] <;> simp)
  | lst l =>
    cases e with
    | lst m =>
      simp only [Rep] at h1 h2
      obtain ⟨a, xs, rfl, q1, p1⟩ := h1
      obtain ⟨b, ys, rfl, q2, p2⟩ := h2
      cases r1; cases r2
      rw [show Dt.eqb (.lst l) (.lst m) = Dt.eqbs l m from by rw [Dt.eqb]]
      have hd3 : Dt.deps l + 1 ≤ 60 := by rw [Dt.dep] at hd2; exact hd2
      exact rc_lst I (eq_at I (Dt.deps l)) (Nat.le_refl _) (by omega) (by rw [Dt.sim] at hs; exact hs) q1 q2 p1 p2
    | _ => exact absurd hs (by rw [Dt.sim] <;> simp)
  | non => exact absurd (show 1 ≤ 0 from hd) (by decide)
  | bl b => exact absurd (show 1 ≤ 0 from hd) (by decide)
  | int b => exact absurd (show 1 ≤ 0 from hd) (by decide)
  | str b => exact absurd (show 1 ≤ 0 from hd) (by decide)
theorem op_eqD {X : Cx} (hu : X.A.units + 64 < cLine) : OpR X (compareOp .Eq) (rEqD X.K false) := by
  intro pins s σ H x y v u Q I rx ry h
  obtain ⟨d, e, h1, h2, hs, hd, hd2, q⟩ := h
  exact (eqD_at I hu h1 h2 hs hd hd2 rx ry).1 _ _ _ _ ⟨.bl (d.eqb e), H, I, rfl, q⟩
theorem op_neD {X : Cx} (hu : X.A.units + 64 < cLine) : OpR X (compareOp .NotEq) (rEqD X.K true) := by
  intro pins s σ H x y v u Q I rx ry h
  obtain ⟨d, e, h1, h2, hs, hd, hd2, q⟩ := h
  exact (eqD_at I hu h1 h2 hs hd hd2 rx ry).2 _ _ _ _ ⟨.bl (!d.eqb e), H, I, rfl, q⟩
end L2
namespace L2
open PySem PySem.Spec PyProof.Rows
theorem rel_mem {scope : Scope} {env : Env} {y : Str} {k : NameKind} (h : (relabel scope env).names.lookup y = some k) (hk : k = .cell ∨ k = .free) (hc : ∀ p ∈ scope.names, p.2 ≠ .cell) : (y, NameKind.free) ∈ scope.names := by
  have m := PySem.mem_of_lookup h
  obtain ⟨⟨n, k'⟩, hm, e⟩ := List.mem_map.mp (show (y, k) ∈ scope.names.map _ from m)
  dsimp only at e
  split at e
  · rename_i q
    cases e
    have z : (k' == NameKind.free) = true := (Bool.and_eq_true_iff.mp (Bool.and_eq_true_iff.mp q).1).1
    rw [beq_iff_eq.mp z] at hm
    exact hm
  · cases e
    rcases hk with rfl | rfl
    · exact absurd rfl (hc _ hm)
    · exact hm
theorem pe_comp0 {X : Cx} {elt iter tg : Expr} {scope : Scope} (Nc : List Str) {wi : TI} {g : TG} {te : TE} {pos : Pos} (hc : X.calm = true) (hi : PI X tg iter wi)
    (hg : ∀ C s₀ H₀ ex pn, PG (X.cp Nc scope [] C s₀ H₀ ex pn) tg g) (he : ∀ C s₀ H₀ ex pn, PE (X.cp Nc scope [] C s₀ H₀ ex pn) elt te)
    (hnf : ∀ p ∈ scope.names, p.2 ≠ .free := by decide +kernel) (hcell : ∀ y ∈ scope.names, y.2 ≠ .cell := by decide +kernel) (hkind : scope.kind = .function := by rfl) (hnames : ∀ y ∈ scope.names, y.2 = .local → scope.names.lookup y.1 = some .local := by decide +kernel)
    (hs : ∀ x, foldedSetIterable iter X.env x = pure x := by intro _; rfl) : PCo X (.ListComp elt [⟨tg, iter, [], 0⟩] scope pos) scope iter (tComp (Nc.map fun _ => none) wi g te) :=
  pe_comp (cl := []) (Nc := Nc) hc hi hg he (by simp) (fun _ _ h => nomatch h) (fun y h => absurd rfl (hnf _ (h.elim (fun z => rel_mem z (.inl rfl) hcell) fun z => rel_mem z (.inr rfl) hcell)))
    (fun i y j _ h => by
      rw [List.getElem?_map] at h
      cases q : Nc[i]? with
      | none => rw [q] at h; cases h
      | some z => rw [q] at h; cases h) (closureFor_none hnf) hcell hkind hnames hs
theorem pe_comp1 {X : Cx} {elt iter tg : Expr} {scope : Scope} (Nl : List Str) (y : Str) (j : Nat) {c : Addr} {wi : TI} {g : TG} {te : TE} {pos : Pos} (hc : X.calm = true) (hi : PI X tg iter wi)
    (hg : ∀ C s₀ H₀ ex pn, PG (X.cp (Nl ++ [y]) scope [(y, c)] C s₀ H₀ ex pn) tg g) (he : ∀ C s₀ H₀ ex pn, PE (X.cp (Nl ++ [y]) scope [(y, c)] C s₀ H₀ ex pn) elt te)
    (hclos : closureFor scope X.env = pure [(y, c)]) (hy : X.env.cells.lookup y = some c) (hN : X.N[j]? = some y) (hk : X.env.kindOf y = some .cell) (hb : (relabel scope X.env).names.lookup y = some .cell)
    (h1 : ∀ p ∈ scope.names, p.2 = .free → p.1 = y := by decide +kernel) (hcell : ∀ y ∈ scope.names, y.2 ≠ .cell := by decide +kernel) (hkind : scope.kind = .function := by rfl) (hnames : ∀ y ∈ scope.names, y.2 = .local → scope.names.lookup y.1 = some .local := by decide +kernel)
    (hs : ∀ x, foldedSetIterable iter X.env x = pure x := by intro _; rfl) : PCo X (.ListComp elt [⟨tg, iter, [], 0⟩] scope pos) scope iter (tComp ((Nl.map fun _ => none) ++ [some j]) wi g te) := by
  have look : ∀ z d, List.lookup z [(y, c)] = some d → z = y ∧ d = c := fun z d h => by
    have m := PySem.mem_of_lookup h
    cases List.mem_singleton.mp m
    exact ⟨rfl, rfl⟩
  have self : List.lookup y [(y, c)] = some c := by simp
  refine pe_comp (cl := [(y, c)]) (Nc := Nl ++ [y]) hc hi hg he (by simp) (fun z d h => ?_) (fun z h => ?_) (fun i z j' e1 e2 => ?_) hclos hcell hkind hnames hs
  · obtain ⟨rfl, rfl⟩ := look z d h
    exact hy
  · have m := h.elim (fun q => rel_mem q (.inl rfl) hcell) fun q => rel_mem q (.inr rfl) hcell
    have e : z = y := h1 _ m rfl
    subst e
    exact ⟨c, self⟩
  · have hi : i = Nl.length := by
      by_cases hlt : i < Nl.length
      · rw [List.getElem?_append_left (by simpa using hlt), List.getElem?_map] at e2
        cases q : Nl[i]? with
        | none => rw [q] at e2; cases e2
        | some z => rw [q] at e2; cases e2
      · have := (List.getElem?_eq_some_iff.mp e1).1
        simp at this
        omega
    subst hi
    have a1 : (Nl ++ [y])[Nl.length]? = some y := by simp
    have a2 : ((Nl.map fun _ => (none : Option Nat)) ++ [some j])[Nl.length]? = some (some j) := by
      rw [List.getElem?_append_right (by simp)]
      simp
    rw [a1] at e1; cases e1
    rw [a2] at e2; cases e2
    exact ⟨hN, .inr (.inl hk), by rw [hk]; exact (fun q => nomatch q), .inl hb, fun d h => by rw [hy] at h; cases h; exact self⟩
structure Callee (P : Program) (w : World) (K : PySem.W.Frag) (mg : Str → Option Value) (base : Heap) (k : Nat) (x : Str) (ps : List Str) (sp : Sp) : Prop where
  ex : ∃ f fd, FnOk P w K mg base (CXe P w) k f fd ps sp ∧ mg x = some (.ref f) ∧ PySem.W.keepIn K (.ref f) = true ∧ Binds K fd ps []
section
variable {X : Cx} {k : Nat} {sp : Sp} {ps : List Str} {x : Str} {p pos : Pos} {e : Expr} {es : List Expr} {t : TA}
theorem pe_c {E : XK} (G : Callee X.prog X.w X.K X.mg X.base k x ps sp) (hr : Room k X.A) (hx : Passes (CXe X.prog X.w) X E) (ha : PA X (e :: es) t) (hg : Gl X x := by rfl)
    (hdb : (x == ("__debug__" : Str)) = false := by decide) (he : starEach (e :: es) X.env = (false, eval e X.env) :: starEach es X.env := by rfl) (hpl : (backTo pos (starEach es X.env)).any (·.1) = false := by rfl) :
    PE X (.Call (.Name x p) (e :: es) [] pos) (tCall sp [] E t) := by
  obtain ⟨f, fd, F, m, kp, b⟩ := G.ex
  exact pe_call F hr hg m kp b .nil hx ha hdb he hpl
end
theorem np {P : Program} {w : World} {X : Cx} : Passes (CXe P w) X E0 := passE0
end L2
namespace L2
open PySem PySem.Spec PyProof.Rows
def tMo (t : TE) : TE := fun σ H Q => ∃ Q0 : VK, t σ H Q0 ∧ ∀ v H', Q0 v H' → Q v H'
theorem PE.mo {X : Cx} {e : Expr} {t : TE} (h : PE X e t) : PE X e (tMo t) := fun pins s σ H Q I ⟨Q0, h0, k⟩ =>
  thn (h pins s σ H Q0 I h0) fun u s1 ⟨v, H1, I1, r, q⟩ => ⟨v, H1, I1, r, k v H1 q⟩
def FR (n : Nat) (g : TG) (tb : TS) (D : Ends) (σ : St) (H : Hp) : Prop := ∃ Pv : Nat → St → Hp → Prop, Pv 0 σ H ∧ (∀ i σ H, i < n → Pv i σ H → g (.int i) σ H fun σ2 H2 => tb { D with nx := Pv (i + 1), ct := Pv (i + 1), bk := D.nx } σ2 H2) ∧ ∀ σ H, Pv n σ H → D.nx σ H
def tForR (te : TE) (g : TG) (tb : TS) : TS := fun D σ H => te σ H fun v H1 => ∃ j : Int, v = .int j ∧ -(2 ^ 62) ≤ j ∧ j < 2 ^ 62 ∧ FR j.toNat g tb D σ H1
section
variable {X : Cx} {tg a : Expr} {body : List Stmt} {te : TE} {g : TG} {tb : TS} {p pos pos' : Pos}
theorem pi_rangeM (hg : Gl X "range") (hm : X.mg "range" = none) (ha : PE X a te) (hs : starEach [a] X.env = [(false, eval a X.env)]) : PI X tg (.Call (.Name "range" p) [a] [] pos) (iRng1 (tCons (tMo te) tNil)) := pi_range1 hg hm (pa_cons ha.mo pa_nil (by rw [hs]; rfl)) hs
theorem ps_forR (hc : X.calm = true) (hp : PassesOwn (model X.prog X.w) X.A X.env X.xe) (hm : X.mg "range" = none) (ha : PE X a te) (hgt : PG X tg g) (hb : PSs X body tb) (hg : Gl X "range" := by rfl) (hs : starEach [a] X.env = [(false, eval a X.env)] := by rfl) :
    PS X (.For tg (.Call (.Name "range" p) [a] [] pos') body [] pos) (tForR te g tb) := by
  intro pins s σ H D I h
  refine ps_for hp hc (pi_rangeM hg hm ha hs) hgt hb (by intro _; rfl) pins s σ H D I ?_
  refine ⟨_, h, fun v H1 ⟨j, e, b1, b2, Pv, p0, pt, pd⟩ => ⟨j, by rw [e], b1, b2, ?_⟩⟩
  exact for_range (lo := 0) (n := j.toNat) Pv p0 (fun i σ' H' hi q => by rw [show (0 : Int) + (i : Int) = (i : Int) from Int.zero_add _]; exact pt i σ' H' hi q) pd
end
def FL (xs : List V) (at_ : Hp → Prop) (g : TG) (tb : TS) (D : Ends) (σ : St) (H : Hp) : Prop := ∃ Pv : Nat → St → Hp → Prop, Pv 0 σ H ∧ (∀ i σ H, i ≤ xs.length → Pv i σ H → at_ H) ∧ (∀ i x σ H, xs[i]? = some x → Pv i σ H → g x σ H fun σ2 H2 => tb { D with nx := Pv (i + 1), ct := Pv (i + 1), bk := D.nx } σ2 H2) ∧ ∀ σ H, Pv xs.length σ H → D.nx σ H
def tForL (K : PySem.W.Frag) (te : TE) (g : TG) (tb : TS) : TS := fun D σ H => te σ H fun v H1 => ∃ a xs, v = .ref a ∧ SqL K H1 a xs ∧ FL xs (fun H => SqL K H a xs) g tb D σ H1
section
variable {X : Cx} {tg l : Expr} {body : List Stmt} {te : TE} {g : TG} {tb : TS} {p pos pos' : Pos}
theorem ps_forL (hc : X.calm = true) (hp : PassesOwn (model X.prog X.w) X.A X.env X.xe) (hl : PE X l te) (hgt : PG X tg g) (hb : PSs X body tb) (hs : ∀ x, foldedSetIterable l X.env x = pure x := by intro _; rfl) :
    PS X (.For tg l body [] pos) (tForL X.K te g tb) := by
  intro pins s σ H D I h
  refine ps_for hp hc (pi_list hl.mo) hgt hb hs pins s σ H D I ?_
  refine ⟨_, h, fun v H1 ⟨a, xs, e, q, Pv, p0, pl, pt, pd⟩ => ⟨a, e, ⟨xs, q⟩, ?_⟩⟩
  exact for_list (xs := xs) Pv p0 pl pt pd
end
def CO (n : Nat) (src : Nat → Hp → V → Prop) (st : Hp → Prop) (js : List (Option Nat)) (g : TG) (tl : TE) (σ : St) (H1 : Hp) (Q : VK) : Prop := ∀ D, H1 D = none → ∃ Pv : Nat → List V → St → Hp → Prop, Pv 0 [] (cσ js σ) (upd H1 D (.lst [])) ∧ (∀ i ys σc H, i ≤ n → Pv i ys σc H → st H) ∧
  (∀ i ys σc H x, i < n → Pv i ys σc H → src i H x → g x σc H fun σ2 H2 => tl σ2 H2 fun y H3 => H3 D = some (.lst ys) ∧ ys.length < sizeLine ∧ Pv (i + 1) (ys ++ [y]) σ2 (upd H3 D (.lst (ys ++ [y])))) ∧ ∀ ys σc H, Pv n ys σc H → H D = some (.lst ys) ∧ Q (.ref D) H
def tMoG (g : TG) : TG := fun v σ H Q => ∃ Q0 : St → Hp → Prop, g v σ H Q0 ∧ ∀ σ' H', Q0 σ' H' → Q σ' H'
theorem CO.run {n : Nat} {src : Nat → Hp → V → Prop} {st : Hp → Prop} {js : List (Option Nat)} {g : TG} {tl : TE} {σ : St} {H1 : Hp} {Q : VK} {J : It} (h : CO n src st js g tl σ H1 Q) (hgo : ∀ i H, i < n → st H → J.go i H) (hst : ∀ H, st H → J.stop n H) (hy : ∀ i H x H', i < n → st H → J.yld i H x H' → H' = H ∧ src i H x) :
    ∀ D, H1 D = none → ∃ W : Nat → Nat → List V → St → Hp → Prop, (∃ m, W 0 m [] (cσ js σ) (upd H1 D (.lst []))) ∧
    ∀ i m ys σc H, W i m ys σc H → (H D = some (.lst ys) ∧ J.stop i H ∧ Q (.ref D) H) ∨ (J.go i H ∧ ∀ x H', J.yld i H x H' → tMoG g x σc H' fun σ2 H2 => tMo tl σ2 H2 fun y H3 => H3 D = some (.lst ys) ∧ ys.length < sizeLine ∧ ∃ m', m' < m ∧ W (i + 1) m' (ys ++ [y]) σ2 (upd H3 D (.lst (ys ++ [y])))) := by
  intro D hD
  obtain ⟨Pv, p0, ps, pt, pd⟩ := h D hD
  refine ⟨fun i m ys σc H => m = n - i ∧ i ≤ n ∧ Pv i ys σc H, ⟨n, by simp, Nat.zero_le _, p0⟩, ?_⟩
  rintro i m ys σc H ⟨rfl, hi, p⟩
  have s0 := ps i ys σc H hi p
  by_cases hlt : i < n
  · refine .inr ⟨hgo i H hlt s0, fun x H' y => ?_⟩
    obtain ⟨rfl, hx⟩ := hy i H x H' hlt s0 y
    have z := pt i ys σc H' x hlt p hx
    exact ⟨_, z, fun σ2 H2 z2 => ⟨_, z2, fun y3 H3 ⟨a1, a2, a3⟩ => ⟨a1, a2, n - (i + 1), by omega, rfl, hlt, a3⟩⟩⟩
  · have e : i = n := by omega
    subst e
    obtain ⟨a1, a2⟩ := pd ys σc H p
    exact .inl ⟨a1, hst H s0, a2⟩
def tCoR (js : List (Option Nat)) (te : TE) (g : TG) (tl : TE) : TE := fun σ H Q => te σ H fun v H1 => ∃ j : Int, v = .int j ∧ -(2 ^ 62) ≤ j ∧ j < 2 ^ 62 ∧ CO j.toNat (fun i _ x => x = .int i) (fun _ => True) js g tl σ H1 Q
def tCoL (K : PySem.W.Frag) (js : List (Option Nat)) (te : TE) (g : TG) (tl : TE) : TE := fun σ H Q => te σ H fun v H1 => ∃ a xs, v = .ref a ∧ SqL K H1 a xs ∧ CO xs.length (fun i _ x => xs[i]? = some x) (fun H => SqL K H a xs) js g tl σ H1 Q
def tCoT (K : PySem.W.Frag) (js : List (Option Nat)) (te : TE) (g : TG) (tl : TE) : TE := fun σ H Q => te σ H fun v H1 => ∃ a xs, v = .ref a ∧ SqT K H1 a xs ∧ CO xs.length (fun i _ x => xs[i]? = some x) (fun H => SqT K H a xs) js g tl σ H1 Q
theorem PG.mo {X : Cx} {tg : Expr} {g : TG} (h : PG X tg g) : PG X tg (tMoG g) := fun pins s σ H v u Q I r ⟨Q0, h0, k⟩ =>
  thn (h pins s σ H v u Q0 I r h0) fun _ s1 ⟨σ1, H1, I1, q⟩ => ⟨σ1, H1, I1, k σ1 H1 q⟩
section
variable {X : Cx} {tg a elt : Expr} {te tl : TE} {g : TG} {p pos pos' : Pos} {scope : Scope} {cl : List (Str × Addr)} {Nc : List Str} {js : List (Option Nat)}
theorem coR (hm : X.mg "range" = none) (ha : PE X a te) (hp : ∀ (wi : TI), PI X tg (.Call (.Name "range" p) [a] [] pos') wi → PCo X (.ListComp elt [⟨tg, .Call (.Name "range" p) [a] [] pos', [], 0⟩] scope pos) scope (.Call (.Name "range" p) [a] [] pos') (tComp js wi (tMoG g) (tMo tl)))
    (hg : Gl X "range" := by rfl) (hs : starEach [a] X.env = [(false, eval a X.env)] := by rfl) : PCo X (.ListComp elt [⟨tg, .Call (.Name "range" p) [a] [] pos', [], 0⟩] scope pos) scope (.Call (.Name "range" p) [a] [] pos') (tCoR js te g tl) := by
  refine (hp _ (pi_rangeM hg hm ha hs)).of fun σ H Q h => ?_
  refine ⟨_, h, fun v H1 ⟨j, e, b1, b2, c⟩ => ⟨j, by rw [e], b1, b2, ?_⟩⟩
  refine CO.run (J := Itr 0 j.toNat) c (fun _ _ h _ => h) (fun _ _ => Nat.le_refl _) fun i H x H' _ _ y => ⟨y.1, ?_⟩
  rw [y.2, Int.zero_add]
theorem coL (ha : PE X a te) (hp : ∀ (wi : TI), PI X tg a wi → PCo X (.ListComp elt [⟨tg, a, [], 0⟩] scope pos) scope a (tComp js wi (tMoG g) (tMo tl))) : PCo X (.ListComp elt [⟨tg, a, [], 0⟩] scope pos) scope a (tCoL X.K js te g tl) := by
  refine (hp _ (pi_list ha.mo)).of fun σ H Q h => ?_
  refine ⟨_, h, fun v H1 ⟨b, xs, e, q, c⟩ => ⟨b, e, ⟨xs, q⟩, ?_⟩⟩
  refine CO.run (J := Itl X.K b) c (fun i H hi z => ⟨xs, xs[i], z, by simp [hi]⟩) (fun H z => ⟨xs, z, Nat.le_refl _⟩) fun i H x H' _ z y => ⟨y.1, y.2 xs z⟩
theorem coT (ha : PE X a te) (hp : ∀ (wi : TI), PI X tg a wi → PCo X (.ListComp elt [⟨tg, a, [], 0⟩] scope pos) scope a (tComp js wi (tMoG g) (tMo tl))) : PCo X (.ListComp elt [⟨tg, a, [], 0⟩] scope pos) scope a (tCoT X.K js te g tl) := by
  refine (hp _ (pi_tup ha.mo)).of fun σ H Q h => ?_
  refine ⟨_, h, fun v H1 ⟨b, xs, e, q, c⟩ => ⟨b, e, ⟨xs, q⟩, ?_⟩⟩
  refine CO.run (J := Itt X.K b) c (fun i H hi z => ⟨xs, xs[i], z, by simp [hi]⟩) (fun H z => ⟨xs, z, Nat.le_refl _⟩) fun i H x H' _ z y => ⟨y.1, y.2 xs z⟩
end
def WH (c : TT) (tb : TS) (D : Ends) (σ : St) (H : Hp) : Prop := ∃ (Pv : St → Hp → Prop) (μ : St → Hp → Nat), Pv σ H ∧ ∀ σ H, Pv σ H → c σ H fun b H1 => if b = true then tb { D with nx := fun σ' H' => Pv σ' H' ∧ μ σ' H' < μ σ H, ct := fun σ' H' => Pv σ' H' ∧ μ σ' H' < μ σ H, bk := D.nx } σ H1 else D.nx σ H1
def tMoT (t : TT) : TT := fun σ H Q => ∃ Q0 : Bool → Hp → Prop, t σ H Q0 ∧ ∀ v H', Q0 v H' → Q v H'
theorem PT.mo {X : Cx} {e : Expr} {t : TT} (h : PT X e t) : PT X e (tMoT t) := fun pins s σ H Q I ⟨Q0, h0, k⟩ => thn (h pins s σ H Q0 I h0) fun u s1 ⟨H1, I1, q⟩ => ⟨H1, I1, k u H1 q⟩
theorem ps_wh {X : Cx} {c : Expr} {body : List Stmt} {tc : TT} {tb : TS} {pos : Pos} (hp : PassesOwn (model X.prog X.w) X.A X.env X.xe) (hc : PT X c tc) (hb : PSs X body tb) : PS X (.While c body [] pos) (WH tc tb) := by
  intro pins s σ H D I ⟨Pv, μ, h0, hs⟩
  refine ps_while hp hc.mo hb pins s σ H D I (while_by Pv μ h0 (fun σ H q => ⟨_, hs σ H q, fun _ _ z => z⟩) fun σ H Q Q' k ⟨Q0, h0, k0⟩ => ⟨Q0, h0, fun b H1 z => k b H1 (k0 b H1 z)⟩)
end L2
namespace L2
open PySem PySem.Spec PyProof.Rows
section
variable {K : PySem.W.Frag} {H : Hp} {Q : VK}
end
theorem gcd_step {x y : Int} (hx : 0 ≤ x) (hy : 0 < y) : Int.gcd y (x % y) = Int.gcd x y := by
  obtain ⟨m, rfl⟩ := Int.eq_ofNat_of_zero_le hx
  obtain ⟨n, rfl⟩ := Int.eq_ofNat_of_zero_le (Int.le_of_lt hy)
  rw [← Int.natCast_emod]
  show Nat.gcd n (m % n) = Nat.gcd m n
  rw [Nat.gcd_comm n, ← Nat.gcd_rec, Nat.gcd_comm]
theorem gcd_end {x : Int} (hx : 0 ≤ x) : ((Int.gcd x 0 : Nat) : Int) = x := by
  rw [Int.gcd_zero_right]
  omega
theorem sz_le (n : Nat) (h : n ≤ 1000) : n ≤ sizeLine := Nat.le_of_lt (small1000 h)
theorem same_upd {H : Hp} {p : Addr} {o : HO} (h : H p = none) : Same H (upd H p o) := fun b u e => by rw [upd_ne (ne_of_none e h)]; exact e
theorem neD_same {K : PySem.W.Frag} {H : Hp} {x y : V} {Q : VK} (d : Dt) (h1 : Rep K H d x) (h2 : Rep K H d y) (a : 1 ≤ d.dep) (b : d.dep ≤ 60) (q : Q (.bl false) H) : rEqD K true x y H Q := ⟨d, d, h1, h2, d.sim_refl, a, b, by rw [d.eqb_refl]; exact q⟩
theorem eqD_same {K : PySem.W.Frag} {H : Hp} {x y : V} {Q : VK} (d : Dt) (h1 : Rep K H d x) (h2 : Rep K H d y) (a : 1 ≤ d.dep) (b : d.dep ≤ 60) (q : Q (.bl true) H) : rEqD K false x y H Q := ⟨d, d, h1, h2, d.sim_refl, a, b, by rw [d.eqb_refl]; exact q⟩
theorem gcd_abs (a b : Int) : Int.gcd (if a < 0 then -a else a) (if b < 0 then -b else b) = Int.gcd a b := by
  split <;> split <;> simp
end L2
namespace Mt
structure Red (t b u v : Int) : Prop where
  pos : 1 ≤ v
  low : Int.gcd u v = 1
  eq : u * b = t * v
  ut : u.natAbs ≤ t.natAbs
  vb : v.natAbs ≤ b.natAbs
theorem red_mk {t b g u v : Int} (hg : g ≠ 0) (ht : t = g * u) (hb : b = g * v) (hv : 0 < v) (hc : Int.gcd u v = 1) : Red t b u v := by
  have h1 : 1 ≤ g.natAbs := by omega
  refine ⟨hv, hc, ?_, ?_, ?_⟩
  · rw [hb, ht, ← Int.mul_assoc, Int.mul_comm u g]
  · rw [ht, Int.natAbs_mul]
    exact Nat.le_mul_of_pos_left _ h1
  · rw [hb, Int.natAbs_mul]
    exact Nat.le_mul_of_pos_left _ h1
theorem gcd_parts {t b : Int} (hb : b ≠ 0) : ∃ u v : Int, t = (Int.gcd t b : Nat) * u ∧ b = (Int.gcd t b : Nat) * v ∧ Int.gcd u v = 1 ∧ 0 < Int.gcd t b := by
  have hp : 0 < Int.gcd t b := Int.gcd_pos_of_ne_zero_right t hb
  refine ⟨t / (Int.gcd t b : Nat), b / (Int.gcd t b : Nat), ?_, ?_, Int.gcd_ediv_gcd_ediv_gcd hp, hp⟩
  · exact (Int.mul_ediv_cancel' (Int.gcd_dvd_left t b)).symm
  · exact (Int.mul_ediv_cancel' (Int.gcd_dvd_right t b)).symm
theorem fdiv_part {x g u : Int} (hg : g ≠ 0) (h : x = g * u) : x.fdiv g = u := by rw [h, Int.mul_fdiv_cancel_left _ hg]
theorem red_pos {t b : Int} (hb : 0 < b) : Red t b (t.fdiv (Int.gcd t b : Nat)) (b.fdiv (Int.gcd t b : Nat)) := by
  obtain ⟨u, v, h1, h2, hc, hp⟩ := gcd_parts (t := t) (show b ≠ 0 by omega)
  have hg : ((Int.gcd t b : Nat) : Int) ≠ 0 := by omega
  rw [fdiv_part hg h1, fdiv_part hg h2]
  refine red_mk hg h1 h2 ?_ hc
  have hn : (0 : Int) < (Int.gcd t b : Nat) := by omega
  rcases Int.lt_trichotomy v 0 with z | z | z
  · have := Int.mul_neg_of_pos_of_neg hn z
    omega
  · rw [z, Int.mul_zero] at h2; omega
  · exact z
theorem gcd_le {t b : Int} (hb : b ≠ 0) : (Int.gcd t b) ≤ b.natAbs := by
  have h : (Int.gcd t b) ∣ b.natAbs := Nat.gcd_dvd_right _ _
  exact Nat.le_of_dvd (by omega) h
end Mt
namespace Mt
structure Fr (t b : Int) : Prop where
  pos : 1 ≤ b
  low : Int.gcd t b = 1
structure Is (t b u v : Int) : Prop where
  fr : Fr u v
  eq : u * b = t * v
theorem cop {a b : Int} : Int.gcd a b = 1 ↔ Nat.Coprime a.natAbs b.natAbs := Iff.rfl
theorem cop_mul_right {k a b : Int} (h1 : Int.gcd k a = 1) (h2 : Int.gcd k b = 1) : Int.gcd k (a * b) = 1 := by
  rw [cop, Int.natAbs_mul]
  exact Nat.Coprime.mul_right h1 h2
theorem cop_dvd_left {k l a : Int} (h : Int.gcd k a = 1) (d : l ∣ k) : Int.gcd l a = 1 := by
  rw [cop] at *
  exact Nat.Coprime.coprime_dvd_left (Int.natAbs_dvd_natAbs.mpr d) h
theorem cop_dvd_right {k l a : Int} (h : Int.gcd a k = 1) (d : l ∣ k) : Int.gcd a l = 1 := by
  rw [Int.gcd_comm] at *
  exact cop_dvd_left h d
theorem cop_add_mul {a b c : Int} (h : Int.gcd a c = 1) : Int.gcd (a + b * c) c = 1 := by
  rw [Int.gcd_eq_one_iff] at *
  intro k h1 h2
  refine h k ?_ h2
  have h3 : k ∣ b * c := Int.dvd_trans h2 ⟨b, Int.mul_comm b c⟩
  have := Int.dvd_sub h1 h3
  rw [Int.add_sub_cancel] at this
  exact this
theorem cop_mul_left {k a b : Int} (h1 : Int.gcd a k = 1) (h2 : Int.gcd b k = 1) : Int.gcd (a * b) k = 1 := by
  rw [Int.gcd_comm] at *
  exact cop_mul_right h1 h2
theorem parts {t b : Int} (hb : b ≠ 0) : ∃ u v g : Int, g = (Int.gcd t b : Nat) ∧ 0 < g ∧ t = g * u ∧ b = g * v ∧ Int.gcd u v = 1 ∧ t.fdiv g = u ∧ b.fdiv g = v := by
  obtain ⟨u, v, h1, h2, hc, hp⟩ := gcd_parts (t := t) hb
  have hg : ((Int.gcd t b : Nat) : Int) ≠ 0 := by omega
  exact ⟨u, v, _, rfl, by omega, h1, h2, hc, fdiv_part hg h1, fdiv_part hg h2⟩
theorem pos_of_mul {g v b : Int} (hg : 0 < g) (h : b = g * v) (hb : 0 < b) : 0 < v := by
  rcases Int.lt_trichotomy v 0 with z | z | z
  · have := Int.mul_neg_of_pos_of_neg hg z; omega
  · rw [z, Int.mul_zero] at h; omega
  · exact z
theorem le_mul1 {g v : Int} (hg : 0 < g) (hv : 0 < v) : g ≤ g * v := by
  have h : g * 1 ≤ g * v := Int.mul_le_mul_of_nonneg_left (by omega) (by omega)
  rw [Int.mul_one] at h
  exact h
theorem plus_ok {a0 a1 b0 b1 : Int} (ha : Fr a0 a1) (hb : Fr b0 b1) :
    let p : Int := (Int.gcd a1 b1 : Nat)
    let t := a0 * b1.fdiv p + b0 * a1.fdiv p
    let r : Int := (Int.gcd t p : Nat)
    Is (a0 * b1 + b0 * a1) (a1 * b1) (t.fdiv r) (a1.fdiv p * b1.fdiv r) ∧ 0 < p ∧ 0 < r ∧ p ≤ a1 ∧ p ≤ b1 ∧ r ≤ p ∧ (b1.fdiv p).natAbs ≤ b1.natAbs ∧ (a1.fdiv p).natAbs ≤ a1.natAbs ∧ (b1.fdiv r).natAbs ≤ b1.natAbs := by
  intro p t r
  have hb1 : b1 ≠ 0 := by have := hb.pos; omega
  obtain ⟨A, B, g, eg, hg, e1, e2, cAB, f1, f2⟩ := parts (t := a1) hb1
  have ep : p = g := eg.symm
  have et : t = a0 * B + b0 * A := by show a0 * b1.fdiv p + b0 * a1.fdiv p = _; rw [ep, f1, f2]
  have hp0 : p ≠ 0 := by omega
  obtain ⟨T, D, e, ee, he, g1, g2, cTD, k1, k2⟩ := parts (t := t) hp0
  have er : r = e := ee.symm
  have hA : 0 < A := pos_of_mul hg e1 (by have := ha.pos; omega)
  have hB : 0 < B := pos_of_mul hg e2 (by have := hb.pos; omega)
  have hD : 0 < D := pos_of_mul he g2 (by omega)
  -- b1 = e * (D * B)
  have e3 : b1 = e * (D * B) := by rw [e2, ← ep, g2, Int.mul_assoc]
  have f3 : b1.fdiv r = D * B := by rw [er]; exact fdiv_part (by omega) e3
  have f4 : a1.fdiv p = A := by rw [ep]; exact f1
  have f5 : t.fdiv r = T := by rw [er]; exact k1
  -- T is prime to A, B, D
  have cA : Int.gcd t A = 1 := by
    rw [et]
    refine cop_add_mul (cop_mul_left (cop_dvd_right ha.low ⟨g, by rw [Int.mul_comm]; exact e1⟩) ?_)
    rw [Int.gcd_comm]; exact cAB
  have cB : Int.gcd t B = 1 := by
    rw [et, Int.add_comm]
    exact cop_add_mul (cop_mul_left (cop_dvd_right hb.low ⟨g, by rw [Int.mul_comm]; exact e2⟩) cAB)
  have dT : T ∣ t := ⟨e, by rw [Int.mul_comm]; exact g1⟩
  refine ⟨⟨⟨?_, ?_⟩, ?_⟩, by omega, by omega, ?_, ?_, ?_, ?_, ?_, ?_⟩
  · rw [f3, f4]
    have := Int.mul_pos hA (Int.mul_pos hD hB)
    omega
  · rw [f3, f4, f5]
    exact cop_mul_right (cop_dvd_left cA dT) (cop_mul_right cTD (cop_dvd_left cB dT))
  · rw [f3, f4, f5]
    -- T * (a1 * b1) = (a0 * b1 + b0 * a1) * (A * (D * B))
    have q1 : a0 * b1 + b0 * a1 = g * (e * T) := by
      rw [← g1, et, e1, e2, Int.mul_add]
      congr 1
      · rw [← Int.mul_assoc, Int.mul_comm a0 g, Int.mul_assoc]
      · rw [← Int.mul_assoc, Int.mul_comm b0 g, Int.mul_assoc]
    rw [q1, e3, e1]
    simp only [Int.mul_assoc, Int.mul_comm, Int.mul_left_comm]
  · rw [ep, e1]
    exact le_mul1 (by omega) (by omega)
  · rw [ep, e2]
    exact le_mul1 (by omega) (by omega)
  · rw [er, g2]
    exact le_mul1 (by omega) (by omega)
  · rw [ep, f2, e2, Int.natAbs_mul]
    exact Nat.le_mul_of_pos_left _ (by omega)
  · rw [f4, e1, Int.natAbs_mul]
    exact Nat.le_mul_of_pos_left _ (by omega)
  · rw [f3, e3, Int.natAbs_mul e]
    exact Nat.le_mul_of_pos_left _ (by omega)
theorem times_ok {a0 a1 b0 b1 : Int} (ha : Fr a0 a1) (hb : Fr b0 b1) :
    let f : Int := (Int.gcd a0 b1 : Nat)
    let s : Int := (Int.gcd b0 a1 : Nat)
    Is (a0 * b0) (a1 * b1) (a0.fdiv f * b0.fdiv s) (a1.fdiv s * b1.fdiv f) ∧ 0 < f ∧ 0 < s ∧ f ≤ b1 ∧ s ≤ a1 ∧ (a0.fdiv f).natAbs ≤ a0.natAbs ∧ (b0.fdiv s).natAbs ≤ b0.natAbs ∧ (a1.fdiv s).natAbs ≤ a1.natAbs ∧ (b1.fdiv f).natAbs ≤ b1.natAbs := by
  intro f s
  obtain ⟨A, B, g, eg, hg, e1, e2, cAB, f1, f2⟩ := parts (t := a0) (b := b1) (by have := hb.pos; omega)
  obtain ⟨C, D, k, ek, hk, e3, e4, cCD, f3, f4⟩ := parts (t := b0) (b := a1) (by have := ha.pos; omega)
  have ef : f = g := eg.symm
  have es : s = k := ek.symm
  rw [ef, es, f1, f2, f3, f4]
  have hB : 0 < B := pos_of_mul hg e2 (by have := hb.pos; omega)
  have hD : 0 < D := pos_of_mul hk e4 (by have := ha.pos; omega)
  have dA : A ∣ a0 := ⟨g, by rw [Int.mul_comm]; exact e1⟩
  have dB : B ∣ b1 := ⟨g, by rw [Int.mul_comm]; exact e2⟩
  have dC : C ∣ b0 := ⟨k, by rw [Int.mul_comm]; exact e3⟩
  have dD : D ∣ a1 := ⟨k, by rw [Int.mul_comm]; exact e4⟩
  refine ⟨⟨⟨?_, ?_⟩, ?_⟩, hg, hk, ?_, ?_, ?_, ?_, ?_, ?_⟩
  · have := Int.mul_pos hD hB; omega
  · exact cop_mul_right (cop_mul_left (cop_dvd_left (cop_dvd_right ha.low dD) dA) cCD) (cop_mul_left cAB (cop_dvd_left (cop_dvd_right hb.low dB) dC))
  · rw [e1, e2, e3, e4]
    simp only [Int.mul_assoc, Int.mul_comm, Int.mul_left_comm]
  · rw [e2]; exact le_mul1 (by omega) (by omega)
  · rw [e4]; exact le_mul1 (by omega) (by omega)
  · rw [e1, Int.natAbs_mul]; exact Nat.le_mul_of_pos_left _ (by omega)
  · rw [e3, Int.natAbs_mul]; exact Nat.le_mul_of_pos_left _ (by omega)
  · rw [e4, Int.natAbs_mul]; exact Nat.le_mul_of_pos_left _ (by omega)
  · rw [e2, Int.natAbs_mul]; exact Nat.le_mul_of_pos_left _ (by omega)
theorem Red.is {t b u v : Int} (h : Red t b u v) : Is t b u v := ⟨⟨h.pos, h.low⟩, h.eq⟩
end Mt
namespace Mt
theorem Is.rat {t b u v : Int} (h : Is t b u v) (hb : b ≠ 0) : u = (Rat.divInt t b).num ∧ v = ((Rat.divInt t b).den : Int) := by
  have hv := h.fr.pos
  have hn : v.toNat ≠ 0 := by omega
  have hc : (v.toNat : Int) = v := Int.toNat_of_nonneg (by omega)
  have hco : u.natAbs.Coprime v.toNat := by
    have := h.fr.low
    have e : v.natAbs = v.toNat := by omega
    rw [cop, e] at this
    exact this
  have e1 := Rat.num_divInt_den ⟨u, v.toNat, hn, hco⟩
  dsimp only at e1
  rw [hc] at e1
  have e2 : Rat.divInt t b = Rat.divInt u v := (Rat.divInt_eq_divInt_iff hb (by omega)).mpr (by rw [h.eq])
  rw [e2, e1]
  exact ⟨rfl, hc.symm⟩
theorem Is.dvd {t b u v : Int} (h : Is t b u v) : v ∣ b ∧ u ∣ t := by
  have e := h.eq
  have c : Nat.Coprime u.natAbs v.natAbs := h.fr.low
  constructor
  · have d : v.natAbs ∣ u.natAbs * b.natAbs := by
      rw [← Int.natAbs_mul, e, Int.natAbs_mul]
      exact Nat.dvd_mul_left _ _
    exact Int.natAbs_dvd_natAbs.mp (c.symm.dvd_of_dvd_mul_left d)
  · have d : u.natAbs ∣ v.natAbs * t.natAbs := by
      rw [← Int.natAbs_mul, Int.mul_comm, ← e, Int.natAbs_mul]
      exact Nat.dvd_mul_right _ _
    exact Int.natAbs_dvd_natAbs.mp (c.dvd_of_dvd_mul_left d)
theorem fr_rat (a : Rat) : Fr a.num a.den := ⟨by have := a.den_nz; omega, by rw [cop]; exact a.reduced⟩
theorem den_pos (a : Rat) : (0 : Int) < a.den := by have := a.den_nz; omega
theorem den_ne (a : Rat) : (a.den : Int) ≠ 0 := by have := a.den_nz; omega
theorem rat_add (a b : Rat) : Rat.divInt (a.num * b.den + b.num * a.den) (a.den * b.den) = a + b := by
  rw [← Rat.divInt_add_divInt _ _ (den_ne a) (den_ne b), Rat.num_divInt_den, Rat.num_divInt_den]
theorem rat_mul (a b : Rat) : Rat.divInt (a.num * b.num) (a.den * b.den) = a * b := by
  rw [← Rat.divInt_mul_divInt, Rat.num_divInt_den, Rat.num_divInt_den]
theorem rat_is (t : Int) {b : Int} (hb : b ≠ 0) : (Rat.divInt t b).num * b = t * (Rat.divInt t b).den := by
  have h := Rat.num_divInt_den (Rat.divInt t b)
  exact ((Rat.divInt_eq_divInt_iff (den_ne _) hb).mp h)
theorem rat_isI (t : Int) {b : Int} (hb : b ≠ 0) : Is t b (Rat.divInt t b).num (Rat.divInt t b).den := ⟨fr_rat _, rat_is t hb⟩
theorem rat_le (t : Int) {b : Int} (hb : b ≠ 0) : (Rat.divInt t b).num.natAbs ≤ t.natAbs ∧ ((Rat.divInt t b).den : Int).natAbs ≤ b.natAbs := by
  obtain ⟨d1, d2⟩ := (rat_isI t hb).dvd
  refine ⟨?_, Nat.le_of_dvd (by omega) (Int.natAbs_dvd_natAbs.mpr d1)⟩
  by_cases ht : t = 0
  · have e := rat_is t hb
    rw [ht, Int.zero_mul] at e
    rcases Int.mul_eq_zero.mp e with z | z
    · rw [ht, z]; exact Nat.le_refl _
    · exact absurd z hb
  · exact Nat.le_of_dvd (by omega) (Int.natAbs_dvd_natAbs.mpr d2)
def Lat (D N : Nat) (q : Rat) : Prop := ∃ m : Int, q * ((D : Int) : Rat) = m ∧ m.natAbs ≤ N
theorem Lat.dvd {D N : Nat} {q : Rat} (h : Lat D N q) (hD : D ≠ 0) : q.den ∣ D ∧ q.num.natAbs ≤ N := by
  obtain ⟨m, e, hm⟩ := h
  have e2 : q = Rat.divInt m D := by
    rw [Rat.divInt_eq_div, ← e]
    have : ((D : Int) : Rat) ≠ 0 := by
      have : (D : Int) ≠ 0 := by omega
      exact fun z => this (Rat.intCast_inj.mp z)
    grind
  have hd : (D : Int) ≠ 0 := by omega
  have l := rat_le m hd
  have d := (rat_isI m hd).dvd.1
  rw [← e2] at l d
  exact ⟨Int.natCast_dvd_natCast.mp d, Nat.le_trans l.1 hm⟩
theorem Lat.le {D N : Nat} {q : Rat} (h : Lat D N q) (hD : D ≠ 0) : q.den ≤ D := Nat.le_of_dvd (by omega) (h.dvd hD).1
theorem Lat.add {D M N : Nat} {a b : Rat} (h : Lat D M a) (k : Lat D N b) : Lat D (M + N) (a + b) := by
  obtain ⟨m, e, hm⟩ := h
  obtain ⟨n, f, hn⟩ := k
  exact ⟨m + n, by rw [Rat.add_mul, e, f, Rat.intCast_add], by omega⟩
theorem Lat.neg {D M : Nat} {a : Rat} (h : Lat D M a) : Lat D M (-a) := by
  obtain ⟨m, e, hm⟩ := h
  exact ⟨-m, by rw [Rat.neg_mul, e, Rat.intCast_neg], by omega⟩
theorem Lat.mul {D E M N : Nat} {a b : Rat} (h : Lat D M a) (k : Lat E N b) : Lat (D * E) (M * N) (a * b) := by
  obtain ⟨m, e, hm⟩ := h
  obtain ⟨n, f, hn⟩ := k
  refine ⟨m * n, ?_, by rw [Int.natAbs_mul]; exact Nat.mul_le_mul hm hn⟩
  rw [Rat.intCast_mul, ← e, ← f, Int.natCast_mul, Rat.intCast_mul]
  grind
theorem Lat.mono {D M N : Nat} {a : Rat} (h : Lat D M a) (k : M ≤ N) : Lat D N a := by
  obtain ⟨m, e, hm⟩ := h
  exact ⟨m, e, Nat.le_trans hm k⟩
theorem Lat.zero {D N : Nat} : Lat D N 0 := ⟨0, by rw [Rat.zero_mul]; rfl, Nat.zero_le _⟩
theorem Lat.up {D E M : Nat} {a : Rat} (h : Lat D M a) : Lat (D * E) (M * E) a := by
  obtain ⟨m, e, hm⟩ := h
  refine ⟨m * E, ?_, by rw [Int.natAbs_mul]; exact Nat.mul_le_mul hm (Nat.le_refl _)⟩
  rw [Rat.intCast_mul, ← e, Int.natCast_mul, Rat.intCast_mul, Rat.mul_assoc]
theorem plus_rat (a b : Rat) :
    let p : Int := (Int.gcd a.den b.den : Nat)
    let t := a.num * (b.den : Int).fdiv p + b.num * (a.den : Int).fdiv p
    let r : Int := (Int.gcd t p : Nat)
    (t.fdiv r = (a + b).num ∧ (a.den : Int).fdiv p * (b.den : Int).fdiv r = ((a + b).den : Int)) ∧ 0 < p ∧ 0 < r ∧ p ≤ a.den ∧ p ≤ b.den ∧ r ≤ p ∧ ((b.den : Int).fdiv p).natAbs ≤ (b.den : Int).natAbs ∧ ((a.den : Int).fdiv p).natAbs ≤ (a.den : Int).natAbs ∧ ((b.den : Int).fdiv r).natAbs ≤ (b.den : Int).natAbs := by
  intro p t r
  have h := plus_ok (fr_rat a) (fr_rat b)
  refine ⟨?_, h.2⟩
  have z := h.1.rat (Int.mul_ne_zero (den_ne a) (den_ne b))
  rw [rat_add] at z
  exact z
theorem times_rat (a b : Rat) :
    let f : Int := (Int.gcd a.num b.den : Nat)
    let s : Int := (Int.gcd b.num a.den : Nat)
    (a.num.fdiv f * b.num.fdiv s = (a * b).num ∧ (a.den : Int).fdiv s * (b.den : Int).fdiv f = ((a * b).den : Int)) ∧ 0 < f ∧ 0 < s ∧ f ≤ b.den ∧ s ≤ a.den ∧ (a.num.fdiv f).natAbs ≤ a.num.natAbs ∧ (b.num.fdiv s).natAbs ≤ b.num.natAbs ∧ ((a.den : Int).fdiv s).natAbs ≤ (a.den : Int).natAbs ∧ ((b.den : Int).fdiv f).natAbs ≤ (b.den : Int).natAbs := by
  intro f s
  have h := times_ok (fr_rat a) (fr_rat b)
  refine ⟨?_, h.2⟩
  have z := h.1.rat (Int.mul_ne_zero (den_ne a) (den_ne b))
  rw [rat_mul] at z
  exact z
theorem inv_neg {b : Rat} (h : b.num < 0) : -(b.den : Int) = (b⁻¹).num ∧ -b.num = ((b⁻¹).den : Int) := by
  rw [Rat.inv_def]
  refine Is.rat ⟨⟨by omega, ?_⟩, by rw [Int.neg_mul, Int.mul_neg]⟩ (by omega)
  rw [Int.gcd_neg, Int.neg_gcd, Int.gcd_comm]
  exact (fr_rat b).low
theorem inv_pos {b : Rat} (h : 0 < b.num) : (b.den : Int) = (b⁻¹).num ∧ b.num = ((b⁻¹).den : Int) := by
  rw [Rat.inv_def]
  refine Is.rat ⟨⟨by omega, ?_⟩, rfl⟩ (by omega)
  rw [Int.gcd_comm]
  exact (fr_rat b).low
theorem low_pos {t b : Int} (h : 0 < b) : t.fdiv (Int.gcd t b : Nat) = (Rat.divInt t b).num ∧ b.fdiv (Int.gcd t b : Nat) = ((Rat.divInt t b).den : Int) := (red_pos h).is.rat (by omega)
theorem num_ne {b : Rat} (h : b ≠ 0) : b.num ≠ 0 := fun z => h (Rat.num_eq_zero.mp z)
theorem add_le (a b : Rat) : (a + b).num.natAbs ≤ (a.num * b.den + b.num * a.den).natAbs ∧ ((a + b).den : Int).natAbs ≤ ((a.den : Int) * b.den).natAbs := by
  rw [← rat_add]; exact rat_le _ (Int.mul_ne_zero (den_ne a) (den_ne b))
theorem mul_le (a b : Rat) : (a * b).num.natAbs ≤ (a.num * b.num).natAbs ∧ ((a * b).den : Int).natAbs ≤ ((a.den : Int) * b.den).natAbs := by
  rw [← rat_mul]; exact rat_le _ (Int.mul_ne_zero (den_ne a) (den_ne b))
end Mt
namespace L2
open PySem PySem.Spec PyProof.Rows
theorem Same.seqT {K : PySem.W.Frag} {H H' : Hp} {a : Addr} {xs : List V} (e : Same H H') (h : SqT K H a xs) : SqT K H' a xs := by
  rcases h with (h | ⟨o, h⟩) | h
  · exact .inl (.inl (e _ _ h))
  · exact .inl (.inr ⟨o, e _ _ h⟩)
  · exact .inr h
def frO (q : Rat) : HO := .tup [.int q.num, .int (q.den : Int)]
def Fq (K : PySem.W.Frag) (H : Hp) (p : Addr) (q : Rat) : Prop := SqT K H p [.int q.num, .int (q.den : Int)]
theorem Fq.of {K : PySem.W.Frag} {H : Hp} {p : Addr} {q : Rat} (h : H p = some (frO q)) : Fq K H p q := SqT.of h
theorem Fq.same {K : PySem.W.Frag} {H H' : Hp} {p : Addr} {q : Rat} (h : Fq K H p q) (e : Same H H') : Fq K H' p q := e.seqT h
def rFqI (K : PySem.W.Frag) : R2 := fun x y H Q => ∃ p a, x = .ref p ∧ Fq K H p a ∧ ((y = .int 0 ∧ Q (.int a.num) H) ∨ (y = .int 1 ∧ Q (.int (a.den : Int)) H))
theorem ix_fq {X : Cx} : IxR X (rFqI X.K) := by
  intro value slice pins s σ H x y v u Q I rx ry h hs
  obtain ⟨p, a, rfl, hq, ⟨rfl, q⟩ | ⟨rfl, q⟩⟩ := h
  · exact ix_tup value slice pins s σ H _ _ v u Q I rx ry ⟨p, _, 0, _, rfl, rfl, hq, rfl, q⟩ hs
  · exact ix_tup value slice pins s σ H _ _ v u Q I rx ry ⟨p, _, 1, _, rfl, rfl, hq, rfl, q⟩ hs
theorem frO_int (n : Int) : frO (n : Rat) = .tup [.int n, .int 1] := by simp [frO]
structure Sz (n : Nat) (q : Rat) : Prop where
  t : Bd n q.num
  b : Bd n (q.den : Int)
theorem Sz.mono {m n : Nat} {q : Rat} (h : Sz m q) (l : m ≤ n) : Sz n q := ⟨h.t.mono l, h.b.mono l⟩
theorem Sz.add {m n : Nat} {a b : Rat} (ha : Sz m a) (hb : Sz n b) : Sz (m + n + 1) (a + b) := by
  refine ⟨?_, ?_⟩
  · refine Bd.le ?_ (Mt.add_le a b).1
    have h1 := ha.t.mul hb.b
    have h2 := hb.t.mul ha.b
    rw [Nat.add_comm n m] at h2
    exact h1.add h2
  · refine Bd.le ?_ (Mt.add_le a b).2
    exact (ha.b.mul hb.b).mono (by omega)
theorem Sz.mul {m n : Nat} {a b : Rat} (ha : Sz m a) (hb : Sz n b) : Sz (m + n) (a * b) :=
  ⟨Bd.le (ha.t.mul hb.t) (Mt.mul_le a b).1, Bd.le (ha.b.mul hb.b) (Mt.mul_le a b).2⟩
theorem Sz.neg {n : Nat} {a : Rat} (h : Sz n a) : Sz n (-a) := ⟨by rw [Rat.neg_num]; exact h.t.neg, by rw [Rat.neg_den]; exact h.b⟩
theorem Bd.dv {i j : Int} {n : Nat} (h : Bd n j) (z : j ≠ 0) (l : n ≤ 9000 := by decide) : CDivB i j := ⟨z, h.mono l⟩
theorem Bd.mu {i j : Int} {m n : Nat} (h : Bd m i) (k : Bd n j) (l : m ≤ 100000 := by decide) (l' : n ≤ 100000 := by decide) : CMulB i j := ⟨h.mono l, k.mono l'⟩
theorem tSeq_step {t u : TS} {D : Ends} {σ : St} {H : Hp} (h : ∀ N : St → Hp → Prop, (∀ σ H, u D σ H → N σ H) → t { D with nx := N } σ H) : tSeq t u D σ H := h (u D) fun _ _ z => z
end L2
namespace Mt
def cf (l : List Rat) (n : Nat) : Rat := l.getD n 0
def trim : List Rat → List Rat
  | [] => []
  | a :: l => if trim l = [] ∧ a = 0 then [] else a :: trim l
def NZ (l : List Rat) : Prop := l = [] ∨ cf l (l.length - 1) ≠ 0
theorem cf_nil (n : Nat) : cf [] n = 0 := by simp [cf]
theorem cf_zero (a : Rat) (l : List Rat) : cf (a :: l) 0 = a := by simp [cf]
theorem cf_succ (a : Rat) (l : List Rat) (n : Nat) : cf (a :: l) (n + 1) = cf l n := by simp [cf]
theorem cf_ge {l : List Rat} {n : Nat} (h : l.length ≤ n) : cf l n = 0 := by simp [cf, List.getD, List.getElem?_eq_none h]
theorem cf_at {l : List Rat} {n : Nat} {x : Rat} (h : l[n]? = some x) : cf l n = x := by simp [cf, List.getD, h]
theorem cf_lt {l : List Rat} {n : Nat} (h : n < l.length) : l[n]? = some (cf l n) := by simp [cf, List.getD, h]
theorem cf_trim : ∀ (l : List Rat) (n : Nat), cf (trim l) n = cf l n
  | [], n => rfl
  | a :: l, n => by
    rw [trim]
    split
    · rename_i h
      cases n with
      | zero => rw [cf_zero, cf_nil, h.2]
      | succ n => rw [cf_succ, cf_nil, ← cf_trim l n, h.1, cf_nil]
    · cases n with
      | zero => rw [cf_zero, cf_zero]
      | succ n => rw [cf_succ, cf_succ, cf_trim l n]
theorem NZ.cons {a : Rat} {l : List Rat} (h : NZ l) (k : ¬ (l = [] ∧ a = 0)) : NZ (a :: l) := by
  right
  rcases h with h | h
  · subst h
    simp only [List.length_cons, List.length_nil, Nat.zero_add, Nat.sub_self, cf_zero]
    intro z; exact k ⟨rfl, z⟩
  · cases l with
    | nil => exact absurd (cf_nil _) h
    | cons b r =>
      simp only [List.length_cons, Nat.add_sub_cancel] at *
      rw [cf_succ]; exact h
theorem NZ_trim : ∀ l : List Rat, NZ (trim l)
  | [] => .inl rfl
  | a :: l => by
    rw [trim]
    split
    · exact .inl rfl
    · rename_i h; exact (NZ_trim l).cons h
theorem NZ.len {l m : List Rat} (hl : NZ l) (h : ∀ n, cf l n = cf m n) : l.length ≤ m.length := by
  rcases hl with rfl | hl
  · exact Nat.zero_le _
  · rcases Nat.lt_or_ge m.length l.length with z | z
    · rw [h, cf_ge (by omega)] at hl
      exact absurd rfl hl
    · exact z
theorem NZ.ext {l m : List Rat} (hl : NZ l) (hm : NZ m) (h : ∀ n, cf l n = cf m n) : l = m := by
  have e : l.length = m.length := Nat.le_antisymm (hl.len h) (hm.len fun n => (h n).symm)
  refine List.ext_getElem? fun i => ?_
  rcases Nat.lt_or_ge i l.length with z | z
  · rw [cf_lt z, cf_lt (l := m) (by omega), h]
  · rw [List.getElem?_eq_none z, List.getElem?_eq_none (by omega)]
theorem trim_NZ {l : List Rat} (h : NZ l) : trim l = l := (NZ_trim l).ext h fun n => cf_trim l n
theorem trim_len (l : List Rat) : (trim l).length ≤ l.length := (NZ_trim l).len fun n => cf_trim l n
theorem cf_take {l : List Rat} {k n : Nat} : cf (l.take k) n = if n < k then cf l n else 0 := by
  split
  · rename_i h; simp [cf, List.getD, List.getElem?_take, h]
  · rename_i h; simp [cf, List.getD, List.getElem?_take, h]
theorem take_trim {l : List Rat} {k : Nat} (hk : k ≤ l.length) (h0 : ∀ i, k ≤ i → cf l i = 0) (h1 : k = 0 ∨ cf l (k - 1) ≠ 0) : l.take k = trim l := by
  refine NZ.ext ?_ (NZ_trim l) fun n => ?_
  · rcases h1 with rfl | h1
    · exact .inl rfl
    · rcases Nat.eq_zero_or_pos k with rfl | hp
      · exact .inl rfl
      · right
        rw [List.length_take, Nat.min_eq_left hk, cf_take, if_pos (by omega)]
        exact h1
  · rw [cf_take, cf_trim]
    split
    · rfl
    · rename_i h; rw [h0 n (by omega)]
def addL (f g : List Rat) : List Rat := (List.range (max f.length g.length)).map fun n => cf f n + cf g n
theorem cf_map_range (m : Nat) (F : Nat → Rat) (n : Nat) : cf ((List.range m).map F) n = if n < m then F n else 0 := by
  split
  · rename_i h; simp [cf, List.getD, h]
  · rename_i h; exact cf_ge (by simp; omega)
theorem cf_addL (f g : List Rat) (n : Nat) : cf (addL f g) n = cf f n + cf g n := by
  rw [addL, cf_map_range]
  split
  · rfl
  · rename_i h; rw [cf_ge (l := f) (by omega), cf_ge (l := g) (by omega)]; grind
theorem cf_map (F : Rat → Rat) (h0 : F 0 = 0) (f : List Rat) (n : Nat) : cf (f.map F) n = F (cf f n) := by
  rcases Nat.lt_or_ge n f.length with z | z
  · exact cf_at (by rw [List.getElem?_map, cf_lt z]; rfl)
  · rw [cf_ge (by simpa using z), cf_ge z, h0]
theorem map_cf (F : Rat → Rat) (f : List Rat) : (List.range f.length).map (fun i => F (cf f i)) = f.map F := by
  refine List.ext_getElem? fun i => ?_
  rw [List.getElem?_map, List.getElem?_map]
  rcases Nat.lt_or_ge i f.length with z | z
  · rw [List.getElem?_range z, cf_lt z]; rfl
  · rw [List.getElem?_eq_none z, List.getElem?_eq_none (by simpa using z)]; rfl
def padd (f g : List Rat) : List Rat := trim (addL f g)
def pscale (f : List Rat) (a : Rat) : List Rat := trim (f.map (· * a))
def psub (f g : List Rat) : List Rat := padd f (pscale g (-1))
theorem cf_padd (f g : List Rat) (n : Nat) : cf (padd f g) n = cf f n + cf g n := by rw [padd, cf_trim, cf_addL]
theorem cf_pscale (f : List Rat) (a : Rat) (n : Nat) : cf (pscale f a) n = cf f n * a := by rw [pscale, cf_trim, cf_map _ (Rat.zero_mul a)]
theorem cf_psub (f g : List Rat) (n : Nat) : cf (psub f g) n = cf f n - cf g n := by
  rw [psub, cf_padd, cf_pscale]; grind
theorem NZ_psub (f g : List Rat) : NZ (psub f g) := NZ_trim _
end Mt
namespace Mt
def mc : List Rat → List Rat → Nat → Rat
  | [], _, _ => 0
  | a :: _, g, 0 => a * cf g 0
  | a :: f, g, n + 1 => a * cf g (n + 1) + mc f g n
theorem mc_nil_left (g : List Rat) (n : Nat) : mc [] g n = 0 := by cases n <;> rfl
theorem mc_ext : ∀ (f : List Rat) {g h : List Rat} (_ : ∀ n, cf g n = cf h n) (n : Nat), mc f g n = mc f h n
  | [], _, _, _, n => by rw [mc_nil_left, mc_nil_left]
  | a :: f, g, h, e, 0 => by rw [mc, mc, e]
  | a :: f, g, h, e, n + 1 => by rw [mc, mc, e, mc_ext f e n]
theorem mc_add : ∀ (f : List Rat) {g h k : List Rat} (_ : ∀ n, cf k n = cf g n + cf h n) (n : Nat), mc f k n = mc f g n + mc f h n
  | [], _, _, _, _, n => by simp only [mc_nil_left]; grind
  | a :: f, g, h, k, e, 0 => by simp only [mc, e]; grind
  | a :: f, g, h, k, e, n + 1 => by simp only [mc, e, mc_add f e n]; grind
theorem mc_nil_right : ∀ (f : List Rat) (n : Nat), mc f [] n = 0
  | [], n => mc_nil_left _ n
  | a :: f, 0 => by rw [mc, cf_nil]; grind
  | a :: f, n + 1 => by rw [mc, cf_nil, mc_nil_right f n]; grind
theorem mc_cons_right : ∀ (f : List Rat) (b : Rat) (g : List Rat) (n : Nat), mc f (b :: g) n = cf f n * b + (match n with | 0 => 0 | n + 1 => mc f g n)
  | [], b, g, 0 => by rw [mc_nil_left, cf_nil]; grind
  | [], b, g, n + 1 => by rw [mc_nil_left, cf_nil]; simp only [mc_nil_left]; grind
  | a :: f, b, g, 0 => by rw [mc, cf_zero, cf_zero]; grind
  | a :: f, b, g, n + 1 => by
    rw [mc, cf_succ, mc_cons_right f b g n, cf_succ]
    cases n with
    | zero => simp only [mc]; grind
    | succ n => simp only [mc]; grind
theorem mc_comm : ∀ (f g : List Rat) (n : Nat), mc f g n = mc g f n
  | [], g, n => by rw [mc_nil_left, mc_nil_right]
  | a :: f, g, 0 => by rw [mc, mc_cons_right]; grind
  | a :: f, g, n + 1 => by rw [mc, mc_cons_right, mc_comm f g n]; grind
def addAt (l : List Rat) (k : Nat) (x : Rat) : List Rat := l.set k (cf l k + x)
def rowIn (l : List Rat) (i : Nat) (a : Rat) (g : List Rat) (j : Nat) : List Rat := (List.range j).foldl (fun l j => addAt l (i + j) (a * cf g j)) l
def prodIn (f g : List Rat) (i : Nat) : List Rat := (List.range i).foldl (fun l i => rowIn l i (cf f i) g g.length) (List.replicate (f.length + g.length) 0)
theorem rowIn_zero (l : List Rat) (i : Nat) (a : Rat) (g : List Rat) : rowIn l i a g 0 = l := rfl
theorem rowIn_succ (l : List Rat) (i : Nat) (a : Rat) (g : List Rat) (j : Nat) : rowIn l i a g (j + 1) = addAt (rowIn l i a g j) (i + j) (a * cf g j) := by simp [rowIn, List.range_succ]
theorem prodIn_zero (f g : List Rat) : prodIn f g 0 = List.replicate (f.length + g.length) 0 := rfl
theorem prodIn_succ (f g : List Rat) (i : Nat) : prodIn f g (i + 1) = rowIn (prodIn f g i) i (cf f i) g g.length := by simp [prodIn, List.range_succ]
theorem addAt_len (l : List Rat) (k : Nat) (x : Rat) : (addAt l k x).length = l.length := by simp [addAt]
theorem rowIn_len (l : List Rat) (i : Nat) (a : Rat) (g : List Rat) : ∀ j, (rowIn l i a g j).length = l.length
  | 0 => rfl
  | j + 1 => by rw [rowIn_succ, addAt_len, rowIn_len l i a g j]
theorem prodIn_len (f g : List Rat) : ∀ i, (prodIn f g i).length = f.length + g.length
  | 0 => by simp [prodIn_zero]
  | i + 1 => by rw [prodIn_succ, rowIn_len, prodIn_len f g i]
theorem cf_addAt {l : List Rat} {k : Nat} (h : k < l.length) (x : Rat) (n : Nat) : cf (addAt l k x) n = if n = k then cf l n + x else cf l n := by
  split
  · rename_i e; subst e
    exact cf_at (by simp [addAt, h])
  · rename_i e
    simp only [cf, addAt, List.getD]
    rw [List.getElem?_set_ne (by omega)]
theorem cf_rowIn {l : List Rat} {i : Nat} (a : Rat) (g : List Rat) (n : Nat) : ∀ j, i + j ≤ l.length → cf (rowIn l i a g j) n = cf l n + (if i ≤ n ∧ n < i + j then a * cf g (n - i) else 0)
  | 0, _ => by rw [rowIn_zero, if_neg (by omega)]; grind
  | j + 1, h => by
    rw [rowIn_succ, cf_addAt (by rw [rowIn_len]; omega), cf_rowIn a g n j (by omega)]
    by_cases e : n = i + j
    · rw [if_pos e, if_neg (by omega), if_pos (by omega), show n - i = j by omega]; grind
    · rw [if_neg e]
      by_cases e2 : i ≤ n ∧ n < i + j
      · rw [if_pos e2, if_pos (by omega)]
      · rw [if_neg e2, if_neg (by omega)]
theorem cf_replicate (m n : Nat) : cf (List.replicate m 0) n = 0 := by
  rcases Nat.lt_or_ge n m with z | z
  · exact cf_at (by simp [z])
  · exact cf_ge (by simpa using z)
theorem mc_take_succ : ∀ (f g : List Rat) (i n : Nat), i < f.length → mc (f.take (i + 1)) g n = mc (f.take i) g n + (if i ≤ n then cf f i * cf g (n - i) else 0)
  | [], g, i, n, h => by simp at h
  | a :: f, g, 0, n, h => by
    rw [List.take_succ_cons, List.take_zero, List.take_zero, mc_nil_left, if_pos (by omega), cf_zero]
    cases n with
    | zero => simp only [mc, Nat.sub_self]; grind
    | succ n => simp only [mc, mc_nil_left, Nat.sub_zero]; grind
  | a :: f, g, i + 1, 0, h => by
    rw [List.take_succ_cons, List.take_succ_cons, mc, mc, if_neg (by omega)]; grind
  | a :: f, g, i + 1, n + 1, h => by
    simp only [List.length_cons] at h
    rw [List.take_succ_cons, List.take_succ_cons, mc, mc, mc_take_succ f g i n (by omega), cf_succ]
    by_cases e : i ≤ n
    · rw [if_pos e, if_pos (by omega), show n + 1 - (i + 1) = n - i by omega]; grind
    · rw [if_neg e, if_neg (by omega)]; grind
theorem cf_prodIn (f g : List Rat) (n : Nat) : ∀ i, i ≤ f.length → cf (prodIn f g i) n = mc (f.take i) g n
  | 0, _ => by rw [prodIn_zero, cf_replicate, List.take_zero, mc_nil_left]
  | i + 1, h => by
    rw [prodIn_succ, cf_rowIn _ _ _ _ (by rw [prodIn_len]; omega), cf_prodIn f g n i (by omega), mc_take_succ f g i n (by omega)]
    congr 1
    by_cases e : i ≤ n ∧ n < i + g.length
    · rw [if_pos e, if_pos e.1]
    · rw [if_neg e]
      split
      · rw [cf_ge (l := g) (by omega)]; grind
      · rfl
def pmul (f g : List Rat) : List Rat := trim (prodIn f g f.length)
theorem cf_pmul (f g : List Rat) (n : Nat) : cf (pmul f g) n = mc f g n := by rw [pmul, cf_trim, cf_prodIn f g n _ (Nat.le_refl _), List.take_length]
end Mt
namespace HT
open PySem PyProof.Rows
section
variable {prog : Program} {w : World} {A : Around} {E : Value → Shared → Prop} {s : Shared}
theorem getItem_tuple_all {t sl : Addr} {items : Array Value} {vl vu : Value} {lo hi : Option Int} {Q : Value → Shared → Prop} (ht : IsTup s.heap t items) (hs : s.heap.IsSliceOf sl vl vu .none) (pl : IsPart vl lo) (pu : IsPart vu hi)
    (hw : sIx items.size 0 lo = 0 ∧ sIx items.size items.size hi = items.size) (h : Q (.ref t) s) : wpAny (model prog w) A (getItem (.ref t) (.ref sl)) Q E s := by
  obtain ⟨os, hos, hcs, hds⟩ := id hs
  have hTs : s.TypeIs (.ref sl) "slice" := ⟨os, hos, hcs⟩
  unfold getItem
  try with_reducible refine wpAny_holding ?_
  first | refine wpAny_bind (wpAny_pure ?_) | skip
  refine wpAny_bind (wpAny_sequenceKey ht.typeIs (by decide) ?_)
  refine wpAny_bind (wpAny_callSpecial?_slot (name := Str.ofString "__getitem__") ht.typeIs PyProof.Rows.slot_tuple_getitem
    (wpAny_call_entry PyProof.Rows.slot_tuple_getitem ht.typeIs entry_tuple_getitem ?_ (args_tuple_getitem _ _)))
  show wpAny _ _ (Builtin.Tuple.tupleItemsOf (.ref t) >>= _) _ _ s
  refine wpAny_bind (tupleItemsOf_ ht ?_)
  refine wpAny_bind (wpAny_typeOf hTs ?_)
  rw [if_pos (by decide)]
  refine wpAny_bind (sliceApplied_gen hs pl pu ?_)
  have hyes : (((sIx items.size 0 lo : Nat) : Int) == 0 && (1 : Int) == 1 && (sIx items.size items.size hi - sIx items.size 0 lo) == items.size) = true := by
    rw [hw.1, hw.2]; simp
  show wpAny _ _ (if (((sIx items.size 0 lo : Nat) : Int) == 0 && (1 : Int) == 1 && (sIx items.size items.size hi - sIx items.size 0 lo) == items.size) = true then _ else _) _ _ s
  rw [if_pos hyes]
  refine wpAny_bind ?_
  unfold Builtin.Tuple.tupleIsExact
  refine wpAny_bind (wpAny_typeOf ht.typeIs (wpAny_pure ?_))
  rw [if_pos (by decide)]
  refine wpAny_bind (wpAny_rule ?_)
  exact wpAny_pure ⟨_, rfl, wpAny_pure h⟩
end
end HT
namespace L2
open PySem PySem.Spec PyProof.Rows
def rSlTA (K : PySem.W.Frag) : V → Option Int → Option Int → Hp → VK → Prop := fun x lo hi H Q => ∃ a xs, x = .ref a ∧ SqT K H a xs ∧ ∀ p H', Same H H' → SqT K H' p (cutV xs lo hi) → Q (.ref p) H'
theorem sl_tupA {X : Cx} : SlR X (rSlTA X.K) := by
  intro pins s σ H x v vl vu lo hi sl Q I rx hs pl pu h
  obtain ⟨a, xs, e, hx, q⟩ := h
  subst e
  by_cases hw : HT.sIx xs.length 0 lo = 0 ∧ HT.sIx xs.length xs.length hi = xs.length
  · cases rx
    obtain ⟨its, r, ht, hz⟩ := I.tuple hx
    have hlen : its.toArray.size = xs.length := by rw [List.size_toArray]; exact r.length.symm
    refine ⟨"tuple", _, PyProof.Rows.slot_tuple_getitem.lookup, ht.typeIs, ?_⟩
    refine HT.getItem_tuple_all ht hs pl pu (by rw [hlen]; exact hw) ⟨.ref a, H, I, rfl, q a H (Same.refl H) ?_⟩
    have e : cutV xs lo hi = xs := by unfold cutV; rw [hw.1, hw.2]; simp
    rw [e]; exact hx
  · exact sl_tup pins s σ H (.ref a) v vl vu lo hi sl Q I rx hs pl pu ⟨a, xs, rfl, hx, hw, fun p hp => q p _ (same_upd hp) (SqT.of upd_same)⟩
theorem cutV_to (xs : List V) (k : Nat) (h : k ≤ xs.length) : cutV xs none (some (k : Int)) = xs.take k := by
  unfold cutV
  rw [HT.sIx_none, HT.sIx_nat, Nat.min_eq_left h]
  simp
theorem pe_comp2 {X : Cx} {elt iter tg : Expr} {scope : Scope} (Nl : List Str) (y1 : Str) (j1 : Nat) (y2 : Str) (j2 : Nat) {c1 c2 : Addr} {wi : TI} {g : TG} {te : TE} {pos : Pos} (hc : X.calm = true) (hi : PI X tg iter wi)
    (hg : ∀ C s₀ H₀ ex pn, PG (X.cp (Nl ++ [y1, y2]) scope [(y1, c1), (y2, c2)] C s₀ H₀ ex pn) tg g) (he : ∀ C s₀ H₀ ex pn, PE (X.cp (Nl ++ [y1, y2]) scope [(y1, c1), (y2, c2)] C s₀ H₀ ex pn) elt te)
    (hclos : closureFor scope X.env = pure [(y1, c1), (y2, c2)]) (hy1 : X.env.cells.lookup y1 = some c1) (hy2 : X.env.cells.lookup y2 = some c2) (hN1 : X.N[j1]? = some y1) (hN2 : X.N[j2]? = some y2)
    (hk1 : X.env.kindOf y1 = some .cell) (hk2 : X.env.kindOf y2 = some .cell) (hb1 : (relabel scope X.env).names.lookup y1 = some .cell) (hb2 : (relabel scope X.env).names.lookup y2 = some .cell)
    (hne : y2 ≠ y1 := by decide) (h1 : ∀ p ∈ scope.names, p.2 = .free → p.1 = y1 ∨ p.1 = y2 := by decide +kernel) (hcell : ∀ y ∈ scope.names, y.2 ≠ .cell := by decide +kernel) (hkind : scope.kind = .function := by rfl)
    (hnames : ∀ y ∈ scope.names, y.2 = .local → scope.names.lookup y.1 = some .local := by decide +kernel)
    (hs : ∀ x, foldedSetIterable iter X.env x = pure x := by intro _; rfl) : PCo X (.ListComp elt [⟨tg, iter, [], 0⟩] scope pos) scope iter (tComp ((Nl.map fun _ => none) ++ [some j1, some j2]) wi g te) := by
  have self1 : List.lookup y1 [(y1, c1), (y2, c2)] = some c1 := by simp
  have self2 : List.lookup y2 [(y1, c1), (y2, c2)] = some c2 := by
    rw [List.lookup_cons, show (y2 == y1) = false from beq_eq_false_iff_ne.mpr hne]; simp
  have look : ∀ z d, List.lookup z [(y1, c1), (y2, c2)] = some d → (z = y1 ∧ d = c1) ∨ (z = y2 ∧ d = c2) := fun z d h => by
    have m := PySem.mem_of_lookup h
    rcases List.mem_cons.mp m with q | q
    · cases q; exact .inl ⟨rfl, rfl⟩
    · cases List.mem_singleton.mp q; exact .inr ⟨rfl, rfl⟩
  refine pe_comp (cl := [(y1, c1), (y2, c2)]) (Nc := Nl ++ [y1, y2]) hc hi hg he (by simp) (fun z d h => ?_) (fun z h => ?_) (fun i z j' e1 e2 => ?_) hclos hcell hkind hnames hs
  · rcases look z d h with ⟨rfl, rfl⟩ | ⟨rfl, rfl⟩
    · exact hy1
    · exact hy2
  · have m := h.elim (fun q => rel_mem q (.inl rfl) hcell) fun q => rel_mem q (.inr rfl) hcell
    rcases h1 _ m rfl with e | e
    · have e : z = y1 := e
      subst e; exact ⟨c1, self1⟩
    · have e : z = y2 := e
      subst e; exact ⟨c2, self2⟩
  · have hi : i = Nl.length ∨ i = Nl.length + 1 := by
      by_cases hlt : i < Nl.length
      · rw [List.getElem?_append_left (by simpa using hlt), List.getElem?_map] at e2
        cases q : Nl[i]? with
        | none => rw [q] at e2; cases e2
        | some z => rw [q] at e2; cases e2
      · have := (List.getElem?_eq_some_iff.mp e1).1
        simp at this
        omega
    rcases hi with rfl | rfl
    · have a1 : (Nl ++ [y1, y2])[Nl.length]? = some y1 := by simp
      have a2 : ((Nl.map fun _ => (none : Option Nat)) ++ [some j1, some j2])[Nl.length]? = some (some j1) := by
        rw [List.getElem?_append_right (by simp)]; simp
      rw [a1] at e1; cases e1
      rw [a2] at e2; cases e2
      exact ⟨hN1, .inr (.inl hk1), by rw [hk1]; exact (fun q => nomatch q), .inl hb1, fun d h => by rw [hy1] at h; cases h; exact self1⟩
    · have a1 : (Nl ++ [y1, y2])[Nl.length + 1]? = some y2 := by
        rw [List.getElem?_append_right (by omega)]; simp
      have a2 : ((Nl.map fun _ => (none : Option Nat)) ++ [some j1, some j2])[Nl.length + 1]? = some (some j2) := by
        rw [List.getElem?_append_right (by simp)]; simp
      rw [a1] at e1; cases e1
      rw [a2] at e2; cases e2
      exact ⟨hN2, .inr (.inl hk2), by rw [hk2]; exact (fun q => nomatch q), .inl hb2, fun d h => by rw [hy2] at h; cases h; exact self2⟩
mutual
theorem Rep.same {K : PySem.W.Frag} {H H' : Hp} (e : Same H H') : ∀ (d : Dt) (v : V), Rep K H d v → Rep K H' d v := by
  intro d v h
  match d with
  | .non => simp only [Rep] at *; exact h
  | .bl _ => simp only [Rep] at *; exact h
  | .int _ => simp only [Rep] at *; exact h
  | .str _ => simp only [Rep] at *; exact h
  | .tup l => simp only [Rep] at *; obtain ⟨a, xs, rfl, s, r⟩ := h; exact ⟨a, xs, rfl, e.seqT s, Reps.same e l xs r⟩
  | .lst l => simp only [Rep] at *; obtain ⟨a, xs, rfl, s, r⟩ := h; exact ⟨a, xs, rfl, e.seq s, Reps.same e l xs r⟩
theorem Reps.same {K : PySem.W.Frag} {H H' : Hp} (e : Same H H') : ∀ (l : List Dt) (xs : List V), Reps K H l xs → Reps K H' l xs := by
  intro l xs h
  match l with
  | [] => simp only [Reps] at *; exact h
  | d :: l => simp only [Reps] at *; obtain ⟨x, r, rfl, h1, h2⟩ := h; exact ⟨x, r, rfl, Rep.same e d x h1, Reps.same e l r h2⟩
end
def frD (q : Rat) : Dt := .tup [.int q.num, .int (q.den : Int)]
def lstD (f : List Rat) : Dt := .lst (f.map frD)
theorem rep_fr {K : PySem.W.Frag} {H : Hp} {p : Addr} {q : Rat} (h : Fq K H p q) : Rep K H (frD q) (.ref p) := by
  simp only [frD, Rep, Reps]
  exact ⟨p, _, rfl, h, _, _, rfl, rfl, _, _, rfl, rfl, rfl⟩
theorem rep_fr' {K : PySem.W.Frag} {H : Hp} {v : V} {q : Rat} (h : Rep K H (frD q) v) : ∃ p, v = .ref p ∧ Fq K H p q := by
  simp only [frD, Rep, Reps] at h
  obtain ⟨p, xs, rfl, s, x, r, rfl, rfl, y, r2, rfl, rfl, rfl⟩ := h
  exact ⟨p, rfl, s⟩
theorem frD_eqb (a b : Rat) : (frD a).eqb (frD b) = decide (a = b) := by
  simp only [frD, Dt.eqb, Dt.eqbs, Bool.and_true]
  rw [Bool.eq_iff_iff]
  simp only [Bool.and_eq_true, beq_iff_eq, decide_eq_true_eq]
  constructor
  · rintro ⟨h1, h2⟩
    exact Rat.ext h1 (by omega)
  · rintro rfl; exact ⟨rfl, rfl⟩
theorem frD_sim (a b : Rat) : (frD a).sim (frD b) = true := by simp [frD, Dt.sim, Dt.sims]
theorem frD_dep (a : Rat) : (frD a).dep = 1 := by simp [frD, Dt.dep, Dt.deps]
theorem frDs_dep : ∀ f : List Rat, Dt.deps (f.map frD) ≤ 1
  | [] => by simp [Dt.deps]
  | a :: f => by rw [List.map_cons, Dt.deps, frD_dep]; exact Nat.max_le.mpr ⟨Nat.le_refl _, frDs_dep f⟩
section
variable {K : PySem.W.Frag} {H : Hp} {x y : V} {Q : VK}
theorem fr_cmp {ne : Bool} {a b : Rat} (h1 : Rep K H (frD a) x) (h2 : Rep K H (frD b) y) (q : Q (.bl (if ne then !decide (a = b) else decide (a = b))) H) : rEqD K ne x y H Q :=
  ⟨_, _, h1, h2, frD_sim a b, by rw [frD_dep]; decide, by rw [frD_dep]; decide, by rw [frD_eqb]; exact q⟩
end
def Frs (K : PySem.W.Frag) (H : Hp) (f : List Rat) (xs : List V) : Prop := Reps K H (f.map frD) xs
theorem SqT.updL {K : PySem.W.Frag} {H : Hp} {D p : Addr} {ys xs : List V} {o : HO} (hD : H D = some (.lst ys)) (h : SqT K H p xs) : SqT K (upd H D o) p xs := by
  rcases h with (h | ⟨u, h⟩) | h
  · exact .inl (.inl (by rw [upd_ne (by rintro rfl; rw [hD] at h; cases h)]; exact h))
  · exact .inl (.inr ⟨u, by rw [upd_ne (by rintro rfl; rw [hD] at h; cases h)]; exact h⟩)
  · exact .inr h
theorem Frs.same {K : PySem.W.Frag} {H H' : Hp} {f : List Rat} {xs : List V} (h : Frs K H f xs) (e : Same H H') : Frs K H' f xs := Reps.same e _ _ h
theorem Frs.nil {K : PySem.W.Frag} {H : Hp} : Frs K H [] [] := by simp [Frs, Reps]
theorem Frs.cons {K : PySem.W.Frag} {H : Hp} {q : Rat} {f : List Rat} {p : Addr} {xs : List V} (h : Fq K H p q) (k : Frs K H f xs) : Frs K H (q :: f) (.ref p :: xs) := by
  simp only [Frs, List.map_cons, Reps]
  exact ⟨_, _, rfl, rep_fr h, k⟩
theorem Frs.uncons {K : PySem.W.Frag} {H : Hp} {q : Rat} {f : List Rat} {xs : List V} (h : Frs K H (q :: f) xs) : ∃ p ys, xs = .ref p :: ys ∧ Fq K H p q ∧ Frs K H f ys := by
  simp only [Frs, List.map_cons, Reps] at h
  obtain ⟨x, r, rfl, h1, h2⟩ := h
  obtain ⟨p, rfl, h3⟩ := rep_fr' h1
  exact ⟨p, r, rfl, h3, h2⟩
theorem Frs.len {K : PySem.W.Frag} {H : Hp} {f : List Rat} {xs : List V} (h : Frs K H f xs) : f.length = xs.length := by
  have := Reps.len h
  simpa using this
theorem Frs.at {K : PySem.W.Frag} {H : Hp} {f : List Rat} {xs : List V} (h : Frs K H f xs) {j : Nat} (hj : j < f.length) : ∃ p, xs[j]? = some (.ref p) ∧ Fq K H p (Mt.cf f j) := by
  obtain ⟨x, e, r⟩ := Reps.at (d := frD (Mt.cf f j)) h (by rw [List.getElem?_map, Mt.cf_lt hj]; rfl)
  obtain ⟨p, rfl, q⟩ := rep_fr' r
  exact ⟨p, e, q⟩
theorem Frs.snoc {K : PySem.W.Frag} {H : Hp} {q : Rat} {p : Addr} : ∀ {f : List Rat} {xs : List V}, Frs K H f xs → Fq K H p q → Frs K H (f ++ [q]) (xs ++ [.ref p])
  | [], xs, h, k => by
    have e : xs = [] := by simpa [Frs, Reps] using h
    subst e
    exact Frs.cons k Frs.nil
  | a :: f, xs, h, k => by
    obtain ⟨r, ys, rfl, h1, h2⟩ := h.uncons
    exact Frs.cons h1 (Frs.snoc h2 k)
theorem Frs.updL {K : PySem.W.Frag} {H : Hp} {D : Addr} {ys : List V} {o : HO} (hD : H D = some (.lst ys)) : ∀ {f : List Rat} {xs : List V}, Frs K H f xs → Frs K (upd H D o) f xs
  | [], xs, h => by
    have e : xs = [] := by simpa [Frs, Reps] using h
    subst e
    exact Frs.nil
  | a :: f, xs, h => by
    obtain ⟨r, zs, rfl, h1, h2⟩ := h.uncons
    exact Frs.cons (SqT.updL hD h1) (Frs.updL hD h2)
theorem Frs.take {K : PySem.W.Frag} {H : Hp} : ∀ {f : List Rat} {xs : List V} (k : Nat), Frs K H f xs → Frs K H (f.take k) (xs.take k)
  | [], xs, k, h => by
    have e : xs = [] := by simpa [Frs, Reps] using h
    subst e
    simp only [List.take_nil]; exact Frs.nil
  | a :: f, xs, 0, h => by simp only [List.take_zero]; exact Frs.nil
  | a :: f, xs, k + 1, h => by
    obtain ⟨r, zs, rfl, h1, h2⟩ := h.uncons
    simp only [List.take_succ_cons]
    exact Frs.cons h1 (Frs.take k h2)
theorem Frs.set {K : PySem.W.Frag} {H : Hp} {q : Rat} {p : Addr} : ∀ {f : List Rat} {xs : List V} (k : Nat), Frs K H f xs → Fq K H p q → Frs K H (f.set k q) (xs.set k (.ref p))
  | [], xs, k, h, _ => by
    have e : xs = [] := by simpa [Frs, Reps] using h
    subst e
    exact Frs.nil
  | a :: f, xs, 0, h, z => by
    obtain ⟨r, zs, rfl, h1, h2⟩ := h.uncons
    exact Frs.cons z h2
  | a :: f, xs, k + 1, h, z => by
    obtain ⟨r, zs, rfl, h1, h2⟩ := h.uncons
    exact Frs.cons h1 (Frs.set k h2 z)
def Pl (K : PySem.W.Frag) (H : Hp) (p : Addr) (f : List Rat) : Prop := ∃ xs, SqT K H p xs ∧ Frs K H f xs
theorem Pl.same {K : PySem.W.Frag} {H H' : Hp} {p : Addr} {f : List Rat} (h : Pl K H p f) (e : Same H H') : Pl K H' p f := let ⟨xs, h1, h2⟩ := h; ⟨xs, e.seqT h1, h2.same e⟩
theorem Pl.updL {K : PySem.W.Frag} {H : Hp} {D p : Addr} {ys : List V} {o : HO} {f : List Rat} (hD : H D = some (.lst ys)) (h : Pl K H p f) : Pl K (upd H D o) p f := let ⟨xs, h1, h2⟩ := h; ⟨xs, h1.updL hD, h2.updL hD⟩
theorem Same.updL {H0 H : Hp} {D : Addr} {o : HO} (e : Same H0 H) (h : H0 D = none) : Same H0 (upd H D o) := fun b u z => by
  rw [upd_ne (ne_of_none z h)]; exact e b u z
theorem CO.frs {K : PySem.W.Frag} {n : Nat} {src : Nat → Hp → V → Prop} {st : Hp → Prop} {js : List (Option Nat)} {tl : TE} {σ : St} {H1 : Hp} {Q : VK} (F : Nat → Rat) (hn : n ≤ 1000) (hst : ∀ H, Same H1 H → st H)
    (hel : ∀ i H x (R : VK), i < n → Same H1 H → src i H x → (∀ r H3, Same H H3 → Fq K H3 r (F i) → R (.ref r) H3) → tl (some x :: cσ js σ) H R)
    (hq : ∀ D H xs, Same H1 H → H1 D = none → H D = some (.lst xs) → Frs K H ((List.range n).map F) xs → Q (.ref D) H) : CO n src st (none :: js) (gName 0) tl σ H1 Q := by
  intro D hD
  refine ⟨fun i ys σc H => (∃ r, σc = r :: cσ js σ) ∧ Same H1 H ∧ H D = some (.lst ys) ∧ Frs K H ((List.range i).map F) ys, ⟨⟨none, rfl⟩, same_upd hD, upd_same, Frs.nil⟩, fun i ys σc H _ h => hst H h.2.1, ?_, ?_⟩
  · rintro i ys σc H x hi ⟨⟨r, rfl⟩, sm, hd, hf⟩ hx
    refine hel i H x _ hi sm hx fun p H3 s3 hy => ?_
    have hl := hf.len
    refine ⟨s3 _ _ hd, small1000 (by simp at hl; omega), ⟨_, rfl⟩, (sm.trans s3).updL hD, upd_same, ?_⟩
    rw [List.range_succ, List.map_append]
    exact Frs.snoc (Frs.updL (s3 _ _ hd) (hf.same s3)) (SqT.updL (s3 _ _ hd) hy)
  · rintro ys σc H ⟨_, sm, hd, hf⟩
    exact ⟨hd, hq D H ys sm hD hd hf⟩
theorem Sz.zero {n : Nat} (h : 1 ≤ n) : Sz n (0 : Rat) := Sz.mono (m := 1) ⟨by show (_ : Nat) < _; decide, by show (_ : Nat) < _; decide⟩ h
theorem Pl.nil {K : PySem.W.Frag} {H : Hp} {p : Addr} (h : H p = some (.tup [])) : Pl K H p [] := ⟨[], SqT.of h, Frs.nil⟩
theorem rep_lst {K : PySem.W.Frag} {H : Hp} {p : Addr} {f : List Rat} {xs : List V} (h : H p = some (.lst xs)) (k : Frs K H f xs) : Rep K H (lstD f) (.ref p) := by
  simp only [lstD, Rep]
  exact ⟨p, xs, rfl, SqL.of h, k⟩
def frIn (K : PySem.W.Frag) (a : Addr) (t b : Int) : Bool := match K.lookup a with
  | some o => (match o.cls, o.data with
    | .type "tuple", .seq its _ => (match its.toList with | [.int x _, .int y _] => x == t && y == b | _ => false)
    | _, _ => false)
  | none => false
theorem frIn_sq {K : PySem.W.Frag} {a : Addr} {t b : Int} (h : frIn K a t b = true) (H : Hp) : SqT K H a [.int t, .int b] := by
  unfold frIn at h
  split at h
  · rename_i o e
    split at h
    · rename_i its n hc hd
      split at h
      · rename_i x tx y ty hl
        obtain ⟨h1, h2⟩ := Bool.and_eq_true_iff.mp h
        have h1 : x = t := by simpa using h1
        have h2 : y = b := by simpa using h2
        subst h1 h2
        refine .inr ⟨o, its, n, e, hc, hd, ?_, ?_⟩
        · have : its.size = 2 := by rw [← Array.length_toList, hl]; rfl
          rw [this]; exact sz_le 2 (by decide)
        · rw [hl]; exact .cons ⟨_, rfl⟩ (.cons ⟨_, rfl⟩ .nil)
      · cases h
    · cases h
  · cases h
end L2
namespace Mt
structure Ln (d n : Nat) (f : List Rat) : Prop where
  ex : ∃ D N : Nat, 0 < D ∧ D ≤ 2 ^ d ∧ N ≤ 2 ^ n ∧ ∀ k, Lat D N (cf f k)
theorem Ln.bits {d n : Nat} {f : List Rat} (h : Ln d n f) (k : Nat) : (cf f k).num.natAbs < 2 ^ (n + 1) ∧ ((cf f k).den : Int).natAbs < 2 ^ (d + 1) := by
  obtain ⟨D, N, h1, h2, h3, h4⟩ := h.ex
  have a := ((h4 k).dvd (by omega)).2
  have b := (h4 k).le (by omega)
  rw [Nat.pow_succ, Nat.pow_succ]
  constructor
  · have : 0 < 2 ^ n := Nat.two_pow_pos n
    omega
  · have : 0 < 2 ^ d := Nat.two_pow_pos d
    omega
theorem Ln.mono {d n d' n' : Nat} {f : List Rat} (h : Ln d n f) (hd : d ≤ d') (hn : n ≤ n') : Ln d' n' f := by
  obtain ⟨D, N, h1, h2, h3, h4⟩ := h.ex
  exact ⟨D, N, h1, Nat.le_trans h2 (Nat.pow_le_pow_right (by decide) hd), Nat.le_trans h3 (Nat.pow_le_pow_right (by decide) hn), h4⟩
theorem Lat.mc {D E N M : Nat} {g : List Rat} (k4 : ∀ k, Lat E M (cf g k)) : ∀ (f : List Rat) (_ : ∀ k, Lat D N (cf f k)) (n : Nat), Lat (D * E) (f.length * (N * M)) (mc f g n)
  | [], _, n => by rw [mc_nil_left]; exact Lat.zero
  | a :: f, h, 0 => by
    have := (h 0).mul (k4 0)
    rw [cf_zero] at this
    rw [Mt.mc]
    exact this.mono (Nat.le_mul_of_pos_left _ (by simp))
  | a :: f, h, n + 1 => by
    have z := (h 0).mul (k4 (n + 1))
    rw [cf_zero] at z
    rw [Mt.mc]
    have := z.add (Lat.mc k4 f (fun k => by have := h (k + 1); rw [cf_succ] at this; exact this) n)
    refine this.mono ?_
    rw [List.length_cons, Nat.succ_mul, Nat.add_comm]
    exact Nat.le_refl _
theorem Ln.pmul {d n e m l : Nat} {f g : List Rat} (h : Ln d n f) (k : Ln e m g) (hl : f.length ≤ 2 ^ l) : Ln (d + e) (l + (n + m)) (pmul f g) := by
  obtain ⟨D, N, h1, h2, h3, h4⟩ := h.ex
  obtain ⟨E, M, k1, k2, k3, k4⟩ := k.ex
  refine ⟨D * E, f.length * (N * M), Nat.mul_pos h1 k1, by rw [Nat.pow_add]; exact Nat.mul_le_mul h2 k2, ?_, fun i => by rw [cf_pmul]; exact Lat.mc k4 f h4 i⟩
  rw [Nat.pow_add, Nat.pow_add]
  exact Nat.mul_le_mul hl (Nat.mul_le_mul h3 k3)
theorem Ln.rowIn {d n e m l : Nat} {f g : List Rat} (h : Ln d n f) (k : Ln e m g) (hl : f.length ≤ 2 ^ l) {i j : Nat} (hi : i < f.length) (hj : j ≤ g.length) :
    Ln (d + e) (l + (n + m) + 1) (rowIn (prodIn f g i) i (cf f i) g j) := by
  obtain ⟨D, N, h1, h2, h3, h4⟩ := h.ex
  obtain ⟨E, M, k1, k2, k3, k4⟩ := k.ex
  refine ⟨D * E, f.length * (N * M) + N * M, Nat.mul_pos h1 k1, by rw [Nat.pow_add]; exact Nat.mul_le_mul h2 k2, ?_, fun p => ?_⟩
  · have a : f.length * (N * M) ≤ 2 ^ (l + (n + m)) := by rw [Nat.pow_add, Nat.pow_add]; exact Nat.mul_le_mul hl (Nat.mul_le_mul h3 k3)
    have b : N * M ≤ f.length * (N * M) := Nat.le_mul_of_pos_left _ (by omega)
    rw [Nat.pow_succ]
    omega
  · rw [cf_rowIn _ _ _ _ (by rw [prodIn_len]; omega), cf_prodIn f g p i (by omega)]
    have a : Lat (D * E) ((f.take i).length * (N * M)) (mc (f.take i) g p) := Lat.mc k4 (f.take i) (fun q => by
      rw [cf_take]
      split
      · exact h4 q
      · exact Lat.zero) p
    have a' := a.mono (N := f.length * (N * M)) (Nat.mul_le_mul (by rw [List.length_take]; omega) (Nat.le_refl _))
    refine a'.add ?_
    split
    · exact (h4 i).mul (k4 _)
    · exact Lat.zero
theorem Ln.pmulB {b c : Nat} {f g : List Rat} (h : Ln b b f) (k : Ln c c g) (hl : f.length ≤ 64) : Ln (b + c + 6) (b + c + 6) (Mt.pmul f g) := (h.pmul k (l := 6) hl).mono (by omega) (by omega)
theorem Ln.rowB {b c : Nat} {f g : List Rat} (h : Ln b b f) (k : Ln c c g) (hl : f.length ≤ 64) {i j : Nat} (hi : i < f.length) (hj : j ≤ g.length) : Ln (b + c + 7) (b + c + 7) (Mt.rowIn (prodIn f g i) i (cf f i) g j) := (h.rowIn k (l := 6) hl hi hj).mono (by omega) (by omega)
end Mt
namespace L2
open PySem PySem.Spec PyProof.Rows
section
variable {prog : Program} {w : World} {A : Around} {E : Value → Shared → Prop} {s : Shared}
theorem nx_tup {it l : Addr} {i : Nat} {xs : Array Value} {x : Value} {Q : Value → Shared → Prop} (p : s.heap.IsTupleIter it l i) (q : s.heap.IsTuple l xs) (e : xs[i]? = some x)
    (k : ∀ h', h'.IsTupleIter it l (i + 1) → Heap.SameBut it s.heap h' → Q x { s with heap := h' }) : wpAny (model prog w) A (Builtin.SmallTypes.nextOf (.ref it)) Q E s := by
  obtain ⟨oi, p1, p2, p3⟩ := id p
  obtain ⟨ol, q1, _, n, q2⟩ := q
  unfold Builtin.SmallTypes.nextOf
  refine wpAny_bind (wpAny_callSpecial?_slot (name := Str.ofString "__next__") p.typeIs PySem.F.slot_tuple_iterator_next (wpAny_call_entry PySem.F.slot_tuple_iterator_next p.typeIs PySem.F.entry_tuple_iterator_next ?_ (PySem.F.args_tuple_iterator_next_1 _)))
  refine wpAny_bind (m := field (.ref it) 0) (wpAny_field p1 p3 (x := .ref l) rfl ?_)
  show wpAny _ _ (if (Value.ref l == Value.none) = true then _ else _) _ _ s
  rw [if_neg (show ¬((Value.ref l == Value.none) = true) from Bool.false_ne_true)]
  refine wpAny_bind (m := field (.ref it) 1) (wpAny_field p1 p3 (x := .int i 0) rfl ?_)
  refine wpAny_bind (m := seqItems? (.ref l)) (wpAny_seqItems q1 q2 ?_)
  simp only [Int.toNat_natCast, e]
  refine wpAny_bind (wpAny_setField p1 p3 (by simp) (wpAny_pure ⟨x, rfl, wpAny_pure (k _ ⟨_, Heap.get?_update_self _ p1 (Obj.isFreed_of_fields (Obj.data_mapFields p3 _)), (Obj.cls_mapFields ..).trans p2, ?_⟩ (Heap.SameBut.update ..))⟩))
  rw [Obj.data_mapFields p3]; simp [rawInt]
theorem nx_tup_end {it l : Addr} {i : Nat} {xs : Array Value} {Q : Value → Shared → Prop} (hh : A.handled = none) (p : s.heap.IsTupleIter it l i) (q : s.heap.IsTuple l xs) (e : xs[i]? = none)
    (k : ∀ h' x, Heap.ExtBut it s.heap h' → (∃ o, h'.get? x = some o ∧ o.cls = .type "StopIteration") → E (.ref x) { s with heap := h' }) : wpAny (model prog w) A (Builtin.SmallTypes.nextOf (.ref it)) Q E s := by
  obtain ⟨oi, p1, p2, p3⟩ := id p
  obtain ⟨ol, q1, _, n, q2⟩ := q
  unfold Builtin.SmallTypes.nextOf
  refine wpAny_bind (wpAny_callSpecial?_slot (name := Str.ofString "__next__") p.typeIs PySem.F.slot_tuple_iterator_next (wpAny_call_entry PySem.F.slot_tuple_iterator_next p.typeIs PySem.F.entry_tuple_iterator_next ?_ (PySem.F.args_tuple_iterator_next_1 _)))
  refine wpAny_bind (m := field (.ref it) 0) (wpAny_field p1 p3 (x := .ref l) rfl ?_)
  show wpAny _ _ (if (Value.ref l == Value.none) = true then _ else _) _ _ s
  rw [if_neg (show ¬((Value.ref l == Value.none) = true) from Bool.false_ne_true)]
  refine wpAny_bind (m := field (.ref it) 1) (wpAny_field p1 p3 (x := .int i 0) rfl ?_)
  refine wpAny_bind (m := seqItems? (.ref l)) (wpAny_seqItems q1 q2 ?_)
  simp only [Int.toNat_natCast, e]
  refine wpAny_bind (wpAny_rule (wpAny_bind (wpAny_setField p1 p3 (by simp) ?_)))
  refine wpAny_bind (m := newExc (.type "StopIteration") []) ?_
  simp only [newExc, newTuple]
  refine wpAny_bind (wpAny_newObj_type ?_ (by size_fits))
  refine wpAny_bind (m := firstArgMember _ _) (wpAny_of_eq (a := Value.none) (by first | rfl | (simp only [firstArgMember]; rfl)) ?_)
  refine wpAny_newObj_type ?_ (by size_fits)
  simp only [raiseNew]
  refine wpAny_bind (wpAny_handled ?_)
  first | rw [show A.in1.handled = none from hh] | rw [hh]
  exact wpAny_bind (wpAny_pure (wpAny_throw (k _ _ (((Heap.SameBut.update ..).extBut.push _).push _) ⟨_, Heap.get?_push_size _ rfl, rfl⟩)))
theorem en_item {e it l : Addr} {i : Nat} {xs : Array Value} {x old : Value} {Q : Option Value → Shared → Prop} (ye : IsEnum s.heap e it i old) (yi : s.heap.IsTupleIter it l i) (yl : s.heap.IsTuple l xs) (yx : xs[i]? = some x) (ne : e ≠ it)
    (k : ∀ h', IsEnumOut h' e it ((i : Int) + 1) x s.heap.objs.size → h'.IsTupleIter it l (i + 1) → h'.get? s.heap.objs.size = some { cls := .type "tuple", data := .seq #[.int i s.toks, x] } →
      (∀ b o, b ≠ e → b ≠ it → s.heap.get? b = some o → h'.get? b = some o) → Q (some (.ref s.heap.objs.size)) { s with heap := h', toks := s.toks + 1 }) : wpAny (model prog w) A (pyNext (.ref e)) Q E s := by
  have ty : s.TypeIs (.ref e) "enumerate" := ⟨_, ye, rfl⟩
  obtain ⟨g0, gs, dr, tk, os⟩ := s
  unfold pyNext
  refine wpAny_bind (wpAny_attempt (wpAny_callSpecial?_slot (name := Str.ofString "__next__") ty PySem.F.slot_enumerate_next (wpAny_call_entry PySem.F.slot_enumerate_next ty PySem.F.entry_enumerate_next ?_ (PySem.F.args_enumerate_next_1 _))))
  refine wpAny_bind (m := field (.ref e) 2) (wpAny_field ye rfl (x := .ref it) rfl (wpAny_bind (nx_tup yi yl yx fun g1 yi1 b1 => ?_)))
  have b1 : Heap.SameBut it g0 g1 := b1
  have ye1 : IsEnum g1 e it i old := (b1.2 e ne).trans ye
  refine wpAny_bind (m := field (.ref e) 3) (wpAny_field ye1 rfl (x := rawInt i) rfl ?_)
  refine wpAny_bind (m := field (.ref e) 4) (wpAny_field ye1 rfl (x := .none) rfl ?_)
  refine wpAny_bind (m := mkInt (i : Int)) (wpAny_mkInt ?_)
  refine wpAny_bind (m := setField (.ref e) 3 (rawInt ((i : Int) + 1))) (wpAny_setField_rec ye1 (by simp) fun g2 ye2 b2 => ?_)
  have b2 : Heap.SameBut e g1 g2 := b2
  have ye2 : IsEnum g2 e it ((i : Int) + 1) old := ye2
  refine wpAny_bind (m := setField (.ref e) 4 .none) (wpAny_setField_rec ye2 (by simp) fun g3 ye3 b3 => ?_)
  have b3 : Heap.SameBut e g2 g3 := b3
  have ye3 : IsEnum g3 e it ((i : Int) + 1) old := ye3
  refine wpAny_bind (m := newTuple [.int i tk, x]) (wpAny_newTuple ?_)
  have sz : g3.objs.size = g0.objs.size := by rw [b3.1, b2.1, b1.1]
  have el : e < g0.objs.size := Heap.lt_size ye
  have yi3 : g3.IsTupleIter it l (i + 1) := (yi1.extBut b2.extBut (Ne.symm ne)).extBut b3.extBut (Ne.symm ne)
  have k3 : ∀ b o, b ≠ e → b ≠ it → g0.get? b = some o → g3.get? b = some o := fun b o z1 z2 z => b3.extBut b o z1 (b2.extBut b o z1 (b1.extBut b o z2 z))
  have ye4 : IsEnum (g3.push { cls := .type "tuple", data := .seq #[.int i tk, x] }) e it ((i : Int) + 1) old := Heap.get?_push_of_some _ ye3
  have t4 : (g3.push { cls := .type "tuple", data := .seq #[.int i tk, x] }).get? g0.objs.size = some { cls := .type "tuple", data := .seq #[.int i tk, x] } := by rw [← sz]; exact Heap.get?_push_size _ rfl
  have yi4 : (g3.push { cls := .type "tuple", data := .seq #[.int i tk, x] }).IsTupleIter it l (i + 1) := let ⟨o, z, r⟩ := yi3; ⟨o, Heap.get?_push_of_some _ z, r⟩
  have k4 : ∀ b o, b ≠ e → b ≠ it → g0.get? b = some o → (g3.push { cls := .type "tuple", data := .seq #[.int i tk, x] }).get? b = some o := fun b o z1 z2 z => Heap.get?_push_of_some _ (k3 b o z1 z2 z)
  rw [sz]
  generalize g3.push { cls := .type "tuple", data := .seq #[.int i tk, x] } = g4 at ye4 t4 yi4 k4 ⊢
  refine wpAny_bind (m := Builtin.SmallTypes.ownedTupleIsFree (.ref e)) ?_
  unfold Builtin.SmallTypes.ownedTupleIsFree
  refine wpAny_bind (wpAny_field ye4 rfl (x := .none) rfl (wpAny_pure ?_))
  simp only [if_true]
  refine wpAny_bind (wpAny_rule (wpAny_bind (wpAny_field ye4 rfl (x := old) rfl (wpAny_bind (wpAny_setField_rec ye4 (by simp) fun g5 ye5 b5 => ?_)))))
  have b5 : Heap.SameBut e g4 g5 := b5
  have ye5 : IsEnum g5 e it ((i : Int) + 1) x := ye5
  refine wpAny_bind (m := Builtin.SmallTypes.ownedTupleHandOut (.ref e) (.ref g0.objs.size)) ?_
  unfold Builtin.SmallTypes.ownedTupleHandOut
  refine wpAny_bind (wpAny_setField_rec ye5 (by simp) fun g6 ye6 b6 => ?_)
  have b6 : Heap.SameBut e g5 g6 := b6
  have ye6 : IsEnumOut g6 e it ((i : Int) + 1) x g0.objs.size := ye6
  refine wpAny_setField_rec ye6 (by simp) fun g7 ye7 b7 => ?_
  have b7 : Heap.SameBut e g6 g7 := b7
  have b57 : ∀ b o, b ≠ e → g4.get? b = some o → g7.get? b = some o := fun b o z1 z => b7.extBut b o z1 (b6.extBut b o z1 (b5.extBut b o z1 z))
  refine wpAny_bind (wpAny_letGo (wpAny_pure ⟨_, rfl, wpAny_pure (k g7 ye7 ?_ (b57 _ _ (Nat.ne_of_gt el) t4) fun b o z1 z2 z => b57 b o z1 (k4 b o z1 z2 z))⟩))
  obtain ⟨o, z, r⟩ := yi4
  exact ⟨o, b57 it o (Ne.symm ne) z, r⟩
theorem en_end {e it l : Addr} {i : Nat} {xs : Array Value} {old : Value} {Q : Option Value → Shared → Prop} (hh : A.handled = none) (ye : IsEnum s.heap e it i old) (yi : s.heap.IsTupleIter it l i) (yl : s.heap.IsTuple l xs) (yx : xs[i]? = none)
    (k : ∀ h', Heap.ExtBut it s.heap h' → Q none { s with heap := h' }) : wpAny (model prog w) A (pyNext (.ref e)) Q E s := by
  have ty : s.TypeIs (.ref e) "enumerate" := ⟨_, ye, rfl⟩
  unfold pyNext
  refine wpAny_bind (wpAny_attempt (wpAny_callSpecial?_slot (name := Str.ofString "__next__") ty PySem.F.slot_enumerate_next (wpAny_call_entry PySem.F.slot_enumerate_next ty PySem.F.entry_enumerate_next ?_ (PySem.F.args_enumerate_next_1 _))))
  refine wpAny_bind (m := field (.ref e) 2) (wpAny_field ye rfl (x := .ref it) rfl (wpAny_bind (nx_tup_end hh yi yl yx fun h' x z ⟨o, ho, hc⟩ => ?_)))
  exact wpAny_bind (wpAny_isInstance (T := "StopIteration") (b := true) ⟨o, ho, hc⟩ isSubtype_stop (wpAny_pure (k _ z)))
end
def itO (l : Addr) : Obj := { cls := .type "tuple_iterator", data := .fields #[.ref l, .int 0 0] }
def enO (it : Addr) : Obj := { cls := .type "enumerate", data := .fields #[.none, .bool false, .ref it, rawInt 0, .none, .none] }
theorem meets_enT (l : Addr) (its : Array Value) (n : Nat) (dd : Option Addr) (sl : Array (Option Value)) :
    Meets (Builtin.«enumerate.__new__» ⟨[.type "enumerate", .ref l], []⟩) (fun _ R s => s.heap.get? l = some { cls := .type "tuple", dict := dd, data := .seq its n, slots := sl } ∧
      R (.ok (.ret (.ref (s.heap.push (itO l)).objs.size))) { s with heap := (s.heap.push (itO l)).push (enO s.heap.objs.size) }) :=
  .of_wp fun prog w A R s h => by
    obtain ⟨g0, gs, dr, tk, os⟩ := s
    obtain ⟨yl, h⟩ := h
    have sub := sub_enumerate
    have yt : Heap.IsTuple (Shared.heap ⟨g0, gs, dr, tk, os⟩) l its := ⟨_, yl, rfl, n, rfl⟩
    wp_walk using AutoSeq1.wpAny_loadPart' yl
    refine wpAny_stack_any fun st => wpAny_pure ?_
    split
    · rename_i c _ _ _ _ _
      cases (c == Value.type "enumerate") <;> (wp_walk using AutoSeq1.wpAny_loadPart' yl, wpAny_pyIter_tuple yt; exact ⟨_, rfl, h⟩)
    · wp_walk using AutoSeq1.wpAny_loadPart' yl, wpAny_pyIter_tuple yt
      exact ⟨_, rfl, h⟩
section
variable {prog : Program} {w : World} {A : Around} {E : Value → Shared → Prop} {s : Shared}
theorem call_enT {l : Addr} {its : Array Value} {Q : Value → Shared → Prop} (yt : s.heap.IsTuple l its)
    (k : ∀ h', IsEnum h' (s.heap.objs.size + 1) s.heap.objs.size 0 .none → h'.IsTupleIter s.heap.objs.size l 0 → (∀ b o, s.heap.get? b = some o → h'.get? b = some o) → Q (.ref (s.heap.objs.size + 1)) { s with heap := h' }) :
    wpAny (model prog w) A (call (.type "enumerate") [.ref l]) Q E s := by
  obtain ⟨⟨c, dd, dt, sl⟩, yl, hc, n, hd⟩ := yt
  have hc : c = .type "tuple" := hc
  have hd : dt = .seq its n := hd
  subst hc hd
  refine callType_new PySem.F.called_enumerate (by decide) (PySem.F.typeCall_enumerate_1 _) (PySem.F.newCall_enumerate_1 _) (fun obj => PySem.F.args_object_init_2 obj _) PySem.F.entry_enumerate_new (meets_enT l its n dd sl) ⟨yl, ?_⟩
  have hz : (s.heap.push (itO l)).objs.size = s.heap.objs.size + 1 := Heap.size_push ..
  have ye : IsEnum ((s.heap.push (itO l)).push (enO s.heap.objs.size)) (s.heap.objs.size + 1) s.heap.objs.size 0 .none := by
    rw [← hz]
    exact Heap.get?_push_size _ rfl
  show _ ∧ _
  rw [hz]
  exact ⟨⟨_, ye, rfl⟩, k _ ye ⟨_, Heap.get?_push_of_some _ (Heap.get?_push_size _ rfl), rfl, rfl⟩ fun b o z => Heap.get?_push_of_some _ (Heap.get?_push_of_some _ z)⟩
end
theorem Inv.turnLaid {X : Cx} {pins : List (Addr × Obj)} {σ : St} {H : Hp} {s : Shared} {h' : Heap} {t' : Nat} {e it t : Addr} {o : HO} (I : Inv X pins σ H s) (k : ∀ b u, b ≠ e → b ≠ it → s.heap.get? b = some u → h'.get? b = some u) (fe : FpOk X pins H e) (fi : FpOk X pins H it)
    (hn : H t = none) (ht : s.heap.get? t = none) (new : ObjOk X.prog X.w (upd H t o) h' t o) : Inv X pins σ (upd H t o) { s with heap := h', toks := t' } := by
  have nt : ∀ b u, H b = some u → b ≠ t := fun b u z y => by rw [y, hn] at z; cases z
  have ne : ∀ b u, H b = some u → b ≠ e := fun b u z y => by rw [y, fe.1] at z; cases z
  have ni : ∀ b u, H b = some u → b ≠ it := fun b u z y => by rw [y, fi.1] at z; cases z
  have out : ∀ b, b ∉ [e, it] → b ≠ e ∧ b ≠ it := fun b z => ⟨fun y => z (by simp [y]), fun y => z (by simp [y])⟩
  refine I.step (g' := s.gens) (d' := s.drawn) (ch := [e, it]) (fun b hb => ?_) (fun b u _ _ hc z _ => k b u (out b hc).1 (out b hc).2 z) (fun b u _ _ hc z _ => ⟨u.slots, k b u (out b hc).1 (out b hc).2 z⟩) (fun b u hc z y => ?_)
    (fun b u hc z => ⟨u, k b u (out b hc).1 (out b hc).2 z⟩) (fun b xs z => ?_) (fun b u v z => ?_) (fun b ps z => ⟨#[], ?_⟩) (fun m hm => ?_) (fun b u z => ?_) I.bare
  · simp only [List.mem_cons, List.not_mem_nil, or_false] at hb
    rcases hb with rfl | rfl
    · exact ⟨fe.2.2.2.1, fe.2.1, fe.2.2.2.2.1, fe.2.2.2.2.2⟩
    · exact ⟨fi.2.2.2.1, fi.2.1, fi.2.2.2.2.1, fi.2.2.2.2.2⟩
  · rw [upd_ne (by rintro rfl; rw [ht] at z; cases z)]; exact y
  · rw [upd_ne (nt _ _ z)]; exact z
  · rw [upd_ne (nt _ _ z)]; exact z
  · rw [upd_ne (nt _ _ z), z]; simp
  · obtain ⟨u, es, ep, hu, r⟩ := hm
    exact ⟨u, es, ep, k _ u (Ne.symm fe.2.1) (Ne.symm fi.2.1) hu, r⟩
  · by_cases hb : b = t
    · subst hb
      rw [upd_same] at z
      cases z
      exact new
    · rw [upd_ne hb] at z
      refine (I.hok b u z).stay (fun c v hc q => ?_) (fun c q => by rw [upd_ne (nt _ _ q)]; exact q) fun c xs q => by rw [upd_ne (nt _ _ q)]; exact q
      rcases hc with y | y
      · subst y; exact k c v (ne _ _ z) (ni _ _ z) q
      · exact k c v (ne _ _ y) (ni _ _ y) q
def Ite (K : PySem.W.Frag) (a : Addr) : It :=
  ⟨fun i H => ∃ xs x, SqT K H a xs ∧ xs[i]? = some x, fun i H v H' => ∃ p, v = .ref p ∧ H p = none ∧ ∀ xs x, SqT K H a xs → xs[i]? = some x → H' = upd H p (.tup [.int i, x]), fun i H => ∃ xs, SqT K H a xs ∧ xs.length ≤ i⟩
theorem turn_enT {P : Program} {w : World} {K : PySem.W.Frag} {es : List Expr} {y1 : Nat} {tp : Pos} (a e it : Addr) (ne : e ≠ it) : Turn P w K (.Tuple es y1 tp) (Ite K a) [e, it] e (fun i h => (∃ old, IsEnum h e it i old) ∧ h.IsTupleIter it a i) where
  mem := by simp
  obj := fun i h st b hb => by
    simp only [List.mem_cons, List.not_mem_nil, or_false] at hb
    rcases hb with rfl | rfl
    · obtain ⟨⟨old, z⟩, _⟩ := st
      exact ⟨_, z, fun v q => by cases (show Data.fields _ = Data.cell v from q)⟩
    · obtain ⟨_, o, z, c, d⟩ := st
      exact ⟨o, z, fun v q => by rw [d] at q; cases q⟩
  keep := fun i h h' st k => by
    obtain ⟨⟨old, z⟩, o, y, r⟩ := st
    exact ⟨⟨old, k e (by simp) _ z⟩, o, k it (by simp) _ y, r⟩
  item := by
    intro X hP hw hK hc i pins s σ H E I hf st hg
    subst hP hw hK
    obtain ⟨xs, x, hq, hx⟩ := hg
    obtain ⟨its, rv, p, hz⟩ := I.tuple hq
    obtain ⟨u, hu, ru⟩ := rv.get hx
    obtain ⟨⟨old, ye⟩, yi⟩ := st
    refine en_item ye yi (show s.heap.IsTuple a its.toArray from p) (x := u) (by simpa using hu) ne fun h1 yo yi1 yt k1 => ⟨_, rfl, ?_⟩
    refine wpAny_letOwnedTupleGo_enum yo fun h2 ye2 b2 => ?_
    have b2 : Heap.SameBut e h1 h2 := b2
    have el : e < s.heap.objs.size := Heap.lt_size ye
    have tn : e ≠ s.heap.objs.size := Nat.ne_of_lt el
    have fr : H s.heap.objs.size = none := I.hok.fresh (Nat.le_refl _)
    have yt2 : h2.get? s.heap.objs.size = some { cls := .type "tuple", data := .seq #[.int i s.toks, u] } := b2.extBut _ _ (Ne.symm tn) yt
    have I2 : Inv X pins σ (upd H s.heap.objs.size (.tup [.int i, x])) { s with heap := h2, toks := s.toks + 1 } :=
      I.turnLaid (fun b o z1 z2 z => b2.extBut b o z1 (k1 b o z1 z2 z)) (hf e (by simp)) (hf it (by simp)) fr (Heap.get?_none_of_le (Nat.le_refl _))
        ⟨sz_le 2 (by decide), [.int i s.toks, u], .cons ⟨_, rfl⟩ (.cons ru .nil), ⟨_, yt2, rfl, _, rfl⟩⟩
    have hit : it ≠ s.heap.objs.size := by
      obtain ⟨o, z, _⟩ := yi
      exact Nat.ne_of_lt (Heap.lt_size z)
    refine ⟨.ref s.heap.objs.size, _, I2, rfl, ⟨_, rfl, fr, fun ys y hy hyi => ?_⟩, ⟨⟨_, ye2⟩, yi1.extBut b2.extBut (Ne.symm ne)⟩, fun b hb => ?_⟩
    · have exy := I.tuple_inj hy hq
      subst exy
      rw [hx] at hyi
      cases hyi
      rfl
    · have h0 := (hf b hb).1
      simp only [List.mem_cons, List.not_mem_nil, or_false] at hb
      rcases hb with rfl | rfl
      · rw [upd_ne tn]; exact h0
      · rw [upd_ne hit]; exact h0
  done := by
    intro X hP hw hK hc i pins s σ H E I hf st hg
    subst hP hw hK
    obtain ⟨xs, hq, hx⟩ := hg
    obtain ⟨its, rv, p, hz⟩ := I.tuple hq
    obtain ⟨⟨old, ye⟩, yi⟩ := st
    obtain ⟨f0, f1, f2, f3, f4, f5⟩ := hf it (by simp)
    have hl := rv.length
    exact en_end (I.ok.hd hc) ye yi (show s.heap.IsTuple a its.toArray from p) (by simp; omega) fun h' eb => ⟨rfl, I.turned (t' := s.toks) (fun b o hb z => eb b o hb z) f0 f1 f3 f4 f5⟩
  self := fun _ _ _ _ _ st h => by
    obtain ⟨⟨old, z⟩, _⟩ := st
    exact wpAny_pyIter_enum z h
section
variable {X : Cx} {es : List Expr} {y1 : Nat} {tp : Pos}
def iEn (K : PySem.W.Frag) (ta : TA) : TI := fun σ H R => ta σ H fun vs H1 => ∃ a, vs = [.ref a] ∧ (∃ xs, SqT K H1 a xs) ∧ R (Ite K a) H1
theorem pi_enT {a : Expr} {ta : TA} {p pos : Pos} (hg : Gl X "enumerate") (hm : X.mg "enumerate" = none) (ha : PA X [a] ta) (hs : starEach [a] X.env = [(false, eval a X.env)] := by rfl) : PI X (.Tuple es y1 tp) (.Call (.Name "enumerate" p) [a] [] pos) (iEn X.K ta) := by
  intro pins s σ H R I h
  refine Call_ (ld_blt I hg hm PyProof.Rows.boot_enumerate (PyProof.Rows.callWith_type1 (thn (ha pos pins s σ H _ I h) fun us s1 ⟨vs, H1, I1, r1, q1⟩ => ?_) hs rfl))
  obtain ⟨b, e, ⟨xs, hq⟩, q⟩ := q1
  subst e
  obtain ⟨u, rfl, rx⟩ := vals1 r1
  cases rx
  obtain ⟨its, rv, yt, hz⟩ := I1.tuple hq
  refine call_enT (show s1.heap.IsTuple b its.toArray from yt) fun h' ye yi kp => wpAny_pyIter_enum ye ?_
  refine ⟨s1.heap.objs.size + 1, [s1.heap.objs.size + 1, s1.heap.objs.size], _, _, H1, rfl, I1.kept (t' := s1.toks) kp, turn_enT b _ _ (Nat.succ_ne_self _), ⟨⟨_, ye⟩, yi⟩, fun c hc => ?_, q⟩
  simp only [List.mem_cons, List.not_mem_nil, or_false] at hc
  rcases hc with rfl | rfl
  · exact I1.fpOk (Nat.le_succ _) (I1.hok.fresh (Nat.le_succ _))
  · exact I1.fpOk (Nat.le_refl _) (I1.hok.fresh (Nat.le_refl _))
def FE (xs : List V) (at_ : Hp → Prop) (g : TG) (tb : TS) (D : Ends) (σ : St) (H : Hp) : Prop := ∃ Pv : Nat → St → Hp → Prop, Pv 0 σ H ∧ (∀ i σ H, i ≤ xs.length → Pv i σ H → at_ H) ∧
  (∀ i x σ H p, xs[i]? = some x → Pv i σ H → H p = none → g (.ref p) σ (upd H p (.tup [.int i, x])) fun σ2 H2 => tb { D with nx := Pv (i + 1), ct := Pv (i + 1), bk := D.nx } σ2 H2) ∧ ∀ σ H, Pv xs.length σ H → D.nx σ H
def tForE (K : PySem.W.Frag) (te : TE) (g : TG) (tb : TS) : TS := fun D σ H => te σ H fun v H1 => ∃ a xs, v = .ref a ∧ SqT K H1 a xs ∧ FE xs (fun H => SqT K H a xs) g tb D σ H1
theorem ps_forE {l : Expr} {body : List Stmt} {te : TE} {g : TG} {tb : TS} {p pos pos' : Pos} (hc : X.calm = true) (hp : PassesOwn (model X.prog X.w) X.A X.env X.xe) (hm : X.mg "enumerate" = none) (hl : PE X l te) (hgt : PG X (.Tuple es y1 tp) g) (hb : PSs X body tb)
    (hg : Gl X "enumerate" := by rfl) (hs : starEach [l] X.env = [(false, eval l X.env)] := by rfl) : PS X (.For (.Tuple es y1 tp) (.Call (.Name "enumerate" p) [l] [] pos') body [] pos) (tForE X.K te g tb) := by
  intro pins s σ H D I h
  refine ps_for hp hc (pi_enT hg hm (pa_cons hl.mo pa_nil (by rw [hs]; rfl)) hs) hgt hb (by intro _; rfl) pins s σ H D I ?_
  refine ⟨_, h, fun v H1 ⟨a, xs, e, q, Pv, p0, pl, pt, pd⟩ => ⟨a, by rw [e], ⟨xs, q⟩, ?_⟩⟩
  refine ⟨fun i m σ H => m = xs.length - i ∧ i ≤ xs.length ∧ Pv i σ H, ⟨xs.length, by simp, Nat.zero_le _, p0⟩, ?_⟩
  rintro i m σ H ⟨rfl, hi, z⟩
  have y := pl i σ H hi z
  by_cases hlt : i < xs.length
  · refine .inr ⟨⟨xs, xs[i], y, by simp [hlt]⟩, Pv (i + 1), fun σ' H' z' => ⟨xs.length - (i + 1), by omega, rfl, hlt, z'⟩, fun x H' yl => ?_⟩
    obtain ⟨t, rfl, ht, hu⟩ := yl
    have hx : xs[i]? = some xs[i] := by simp [hlt]
    rw [hu xs _ y hx]
    exact pt i _ σ H t hx z ht
  · have e : i = xs.length := by omega
    subst e
    exact .inl ⟨⟨xs, y, Nat.le_refl _⟩, pd σ H z⟩
end
theorem owner_rev : Manifest.owners.lookup (String.ofList ['d', 'e', 's', 'r', 'e', 'v', 'e', 'r'].reverse) = some Manifest.sig_reversed := by kernel_rfl
theorem slot_rev_next : Slot "reversed" "__next__" "reversed.__next__" :=
  .of (owner := "reversed") (n := "__next__") (by rw [typeLookup_type, builtinLookup_eq_fast]; kernel_rfl) (by decide +kernel) (by decide +kernel) (by decide +kernel) (by first | exact .inl (by decide +kernel) | exact .inr (by decide +kernel)) (by rw [isSubtype_type]; kernel_rfl)
theorem entry_rev_next : entryFor table "reversed.__next__" = some Builtin.«reversed.__next__» := entryFor_of_tree (by kernel_rfl)
theorem args_rev_next (a : Value) : argsOk "reversed.__next__" ⟨[a], []⟩ := by
  unfold argsOk
  rw [signature?_of (id := "reversed.__next__") (n := ['_', '_', 't', 'x', 'e', 'n', '_', '_']) (o := ['d', 'e', 's', 'r', 'e', 'v', 'e', 'r']) (by kernel_rfl) owner_rev]
  kernel_rfl
theorem slot_rev_iter : Slot "reversed" "__iter__" "reversed.__iter__" :=
  .of (owner := "reversed") (n := "__iter__") (by rw [typeLookup_type, builtinLookup_eq_fast]; kernel_rfl) (by decide +kernel) (by decide +kernel) (by decide +kernel) (by first | exact .inl (by decide +kernel) | exact .inr (by decide +kernel)) (by rw [isSubtype_type]; kernel_rfl)
theorem args_rev_iter (a : Value) : argsOk "reversed.__iter__" ⟨[a], []⟩ := by
  unfold argsOk
  rw [signature?_of (id := "reversed.__iter__") (n := ['_', '_', 'r', 'e', 't', 'i', '_', '_']) (o := ['d', 'e', 's', 'r', 'e', 'v', 'e', 'r']) (by kernel_rfl) owner_rev]
  kernel_rfl
theorem entry_rev_iter : entryFor table "reversed.__iter__" = some Builtin.«dict_keyiterator.__iter__» :=
  entryFor_alias (id' := "dict_keyiterator.__iter__") (by kernel_rfl) (by first | rfl | decide +kernel | (unfold String.splitOn; simp +decide [String.splitOnAux])) (by decide +kernel) (by kernel_rfl)
theorem no_rev : typeLookup (.type "tuple") "__reversed__" = pure none := by rw [typeLookup_type, builtinLookup_eq_fast]; kernel_rfl
theorem sub_tup_dict : isSubtype (.type "tuple") (.type "dict") = pure false := by rw [isSubtype_type]; kernel_rfl
def IsRevT (h : Heap) (r l : Addr) (i : Int) : Prop := ∃ o, h.get? r = some o ∧ o.cls = .type "reversed" ∧ o.data = .fields #[.ref l, rawInt i]
section
variable {prog : Program} {w : World} {A : Around} {E : Value → Shared → Prop} {s : Shared}
theorem IsRevT.ty {r l : Addr} {i : Int} (y : IsRevT s.heap r l i) : s.TypeIs (.ref r) "reversed" := let ⟨o, z, c, _⟩ := y; ⟨o, z, c⟩
theorem rev_item {r l : Addr} {i : Nat} {xs : Array Value} {x : Value} {Q : Option Value → Shared → Prop} (y : IsRevT s.heap r l (i : Int)) (yt : IsTup s.heap l xs) (hi : (i : Int) < 2 ^ 63) (hx : xs[i]? = some x)
    (k : ∀ h', IsRevT h' r l ((i : Int) - 1) → Heap.SameBut r s.heap h' → Q (some x) { s with heap := h', toks := s.toks + 1 }) : wpAny (model prog w) A (pyNext (.ref r)) Q E s := by
  obtain ⟨o, z, c, d⟩ := id y
  have il : i < xs.size := (Array.getElem?_eq_some_iff.mp hx).1
  unfold pyNext
  refine wpAny_bind (wpAny_attempt (wpAny_callSpecial?_slot (name := Str.ofString "__next__") y.ty slot_rev_next (wpAny_call_entry slot_rev_next y.ty entry_rev_next ?_ (args_rev_next _))))
  unfold Builtin.«reversed.__next__»
  refine wpAny_bind (wpAny_of_eq (a := (Value.ref r, [])) rfl ?_)
  refine wpAny_bind (m := field (.ref r) 0) (wpAny_field z d (x := .ref l) rfl ?_)
  refine wpAny_bind (m := field (.ref r) 1) (wpAny_field z d (x := rawInt (i : Int)) rfl ?_)
  show wpAny _ _ (if (i : Int) < 0 then _ else _) _ _ s
  rw [if_neg (by omega)]
  refine wpAny_bind (m := specialOf (.ref l) "__getitem__") (wpAny_specialOf yt.typeIs slot_tuple_getitem.lookup ?_)
  show wpAny _ _ (if (some (Value.builtin "tuple.__getitem__")).isNone = true then _ else _) _ _ s
  rw [if_neg (show ¬((some (Value.builtin "tuple.__getitem__")).isNone = true) from Bool.false_ne_true)]
  refine wpAny_bind (m := mkInt (i : Int)) (wpAny_mkInt ?_)
  refine wpAny_bind (wpAny_attempt (getItem_tuple (s := { s with toks := s.toks + 1 }) (j := i) yt (by omega) hi (seqIndex_of (by omega) (by omega)) hx ?_))
  refine wpAny_bind (m := field (.ref r) 1) (wpAny_field (s := { s with toks := s.toks + 1 }) z d (x := rawInt (i : Int)) rfl ?_)
  refine wpAny_bind (m := setField (.ref r) 1 (rawInt ((i : Int) - 1))) (wpAny_setField (s := { s with toks := s.toks + 1 }) z d (by simp) ?_)
  refine wpAny_pure ⟨x, rfl, wpAny_pure (k _ ⟨_, Heap.get?_update_self _ z (Obj.isFreed_of_fields (Obj.data_mapFields d _)), (Obj.cls_mapFields ..).trans c, ?_⟩ (Heap.SameBut.update ..))⟩
  rw [Obj.data_mapFields d]; simp
theorem rev_end {r l : Addr} {Q : Option Value → Shared → Prop} (hh : A.handled = none) (y : IsRevT s.heap r l (-1)) (k : ∀ h', Heap.ExtBut r s.heap h' → Q none { s with heap := h' }) : wpAny (model prog w) A (pyNext (.ref r)) Q E s := by
  obtain ⟨o, z, c, d⟩ := id y
  unfold pyNext
  refine wpAny_bind (wpAny_attempt (wpAny_callSpecial?_slot (name := Str.ofString "__next__") y.ty slot_rev_next (wpAny_call_entry slot_rev_next y.ty entry_rev_next ?_ (args_rev_next _))))
  unfold Builtin.«reversed.__next__»
  refine wpAny_bind (wpAny_of_eq (a := (Value.ref r, [])) rfl ?_)
  refine wpAny_bind (m := field (.ref r) 0) (wpAny_field z d (x := .ref l) rfl ?_)
  refine wpAny_bind (m := field (.ref r) 1) (wpAny_field z d (x := rawInt (-1)) rfl ?_)
  show wpAny _ _ (if (-1 : Int) < 0 then _ else _) _ _ s
  rw [if_pos (by decide)]
  refine wpAny_bind (wpAny_rule ?_)
  refine wpAny_bind ?_
  refine wpAny_bind (m := setField (.ref r) 1 (rawInt (-1))) (wpAny_setField z d (by simp) ?_)
  refine wpAny_setField (Heap.get?_update_self _ z (Obj.isFreed_of_fields (Obj.data_mapFields d _))) (Obj.data_mapFields d _) (by simp) ?_
  refine wpAny_bind (m := Builtin.SmallTypes.stopIteration) ?_
  refine wpAny_bind (m := newExc (.type "StopIteration") []) ?_
  simp only [newExc, newTuple]
  refine wpAny_bind (wpAny_newObj_type ?_ (by size_fits))
  refine wpAny_bind (m := firstArgMember _ _) (wpAny_of_eq (a := Value.none) (by first | rfl | (simp only [firstArgMember]; rfl)) ?_)
  refine wpAny_newObj_type ?_ (by size_fits)
  simp only [raiseNew]
  refine wpAny_bind (wpAny_handled ?_)
  first | rw [show A.in1.handled = none from hh] | rw [hh]
  refine wpAny_bind (wpAny_pure (wpAny_throw ?_))
  refine wpAny_bind (wpAny_isInstance (T := "StopIteration") (b := true) ⟨_, Heap.get?_push_size _ rfl, rfl⟩ isSubtype_stop (wpAny_pure (k _ ?_)))
  exact ((((Heap.SameBut.update ..).trans (Heap.SameBut.update ..)).extBut.push _).push _)
theorem iter_rev {r l : Addr} {i : Int} {Q : Value → Shared → Prop} (y : IsRevT s.heap r l i) (h : Q (.ref r) s) : wpAny (model prog w) A (pyIter (.ref r)) Q E s := by
  refine wpAny_pyIter_slot y.ty slot_rev_iter (wpAny_call_entry slot_rev_iter y.ty entry_rev_iter ?_ (args_rev_iter _))
  exact wpAny_pure ⟨_, rfl, "reversed", _, y.ty, slot_rev_next.lookup, h⟩
theorem meets_revT (l : Addr) (xs : Array Value) : Meets (Builtin.«reversed.__new__» ⟨[.type "reversed", .ref l], []⟩) (fun _ R s => IsTup s.heap l xs ∧ (xs.size : Int) < 2 ^ 63 ∧
      R (.ok (.ret (.ref s.heap.objs.size))) { s with heap := s.heap.push { cls := .type "reversed", data := .fields #[.ref l, rawInt ((xs.size : Int) - 1)] }, toks := s.toks + 1 + 1 }) :=
  .of_wp fun prog w A R s ⟨yt, hz, h⟩ => by
    unfold Builtin.«reversed.__new__»
    refine wpAny_bind (wpAny_of_eq (newClass_reversed _) ?_)
    refine wpAny_bind (wpAny_of_eq (a := ()) (by first | rfl | kernel_rfl) ?_)
    refine wpAny_bind (wpAny_of_eq (a := ()) (by first | rfl | kernel_rfl) ?_)
    refine wpAny_bind (m := specialOf (.ref l) "__reversed__") (wpAny_specialOf yt.typeIs no_rev ?_)
    refine wpAny_bind ?_
    refine wpAny_bind (m := isInstance (.ref l) (.type "dict")) (wpAny_isInstance yt.typeIs sub_tup_dict ?_)
    refine wpAny_bind (m := specialOf (.ref l) "__getitem__") (wpAny_specialOf yt.typeIs slot_tuple_getitem.lookup (wpAny_pure ?_))
    show wpAny _ _ (if (!true) = true then _ else _) _ _ s
    rw [if_neg (by decide)]
    refine wpAny_bind (m := call (.builtin "len") [.ref l]) (len_tuple yt hz ?_)
    refine wpAny_bind (wpAny_pure ?_)
    refine wpAny_bind (m := newObj (.type "reversed") (.fields #[.ref l, rawInt ((xs.size : Int) - 1)])) (wpAny_newObj_type (wpAny_pure ⟨_, rfl, h⟩) (by size_fits))
theorem slot_rev_init : Slot "reversed" "__init__" "object.__init__" :=
  .of (owner := "object") (n := "__init__") (by rw [typeLookup_type, builtinLookup_eq_fast]; kernel_rfl) (by decide +kernel) (by decide +kernel) (by decide +kernel) (by first | exact .inl (by decide +kernel) | exact .inr (by decide +kernel)) (by rw [isSubtype_type]; kernel_rfl)
theorem called_rev : TypeCalled "reversed" "reversed.__new__" "object.__init__" :=
  ⟨by decide +kernel, by decide +kernel, ⟨_, _, PySem.F.mro_reversed⟩, PySem.F.made_reversed, by decide +kernel, by rw [isSubtype_type]; kernel_rfl, slot_rev_init⟩
theorem call_revT {l : Addr} {xs : Array Value} {Q : Value → Shared → Prop} (yt : IsTup s.heap l xs) (hz : (xs.size : Int) < 2 ^ 63)
    (k : ∀ h', IsRevT h' s.heap.objs.size l ((xs.size : Int) - 1) → (∀ b o, s.heap.get? b = some o → h'.get? b = some o) → Q (.ref s.heap.objs.size) { s with heap := h', toks := s.toks + 1 + 1 }) :
    wpAny (model prog w) A (call (.type "reversed") [.ref l]) Q E s := by
  refine callType_new called_rev (by decide) (PySem.F.typeCall_reversed_1 _) (PySem.F.newCall_reversed_1 _) (fun obj => PySem.F.args_object_init_2 obj _) PySem.F.entry_reversed_new (meets_revT l xs) ⟨yt, hz, ?_⟩
  have y : IsRevT (s.heap.push { cls := .type "reversed", data := .fields #[.ref l, rawInt ((xs.size : Int) - 1)] }) s.heap.objs.size l ((xs.size : Int) - 1) := ⟨_, Heap.get?_push_size _ rfl, rfl, rfl⟩
  exact ⟨⟨_, Heap.get?_push_size _ rfl, rfl⟩, k _ y fun b o z => Heap.get?_push_of_some _ z⟩
end
section
variable {X : Cx} {tg : Expr}
end
theorem Ln.sz {b : Nat} {f : List Rat} (h : Mt.Ln b b f) (k : Nat) : Sz (b + 1) (Mt.cf f k) := ⟨(h.bits k).1, (h.bits k).2⟩
theorem ixN_nat {n k : Nat} (h : k < n) : ixN n (k : Int) = some k := by
  simp [ixN]
  omega
end L2
namespace L2
open PySem PySem.Spec PyProof.Rows PySem.W
def excInit (K : Frag) (C fI : Addr) : Bool :=
  match K.lookup C with
  | some ⟨.type "type", _, .cls cd, sl⟩ =>
    (match cd.mro, sl.toList with
      | .ref D :: up, [_, _, _, _, some (.builtin n), _] => D == C && (n == "ValueError.__new__" && (!cd.hasDel && (tailIn K vmro up && (isFn K (.ref fI) && findIn K (.ref C) "__init__" == some (some (.ref fI))))))
      | _, _ => false)
  | _ => false
theorem excInit_obj {K : Frag} {h : Heap} {C fI : Addr} (kin : K.In h) (yes : excInit K C fI = true) :
    ∃ bm N nm q bs hdct sn sub ab col dd k0 k1 k2 k3 k5, h.get? C = some (excClassObj nm q C N bs bm hdct sn sub ab col dd k0 k1 k2 k3 k5 "ValueError.__new__") ∧ isFn K (.ref fI) = true ∧ findIn K (.ref C) "__init__" = some (some (.ref fI)) ∧ OwnTail h vmro bm := by
  unfold excInit at yes
  split at yes
  case h_2 => cases yes
  case h_1 dict cdat slots found =>
    split at yes
    case h_2 => cases yes
    case h_1 C0 bm0 a0 a1 a2 a3 nid a5 em eslots =>
      simp only [Bool.and_eq_true, beq_iff_eq, Bool.not_eq_true'] at yes
      obtain ⟨y1, y2, y3, y4, y5, y6⟩ := yes
      subst y1 y2
      obtain ⟨f1, f2, f3, f4, f5, f6, f7, f8, f9, f10, f11⟩ := cdat
      dsimp only at em y3 y5 y6
      subst em y3
      obtain ⟨sl⟩ := slots
      dsimp only at eslots
      subst eslots
      exact ⟨bm0, f4, f1, f5, f2, f6, f7, f8, f9, f10, dict, a0, a1, a2, a3, a5, kin _ _ found, y5, y6, PySem.W.tail_of_in kin y4⟩
def excH (h : Heap) (C : Addr) (us : List Value) : Heap := (h.push { cls := .type "tuple", data := .seq us.toArray }).push { cls := .ref C, data := .fields #[.ref h.objs.size, .none, .none, .none, .bool false, .none] }
theorem excH_keep {h : Heap} {C : Addr} {us : List Value} {b : Addr} {o : Obj} (q : h.get? b = some o) : (excH h C us).get? b = some o := Heap.get?_push_of_some _ (Heap.get?_push_of_some _ q)
theorem excH_exc {h : Heap} {C : Addr} {us : List Value} : (excH h C us).get? (h.objs.size + 1) = some { cls := .ref C, data := .fields #[.ref h.objs.size, .none, .none, .none, .bool false, .none] } := by
  unfold excH
  exact Heap.get?_push_at (by rw [Heap.size_push]) rfl
section
variable {prog : Program} {w : World} {A : Around} {E : Value → Shared → Prop} {h : Heap} {g : Array GenState} {d : Drawn} {t : Nat} {os : OsState}
variable {nm q : Str} {C N fI : Addr} {bs bm : List Value} {hdct : Bool} {sn : List Str} {sub : List Value} {ab : Bool} {col : Option Bool} {dd : Option Addr} {k0 k1 k2 k3 k5 : Option Value} {K : Frag} {us : List Value}
theorem type_call_excI {Q : Fin → Shared → Prop} (gT : OwnTail h vmro bm) (gC : h.get? C = some (excClassObj nm q C N bs bm hdct sn sub ab col dd k0 k1 k2 k3 k5 "ValueError.__new__")) (kin : K.In h) (gf : isFn K (.ref fI) = true) (gi : findIn K (.ref C) "__init__" = some (some (.ref fI))) (gl : us.length ≤ sizeLine)
    (k : wpAny (model prog w) A (call (.ref fI) (.ref (h.objs.size + 1) :: us)) (fun r s' => r = .none ∧ Q (.done (.ret (.ref (h.objs.size + 1)))) s') E ⟨excH h C us, g, d, t, os⟩) :
    wpAny (model prog w) A (Builtin.«type.__call__» ⟨.ref C :: us, []⟩) Q E ⟨h, g, d, t, os⟩ := by
  repeat (first | with_reducible refine wpAny_loadPart_at gC ?_ | with_reducible refine wpAny_madeBy_exc gC ?_ | wp_step)
  refine codeAny_call_builtin_code (Code.quiet_builtin _ PySem.F.excBase_ValueError.quiet) (wpAny_check_new_subU PySem.F.excBase_ValueError (by decide +kernel) gT gC ?_)
  refine codeAny_exc_new_subU PySem.F.excBase_ValueError (by decide +kernel) PySem.F.excBase_ValueError gT gC ?_ gl
  show wpAny _ _ _ _ _ ⟨excH h C us, g, d, t, os⟩
  have c1 : (excH h C us).get? C = some _ := excH_keep gC
  have x1 := excH_exc (h := h) (C := C) (us := us)
  have kin1 : K.In (excH h C us) := kin.keeps fun b o y => excH_keep y
  have look := looks_findIn (M := model prog w) kin1 gi
  have own : (Value.ref C :: bm).contains (.ref C) = true := by simp
  unfold isInstance
  repeat (first | with_reducible refine wpAny_loadPart_at x1 ?_ | (with_reducible refine wpAny_isSubtype_exc c1 ?_; rw [own]) | wp_step)
  show wpAny _ _ (typeLookup (.ref C) _) _ _ _
  refine look.at ?_
  refine wpAny_holding (wpAny_bind ((bind_fn kin1 _ (beq_iff_eq.mp gf)).at ?_))
  refine wpAny_bind (wpAny_mono k (fun r s' z => ?_) fun _ _ z => z)
  obtain ⟨rfl, z⟩ := z
  wp_walk
  exact z
theorem call_excI {Q : Value → Shared → Prop} (gT : OwnTail h vmro bm) (gC : h.get? C = some (excClassObj nm q C N bs bm hdct sn sub ab col dd k0 k1 k2 k3 k5 "ValueError.__new__")) (kin : K.In h) (gf : isFn K (.ref fI) = true) (gi : findIn K (.ref C) "__init__" = some (some (.ref fI))) (gl : us.length ≤ sizeLine)
    (k : wpAny (model prog w) (A.under (.builtin "type.__call__" ⟨.ref C :: us, []⟩)) (call (.ref fI) (.ref (h.objs.size + 1) :: us)) (fun r s' => r = .none ∧ Q (.ref (h.objs.size + 1)) s') E ⟨excH h C us, g, d, t, os⟩) :
    wpAny (model prog w) A (call (.ref C) us) Q E ⟨h, g, d, t, os⟩ := by
  have f1 := tc_lookup
  have f2 := tc_bind (.ref C)
  have ty : (⟨h, g, d, t, os⟩ : Shared).TypeIs (.ref C) "type" := ⟨_, gC, rfl⟩
  refine wpAny_call (codeAny_of_tree ?_)
  show wpAny _ _ (callAny (.ref C) _) _ _ _
  repeat (any_goals (first | assumption | with_reducible refine wpAny_loadPart_at gC ?_ | wp_step))
  refine ⟨rfl, codeAny_call_builtin_at (Code.quiet_builtin _ (by decide +kernel)) entry_typeCall (wpAny_check_type_call_sub gC (type_call_excI gT gC kin gf gi gl ?_))⟩
  exact k
end
end L2
namespace L2
open PySem PySem.Spec PyProof.Rows PySem.W
def rawX (e : Addr) (cls : Value) (dv : Option Addr) : HO := .ext fun h => ∃ t : Addr, h.get? e = some { cls := cls, dict := dv, data := .fields #[.ref t, .none, .none, .none, .bool false, .none] }
theorem rawX_ok {P : Program} {w : World} {H : Hp} {h : Heap} {e t : Addr} {cls : Value} {dv : Option Addr} (q : h.get? e = some { cls := cls, dict := dv, data := .fields #[.ref t, .none, .none, .none, .bool false, .none] }) : ObjOk P w H h e (rawX e cls dv) :=
  ⟨⟨t, q⟩, ⟨_, q⟩, fun _ _ ⟨t, q⟩ k => ⟨t, k _ q⟩⟩
theorem Inv.raw {X : Cx} {pins : List (Addr × Obj)} {σ : St} {H : Hp} {s : Shared} {e : Addr} {cls : Value} {dv : Option Addr} (I : Inv X pins σ H s) (q : H e = some (rawX e cls dv)) :
    ∃ t : Addr, s.heap.get? e = some { cls := cls, dict := dv, data := .fields #[.ref t, .none, .none, .none, .bool false, .none] } := by
  obtain ⟨z, _, _⟩ := (show ObjOk X.prog X.w H s.heap e (rawX e cls dv) from I.hok e _ q)
  exact z
def era (H : Hp) (e : Addr) : Hp := fun b => if b = e then none else H b
theorem era_ne {H : Hp} {e b : Addr} (n : b ≠ e) : era H e b = H b := if_neg n
def RaisesD (X : Cx) (E : XK) : Prop := ∀ (pins : List (Addr × Obj)) (σ : St) (H1 : Hp) (s1 : Shared) (e : Addr) (cls : Value) (dv : Option Addr), Inv X pins σ H1 s1 → H1 e = some (rawX e cls dv) → X.s₀.heap.get? e = none → E cls dv (era H1 e) → X.xe (.ref e) s1
theorem raisesD_cx {P : Program} {w : World} {K : PySem.W.Frag} {mg : Str → Option Value} {base : Heap} {N : List Str} {qual : Str} {scope : Scope} {f : Addr} {cd : Value} {A : Around} {outer : List Env} {s : Shared} {H : Hp} {E : XK} :
    RaisesD (cxOf (CXe P w) P w K mg base N qual scope f cd A outer s H E) E := fun pins σ H1 s1 e cls dv I q n z => by
  obtain ⟨t, g⟩ := I.raw q
  exact xe_raiseD I q g rfl rfl rfl rfl n z
section
variable {M : Model} {A : Around} {E : Value → Shared → Prop} {env : Env}
variable {nm q : Str} {C N : Addr} {bs bm : List Value} {hdct : Bool} {sn : List Str} {sub : List Value} {ab : Bool} {col : Option Bool} {dd : Option Addr} {k0 k1 k2 k3 k5 : Option Value} {nid : String}
theorem raise_made {s : Shared} {x : Sem Value} {Q : Flow → Shared → Prop} (up : bm.contains (.type "BaseException") = true) (hh : A.handled = none)
    (k : wpAny M A x (fun v s1 => ∃ (e t : Addr) (dv : Option Addr), v = .ref e ∧ s1.heap.get? C = some (excClassObj nm q C N bs bm hdct sn sub ab col dd k0 k1 k2 k3 k5 nid) ∧
      s1.heap.get? e = some { cls := .ref C, dict := dv, data := .fields #[.ref t, .none, .none, .none, .bool false, .none] } ∧ E (.ref e) s1) E s) : wpAny M A (raiseStmt env (some x) none) Q E s := by
  have has : (Value.ref C :: bm).contains (.type "BaseException") = true := by rw [List.contains_cons, up, Bool.or_true]
  unfold raiseStmt
  refine wpAny_bind (wpAny_mono k (fun v s1 z => ?_) fun _ _ z => z)
  obtain ⟨e, t, dv, rfl, gC, ge, z⟩ := z
  obtain ⟨hp, g, d, tk, os⟩ := s1
  repeat (first | with_reducible refine wpAny_loadPart_at ge ?_ | with_reducible refine wpAny_loadPart_at gC ?_ | (with_reducible refine wpAny_isSubtype_exc gC ?_; rw [has]) | wp_step)
  exact wpAny_raiseNew_none hh z
end
def tRaiseI (C : Addr) (sp : Sp) (E : XK) (t : TA) : TS := fun _ σ H => t σ H fun vs H1 => vs.length ≤ sizeLine ∧ ∀ e, H1 e = none →
  sp (.ref e :: vs) (upd H1 e (rawX e (.ref C) none)) (fun r H2 => r = .non ∧ ∃ dv, H2 e = some (rawX e (.ref C) dv) ∧ E (.ref C) dv (era H2 e)) E0
theorem Inv.rawMade {X : Cx} {pins : List (Addr × Obj)} {σ : St} {H : Hp} {s : Shared} {C : Addr} {us : List Value} (I : Inv X pins σ H s) :
    Inv X pins σ (upd H (s.heap.objs.size + 1) (rawX (s.heap.objs.size + 1) (.ref C) none)) { s with heap := excH s.heap C us } :=
  I.laid (a := s.heap.objs.size + 1) (t' := s.toks) (h' := excH s.heap C us) (fun b u q => excH_keep q) (Nat.le_succ _) (rawX_ok excH_exc)
theorem ps_raiseI {X : Cx} {CX : CXT} {E : XK} {x : Str} {C fI : Addr} {fd : FuncData} {ps : List Str} {sp : Sp} {k : Nat} {e : Expr} {es : List Expr} {t : TA} {np cpos pos : Pos} (hr : RaisesD X E) (hc : X.calm = true) (hg : Gl X x) (hm : X.mg x = some (.ref C)) (hk : keepIn X.K (.ref C) = true)
    (hC : excInit X.K C fI = true) (F : FnOk X.prog X.w X.K X.mg X.base CX k fI fd ps sp) (rm : Room (k + 1) X.A) (hb : Binds X.K fd ps []) (hx : Passes CX X E0) (ha : PA X (e :: es) t)
    (hdb : (x == ("__debug__" : Str)) = false := by decide) (he : starEach (e :: es) X.env = (false, eval e X.env) :: starEach es X.env := by rfl) (hpl : (backTo cpos (starEach es X.env)).any (·.1) = false := by rfl) :
    PS X (.Raise (some (.Call (.Name x np) (e :: es) [] cpos)) none pos) (tRaiseI C sp E t) := by
  intro pins s σ H D I h
  obtain ⟨bm, N, nm, q, bs, hdct, sn, sub, ab, col, dd, k0, k1, k2, k3, k5, gC, gf, gi, gT⟩ := excInit_obj I.mod.kin hC
  rw [arm_exec_Raise]
  refine wpAny_bind (wpAny_standAt ?_)
  refine raise_made (C := C) (nm := nm) (q := q) (N := N) (bs := bs) (bm := bm) (hdct := hdct) (sn := sn) (sub := sub) (ab := ab) (col := col) (dd := dd) (k0 := k0) (k1 := k1) (k2 := k2) (k3 := k3) (k5 := k5) (nid := "ValueError.__new__") (gT.hasType PySem.F.excBase_ValueError.hasBase) (I.ok.hd hc) ?_
  refine wpAny_bind (wpAny_mono ?_ (fun v s3 z => wpAny_bind (wpAny_standAt (wpAny_pure z))) fun _ _ z => z)
  refine wpAny_Call_Name_kw (ld_glob I hg hm ?_ hdb)
  refine PySem.W.callWith_K (h₀ := X.base) I.ok.mod.kin hk (thn (ha cpos pins s σ H _ I h) fun us s1 ⟨vs, H1, I1, r, hl, hq⟩ => ⟨I1.kIn, ?_⟩) he hpl
  have hq := hq (s1.heap.objs.size + 1) (I1.hok.fresh (Nat.le_succ _))
  have I2 := Inv.rawMade (C := C) (us := us) I1
  have r2 : Vals (V.ref (s1.heap.objs.size + 1) :: vs) (Value.ref (s1.heap.objs.size + 1) :: us ++ []) := by rw [List.append_nil]; exact .cons rfl r
  have hl2 : (Value.ref (s1.heap.objs.size + 1) :: us ++ []).length = ps.length := by
    have z := r2.length
    rw [F.len _ _ _ _ hq] at z
    exact z.symm
  have en : X.s₀.heap.get? (s1.heap.objs.size + 1) = none := Heap.get?_none_of_le (Nat.le_trans I1.sz (Nat.le_succ _))
  obtain ⟨hp, g, d, tk, os⟩ := s1
  show wpAny _ _ (call (.ref C) us) _ _ _
  refine call_excI (gT.keeps I1.bk) (I1.bk _ _ gC) I1.kIn gf gi (by rw [← r.length]; exact hl) ?_
  refine wpAny_call (codeAny_mono (F.run _ X.stack _ _ ⟨Value.ref (hp.objs.size + 1) :: us, []⟩ (Value.ref (hp.objs.size + 1) :: us ++ []) _ _ E0 (rm.make C us []) (I2.env0.make C us []) (hb _ (Value.ref (hp.objs.size + 1) :: us) I2.kIn hl2) r2 hq) fun r s' hq' => ?_)
  cases r with
  | error ev => exact hx pins σ _ _ ev s' I2 hq'
  | ok fl =>
    cases fl with
    | ret u =>
      obtain ⟨v, H', I3, rv, ev, dv, q3, q4⟩ := I2.after hq'
      subst ev
      obtain ⟨t', g3⟩ := I3.raw q3
      exact ⟨rv, _, t', dv, rfl, I3.bk _ _ gC, g3, hr pins σ H' s' _ _ dv I3 q3 en q4⟩
    | next => exact False.elim hq'
    | brk => exact False.elim hq'
    | cont => exact False.elim hq'
end L2
namespace L2
open PySem PySem.Spec PyProof.Rows PySem.W
def initOf (K : Frag) (D : Addr) : Bool := specialIn K (.ref D) "__getattribute__" == some (some (.builtin "type.__getattribute__")) && readsIn K D (.type "type") && (match findCls K (.ref D) (.type "type") "__init__" with
  | some (.val v) => v == .builtin "ValueError.__init__"
  | _ => false)
section
variable {X : Cx} {pins : List (Addr × Obj)} {σ : St} {H : Hp} {s : Shared}
theorem upd_id {H : Hp} {a : Addr} {o : HO} (q : H a = some o) : upd H a o = H := by
  funext b
  by_cases z : b = a
  · subst z; rw [upd_same, q]
  · rw [upd_ne z]
theorem Inv.args {e t : Addr} {cls : Value} {dv : Option Addr} {us : List Value} (I : Inv X pins σ H s) (q : H e = some (rawX e cls dv)) (g : s.heap.get? e = some { cls := cls, dict := dv, data := .fields #[.ref t, .none, .none, .none, .bool false, .none] }) :
    Inv X pins σ H { s with heap := (s.heap.push { cls := .type "tuple", data := .seq us.toArray }).update e (Obj.mapFields (·.setIfInBounds 0 (.ref s.heap.objs.size))) } := by
  have g1 := Heap.get?_push_of_some (h := s.heap) { cls := .type "tuple", data := .seq us.toArray } g
  have g2 := Heap.get?_update_self (Obj.mapFields (·.setIfInBounds 0 (.ref s.heap.objs.size))) g1 rfl
  have I2 := I.write (x := e) (e := e) (o := rawX e cls dv) (t' := s.toks) (h' := (s.heap.push { cls := .type "tuple", data := .seq us.toArray }).update e (Obj.mapFields (·.setIfInBounds 0 (.ref s.heap.objs.size)))) (by rw [q]; exact trivial) (.inl rfl)
    (fun b u n z => (Heap.get?_update_other _ _ (Ne.symm n)).trans (Heap.get?_push_of_some _ z)) ⟨_, g2⟩ (rawX_ok (t := s.heap.objs.size) (by rw [g2]; rfl))
  rw [upd_id q] at I2
  exact I2
def tExcInit (K : Frag) (t : TA) : TE := fun σ H Q => t σ H fun vs H1 => ∃ a C fI dv x, vs = [.ref a, x] ∧ H1 a = some (rawX a (.ref C) dv) ∧ excInit K C fI = true ∧ Q .non H1
theorem run_excInit {a C fI : Addr} {dv : Option Addr} {us : List Value} {Q : VK} (I : Inv X pins σ H s) (q : H a = some (rawX a (.ref C) dv)) (hC : excInit X.K C fI = true) (hl : us.length ≤ sizeLine) (k : Q .non H) :
    wpAny (model X.prog X.w) X.A (call (.builtin "ValueError.__init__") (.ref a :: us)) (EP X pins σ Q) X.xe s := by
  obtain ⟨bm, N, nm, qn, bs, hdct, sn, sub, ab, col, dd, k0, k1, k2, k3, k5, gC, _, _, gT⟩ := excInit_obj I.kIn hC
  obtain ⟨t, g⟩ := I.raw q
  have J := I.args (us := us) q g
  obtain ⟨h, gs, dr, tk, os⟩ := s
  refine wpAny_call (codeAny_call_builtin PySem.F.excBase_ValueError.init.plain PySem.F.excBase_ValueError.initEntry (wpAny_check_init_subU PySem.F.excBase_ValueError gT gC g rfl ?_))
  unfold Builtin.«BaseException.__init__»
  dsimp only
  rw [if_neg (by simp)]
  unfold newTuple Builtin.BaseException.bexcPut
  have g1 := Heap.get?_push_of_some (h := h) { cls := .type "tuple", data := .seq us.toArray } g
  refine wpAny_bind (wpAny_newObj_type ?_ (by show us.toArray.size ≤ sizeLine; rw [List.size_toArray]; exact hl))
  refine wpAny_bind (wpAny_bind (wpAny_field (x := .ref t) g1 rfl rfl (wpAny_bind (wpAny_setField g1 rfl (by show 0 < 6; decide) ?_))))
  exact wpAny_letGo (wpAny_pure ⟨.non, H, J, rfl, k⟩)
end
theorem pe_excInit {X : Cx} {x : Str} {D : Addr} {e1 e2 : Expr} {t : TA} {np apos pos : Pos} {pl : Sem Bool} (hg : Gl X x) (hm : X.mg x = some (.ref D)) (hD : initOf X.K D = true) (ha : PA X [e1, e2] t)
    (hdb : (x == ("__debug__" : Str)) = false := by decide) (he : starEach [e1, e2] X.env = (false, eval e1 X.env) :: starEach [e2] X.env := by rfl) (hpl : (backTo pos (starEach [e2] X.env)).any (·.1) = false := by rfl)
    (ht : eval (.Call (.Attribute (.Name x np) "__init__" apos) [e1, e2] [] pos) X.env = (do
      let ov ← eval (.Name x np) X.env
      standAt apos.atName
      let (f, first) ← holding [ov] (getMethod ov "__init__" pl)
      callWith pos f first (backTo pos (starEach [e1, e2] X.env)) (backToKw pos (keywordEach [] X.env))) := by rfl) :
    PE X (.Call (.Attribute (.Name x np) "__init__" apos) [e1, e2] [] pos) (tExcInit X.K t) := by
  intro pins s σ H Q I h
  unfold initOf at hD
  simp only [Bool.and_eq_true, beq_iff_eq] at hD
  obtain ⟨⟨d1, d2⟩, d3⟩ := hD
  split at d3
  case h_2 => cases d3
  case h_1 v d4 =>
    obtain rfl := beq_iff_eq.mp d3
    refine PySem.W.methodCall_KW (pl := pl) (ld_glob I hg hm ?_ hdb) ht
    refine method_cls I.kIn d1 (cls_value I.kIn d2 d4 rfl ?_)
    have I1 := I.tok (s.toks + 1)
    refine PyProof.Rows.callWith_builtin1 (thn (ha pos pins _ σ H _ I1 h) fun us s2 ⟨vs, H2, I2, r, a, C, fI, dv, y, ev, q1, q2, q3⟩ => ?_) he hpl
    subst ev
    obtain ⟨u1, u2, rfl, r1, r2⟩ := vals2 r
    cases (show u1 = Value.ref a from r1)
    exact run_excInit (us := [u2]) I2 q1 q2 (by show 1 ≤ sizeLine; decide) q3
end L2
namespace L2
open PySem PySem.Spec PyProof.Rows PySem.W Builtin Builtin.ObjectAttr
def tFs (x : Str) (t : TE) : TE := fun σ H Q => t σ H fun v H1 => ∃ n : Int, v = .int n ∧ n.natAbs.log2 < 1920 ∧ (x ++ (toString n : Str)).length ≤ sizeLine ∧ Q (.str (x ++ (toString n : Str))) H1
theorem pe_fs {X : Cx} {x : Str} {e : Expr} {t : TE} {j : Nat} {p1 p2 p3 : Pos} (hx : x.length ≤ sizeLine) (he : PE X e t) : PE X (.JoinedStr [.Constant (.str x) j p1, .FormattedValue e (-1) none p2] p3) (tFs x t) := by
  intro pins s σ H Q I h
  refine JoinedStr_many (joinParts_cons (Calls.Constant_str ⟨?_, ?_⟩))
  · show (Str.empty ++ x).length ≤ sizeLine
    rw [strLen_append]
    show 0 + _ ≤ _
    rw [Nat.zero_add]
    exact hx
  refine joinParts_cons (FormattedValue_plain (thn (he pins _ σ H _ (I.tok _) h) fun u s1 ⟨v, H1, I1, r, n, ev, hn, hl, q⟩ => ?_))
  subst ev
  obtain ⟨tk, rfl⟩ := (show ∃ t, u = Value.int n t from r)
  refine formatField_int_small hn ⟨?_, joinParts_nil ⟨.str _, H1, I1.tok _, ⟨_, rfl⟩, ?_⟩ ?_⟩
  · show ((Str.empty ++ x) ++ _).length ≤ _
    rw [Str.empty_append]; exact hl
  · show Q (.str ((Str.empty ++ x) ++ _)) H1
    rw [Str.empty_append]; exact q
  · show ((Str.empty ++ x) ++ _).length ≤ _
    rw [Str.empty_append]; exact hl
def refsV : List Value → Bool
  | .ref _ :: r => refsV r
  | l => l == vmro
theorem refuse_V (self : Value) : ∀ (l : List Value), refsV l = true → refuseLoop self "__setattr__" l = pure ()
  | [], e => by cases e
  | a :: r, e => by
    cases a with
    | ref c => rw [refuseLoop_ref]; exact refuse_V self r e
    | _ => rw [beq_iff_eq.mp (show (_ == vmro) = true from e)]; exact PySem.F.store_ValueError.passes self
structure XAtt (K : Frag) (C : Addr) (f : Str) : Prop where
  sa : findIn K (.ref C) "__setattr__" = some (some (.builtin "object.__setattr__"))
  no : findIn K (.ref C) f = some none
  ob : mroIn K C (.type "object") = some true
  cl : (clsIn K C).any (fun cd => cd.hasDict && refsV cd.mro) = true
section
variable {prog : Program} {w : World} {A : Around} {E : Value → Shared → Prop} {s : Shared} {K : Frag} {x C t : Addr} {f : Str} {v : Value}
theorem exc_store {Q : Unit → Shared → Prop} (kin : K.In s.heap) (g : s.heap.get? x = some { cls := .ref C, dict := none, data := .fields #[.ref t, .none, .none, .none, .bool false, .none] }) (c : XAtt K C f)
    (k : ∀ (h' : Heap) (tk : Nat), h'.get? x = some { cls := .ref C, dict := some s.heap.objs.size, data := .fields #[.ref t, .none, .none, .none, .bool false, .none] } → h'.Ns1 s.heap.objs.size (fun y => if y = f then some v else none) →
      (∀ b o, b ≠ x → s.heap.get? b = some o → h'.get? b = some o) → Q () { s with heap := h', toks := tk }) : wpAny (model prog w) A (setAttr (.ref x) f v) Q E s := by
  have ia : InstAt s.heap x _ C none := ⟨g, rfl, rfl, trivial⟩
  refine set_plain kin ia c.sa ?_
  have SF := PySem.F.store_object
  obtain ⟨cd, hc, hd⟩ := any_some c.cl
  simp only [Bool.and_eq_true] at hd
  obtain ⟨hd, hp⟩ := hd
  refine codeAny_call_builtin SF.slot.plain SF.entry (@check_slot (model prog w) _ _ { s with toks := s.toks + 1 } "object.__setattr__" "object" "__setattr__" (.ref x) [.str f s.toks, v] [] _ SF.kind SF.split (ia.type.andThen (looks_mroIn kin c.ob)) (SF.args _ _ _) ?_)
  rw [osa_eq, refuse_eq]
  have lm : Looks (model prog w) s.heap (mroOf (.ref C)) cd.mro := (looks_clsIn kin hc).andThen .now
  refine wpAny_bind (wpAny_bind (ia.type.here (s := { s with toks := s.toks + 1 }) (wpAny_bind (lm.here (s := { s with toks := s.toks + 1 }) ?_))))
  rw [refuse_V _ _ hp]
  refine wpAny_pure (wpAny_bind (ia.type.here (s := { s with toks := s.toks + 1 }) (wpAny_bind ((looks_findIn (M := model prog w) kin c.no).here (s := { s with toks := s.toks + 1 }) (wpAny_bind (m := storeTaker? none) (wpAny_pure ?_))))))
  show wpAny _ _ (storeInOwnDict (.ref x) (.ref C) (.str f s.toks) f v false) _ _ _
  unfold storeInOwnDict ownDictForStores instanceDict
  refine wpAny_bind (m := ownStreamTells (.ref x) (.ref C)) (wpAny_pure ?_)
  rw [if_neg (by simp)]
  refine wpAny_bind (wpAny_bind (wpAny_loadPart g ?_))
  dsimp only
  refine wpAny_bind ((looks_clsIn (M := model prog w) kin hc).here (s := { s with toks := s.toks + 1 }) ?_)
  rw [hd, if_neg (by decide), if_neg (by simp [typeHasDict])]
  have xs : x ≠ s.heap.objs.size := Nat.ne_of_lt (Heap.lt_size g)
  have g1 := Heap.get?_push_of_some (h := s.heap) { cls := .type "dict", data := .dict #[] } g
  refine wpAny_bind (wpAny_alloc' (wpAny_bind (wpAny_update' g1 (wpAny_pure ?_))))
  have d1 : ((s.heap.push { cls := .type "dict", data := .dict #[] }).update x fun o => { cls := o.cls, dict := some s.heap.objs.size, data := o.data, slots := o.slots }).get? s.heap.objs.size = some { cls := .type "dict", data := .dict #[] } :=
    (Heap.get?_update_other _ _ xs).trans (Heap.get?_push_at rfl rfl)
  have x1 : ((s.heap.push { cls := .type "dict", data := .dict #[] }).update x fun o => { cls := o.cls, dict := some s.heap.objs.size, data := o.data, slots := o.slots }).get? x = some { cls := .ref C, dict := some s.heap.objs.size, data := .fields #[.ref t, .none, .none, .none, .bool false, .none] } :=
    Heap.get?_update_self _ g1 rfl
  have n1 : ((s.heap.push { cls := .type "dict", data := .dict #[] }).update x fun o => { cls := o.cls, dict := some s.heap.objs.size, data := o.data, slots := o.slots }).Ns s.heap.objs.size (fun _ => none) := ⟨_, #[], _, d1, rfl, fun _ z => absurd z (by simp), fun _ => rfl⟩
  show wpAny _ _ (storeInDict s.heap.objs.size (.str f s.toks) f v) _ _ _
  unfold storeInDict newKeyGuard
  refine wpAny_bind (wpAny_pure (wpAny_bind (wpAny_nsSet1 (Heap.Ns1.of_empty n1) fun h' nn same => ?_)))
  obtain ⟨oD, esD, epD, q1, q2, q3⟩ := nn.count (Within.cons f v Within.nil)
  refine wpAny_bind (wpAny_lookBehind q1 (by rw [q2]; exact pastItsLine_dict (Nat.le_trans q3 (by rw [List.length_cons, List.length_nil, sizeLine_eq]; omega))) ?_)
  wp_walk
  refine k h' _ ((same.2 x xs).trans x1) ?_ fun b o n z => (same.2 b (Nat.ne_of_lt (Heap.lt_size z))).trans ((Heap.get?_update_other _ _ (Ne.symm n)).trans (Heap.get?_push_of_some _ z))
  exact nn
end
section
variable {X : Cx} {pins : List (Addr × Obj)} {σ : St} {H : Hp} {s : Shared}
theorem xd_one {f : Str} {y : V} {u : Value} (r : RelV y u) : ∀ n, RelO (([(f, y)] : List (Str × V)).lookup n) ((fun z => if z = f then some u else none) n) := fun n => by
  by_cases e : n = f
  · subst e
    simp only [List.lookup, beq_self_eq_true, if_true]
    exact r
  · have : (n == f) = false := beq_eq_false_iff_ne.mpr e
    simp only [List.lookup, this, if_neg e]
    exact trivial
theorem setx_ok {a C : Addr} {f : Str} {y : V} {u : Value} {Q : Unit → Shared → Prop} (I : Inv X pins σ H s) (q : H a = some (rawX a (.ref C) none)) (c : XAtt X.K C f) (r : RelV y u)
    (k : ∀ s', Inv X pins σ (upd (upd H a (rawX a (.ref C) (some s.heap.objs.size))) s.heap.objs.size (.xd [(f, y)])) s' → Q () s') : wpAny (model X.prog X.w) X.A (setAttr (.ref a) f u) Q X.xe s := by
  obtain ⟨t, g⟩ := I.raw q
  refine exc_store I.kIn g c fun h' tk g2 nn keep => k _ ?_
  have nd : H s.heap.objs.size = none := I.hok.fresh (Nat.le_refl _)
  have na : a ≠ s.heap.objs.size := Nat.ne_of_lt (Heap.lt_size g)
  have nb : ∀ b o, s.heap.get? b = some o → b ≠ s.heap.objs.size := fun b o z => Nat.ne_of_lt (Heap.lt_size z)
  have old : ∀ b o, H b = some o → (∀ φ, o ≠ .ext φ) → b ≠ a := fun b o z n y => by subst y; rw [q] at z; cases z; exact n _ rfl
  have old' : ∀ b, H b = none → b ≠ a := fun b z y => by subst y; rw [q] at z; cases z
  have same : ∀ b o, H b = some o → (∀ φ, o ≠ .ext φ) → (upd (upd H a (rawX a (.ref C) (some s.heap.objs.size))) s.heap.objs.size (.xd [(f, y)])) b = some o := fun b o z n => by
    rw [upd_ne (ne_of_none z nd), upd_ne (old b o z n)]; exact z
  refine I.un ⟨fun b o z n _ _ => keep b o (old' b n) z, fun b o z n _ _ => ⟨o.slots, keep b o (old' b n) z⟩, fun b o z n _ => ?_, fun b o z _ => ?_, fun b xs z => same b _ z (fun _ y => nomatch y), fun b o u z => same b _ z (fun _ y => nomatch y), fun b ps z => ⟨#[], by rw [Array.append_empty]; exact same b _ z (fun _ y => nomatch y)⟩⟩ fun b o z => ?_
  · rw [upd_ne (nb b o z), upd_ne (old' b n)]; exact n
  · by_cases y : b = a
    · subst y; exact ⟨_, g2⟩
    · exact ⟨o, keep b o y z⟩
  · by_cases y : b = s.heap.objs.size
    · subst y
      rw [upd_same] at z; cases z
      exact ⟨_, nn, xd_one r⟩
    · rw [upd_ne y] at z
      by_cases y2 : b = a
      · subst y2
        rw [upd_same] at z; cases z
        exact rawX_ok g2
      · rw [upd_ne y2] at z
        refine (I.hok b o z).stay (fun e v he w => keep e v ?_ w) (fun e w => same e _ w (fun _ y => nomatch y)) fun e xs w => same e _ w (fun _ y => nomatch y)
        rcases he with rfl | he
        · exact y2
        · exact old e _ he (fun _ y => nomatch y)
end
def sXset (K : Frag) (ta tv : TE) (f : Str) : TS := fun D σ H => tv σ H fun y H1 => ta σ H1 fun x H2 => ∃ a C, x = .ref a ∧ H2 a = some (rawX a (.ref C) none) ∧ XAtt K C f ∧
  ∀ d, H2 d = none → d ≠ a → D.nx σ (upd (upd H2 a (rawX a (.ref C) (some d))) d (.xd [(f, y)]))
theorem ps_xset {X : Cx} {o value : Expr} {f : Str} {ta tv : TE} {pos pos' : Pos} (ha : PE X o ta) (hv : PE X value tv) (hs : swapsWith value (some (.Attribute o f pos')) pos.line X.env = pure false) : PS X (.Assign [.Attribute o f pos'] value pos) (sXset X.K ta tv f) := by
  intro pins s σ H D I h
  refine plainObj_wpAny_Assign_Attribute (thn (hv pins s σ H _ I h) fun u s1 ⟨y, H1, I1, ry, q⟩ => thn (ha pins s1 σ H1 _ I1 q) fun ov s2 ⟨x, H2, I2, rx, a, C, ex, ea, c, q2⟩ => ?_) hs
  subst ex
  obtain rfl : ov = Value.ref a := rx
  obtain ⟨t, g⟩ := I2.raw ea
  exact setx_ok I2 ea c ry fun s3 I3 => ⟨σ, _, I3, q2 _ (I2.hok.fresh (Nat.le_refl _)) (Nat.ne_of_gt (Heap.lt_size g))⟩
end L2
namespace L2
open PySem PySem.Spec PyProof.Rows PySem.W Builtin Builtin.ObjectAttr
end L2
namespace L2
open PySem PySem.Spec PyProof.Rows Builtin Builtin.Str
section
variable {X : Cx}
end
end L2
namespace L2
open PySem PySem.Spec PyProof.Rows
end L2
namespace L2
open PySem PySem.Spec PyProof.Rows
end L2
namespace L2
open PySem PySem.Spec PyProof.Rows
section
variable {X : Cx}
end
end L2
namespace L2
open PySem PySem.Spec PyProof.Rows Builtin Builtin.Str
theorem nolen_lr : typeLookup (.type "list_reverseiterator") "__len__" = pure none := by rw [typeLookup_type, builtinLookup_eq_fast]; kernel_rfl
theorem hint_lr : typeLookup (.type "list_reverseiterator") "__length_hint__" = pure (some (.builtin "list_reverseiterator.__length_hint__")) := by rw [typeLookup_type, builtinLookup_eq_fast]; kernel_rfl
section
variable {prog : Program} {w : World} {A : Around} {E : Value → Shared → Prop} {s : Shared} {it : Addr} {fp wr : List Addr} {G : Array GenState → Array GenState → Prop} {n : Nat} {P : Nat → Value → Prop} {St : Nat → Shared → Prop}
end
end L2
namespace Mt
open PySem PySem.NumText
end Mt
namespace L2
open PySem PySem.Spec PyProof.Rows
section
variable {X : Cx} {tg l a elt : Expr} {body : List Stmt} {te tl : TE} {g : TG} {tb : TS} {p pos pos' : Pos} {scope : Scope} {js : List (Option Nat)}
theorem pe_globI {x : Str} {n : Int} (hm : ∃ t, X.mg x = some (.int n t)) (hg : Gl X x := by rfl) (hd : (x == ("__debug__" : Str)) = false := by decide) : PE X (.Name x pos) (tC (.int n)) := by
  obtain ⟨t, hm⟩ := hm
  exact pe_glob hg hm ⟨t, rfl⟩ hd
end
end L2
namespace L2
open PySem PySem.Spec PyProof.Rows
def clsBody : Stmt → List Stmt
  | .ClassDef _ _ _ body _ _ _ _ _ _ _ => body
  | _ => []
abbrev methOf (c : Stmt) (i : Nat) : Stmt := (clsBody c).getD i (.Pass ⟨0, 0, 0, 0⟩)
structure CalleeI (P : Program) (w : World) (K : PySem.W.Frag) (mg : Str → Option Value) (base : Heap) (k : Nat) (C : Addr) (ps : List Str) (sp : Sp) : Prop where
  ex : ∃ fI fd, FnOk P w K mg base (CXe P w) k fI fd ps sp ∧ excInit K C fI = true ∧ PySem.W.keepIn K (.ref C) = true ∧ Binds K fd ps []
theorem ps_rI {X : Cx} {E : XK} {x : Str} {C : Addr} {ps : List Str} {sp : Sp} {k : Nat} {e : Expr} {es : List Expr} {t : TA} {np cpos pos : Pos} (G : CalleeI X.prog X.w X.K X.mg X.base k C ps sp) (rm : Room (k + 1) X.A) (hr : RaisesD X E) (hm : X.mg x = some (.ref C)) (ha : PA X (e :: es) t)
    (hc : X.calm = true := by rfl) (hg : Gl X x := by rfl) (hdb : (x == ("__debug__" : Str)) = false := by decide) (he : starEach (e :: es) X.env = (false, eval e X.env) :: starEach es X.env := by rfl) (hpl : (backTo cpos (starEach es X.env)).any (·.1) = false := by rfl) :
    PS X (.Raise (some (.Call (.Name x np) (e :: es) [] cpos)) none pos) (tRaiseI C sp E t) := by
  obtain ⟨fI, fd, F, yes, kp, b⟩ := G.ex
  exact ps_raiseI hr hc hg hm kp yes F rm b passE0 ha hdb he hpl
end L2
namespace Mt
def wk (L D s : Nat → Rat) (top h : Nat) : Rat := s h * L h + (if 0 < h then s (h - 1) else 0) + (if h + 1 < top then s (h + 1) * D h else 0)
def row (L D : Nat → Rat) (top i : Nat) : Nat → List Rat
  | 0 => (List.range top).map fun h => if h = i then 1 else 0
  | n + 1 => (List.range top).map fun h => wk L D (cf (row L D top i n)) top h
theorem row_len (L D : Nat → Rat) (top i : Nat) : ∀ n, (row L D top i n).length = top
  | 0 => by simp [row]
  | n + 1 => by simp [row]
abbrev sm (L D : Nat → Rat) (top i n j : Nat) : Rat := cf (row L D top i n) j
section
variable {L D : Nat → Rat} {top : Nat}
theorem sm_zero {i j : Nat} (h : j < top) : sm L D top i 0 j = if j = i then 1 else 0 := by rw [sm, row, cf_map_range, if_pos h]
theorem sm_ge {i n j : Nat} (h : top ≤ j) : sm L D top i n j = 0 := cf_ge (by rw [row_len]; exact h)
theorem sm_succ {i n j : Nat} (h : j < top) : sm L D top i (n + 1) j = wk L D (sm L D top i n) top j := by rw [sm, row, cf_map_range, if_pos h]
def Su (f : Nat → Rat) : Nat → Rat
  | 0 => 0
  | n + 1 => Su f n + f n
theorem Su_congr {f g : Nat → Rat} : ∀ {m : Nat}, (∀ h, h < m → f h = g h) → Su f m = Su g m
  | 0, _ => rfl
  | m + 1, e => by rw [Su, Su, Su_congr fun h hh => e h (by omega), e m (by omega)]
theorem Su_add (f g : Nat → Rat) : ∀ m, Su (fun h => f h + g h) m = Su f m + Su g m
  | 0 => by simp only [Su]; grind
  | m + 1 => by rw [Su, Su, Su, Su_add f g m]; grind
theorem Su_mul (f : Nat → Rat) (c : Rat) : ∀ m, Su (fun h => f h * c) m = Su f m * c
  | 0 => by simp only [Su]; grind
  | m + 1 => by rw [Su, Su, Su_mul f c m]; grind
theorem Su_zero : ∀ m, Su (fun _ => 0) m = 0
  | 0 => rfl
  | m + 1 => by rw [Su, Su_zero m]; grind
theorem Su_one (f : Nat → Rat) (j : Nat) : ∀ m, j < m → Su (fun h => f h * (if j = h then 1 else 0)) m = f j
  | 0, h => absurd h (Nat.not_lt_zero _)
  | m + 1, h => by
    rw [Su]
    by_cases e : j = m
    · subst e
      rw [if_pos rfl, Su_congr (g := fun _ => 0) (fun h hh => by rw [if_neg (by omega)]; grind), Su_zero]
      grind
    · rw [if_neg e, Su_one f j m (by omega)]
      grind
theorem comp (i a j : Nat) : ∀ (b m : Nat), top ≤ m → Su (fun h => sm L D top i a h * sm L D top h b j) m = sm L D top i (a + b) j := by
  intro b
  induction b generalizing j with
  | zero =>
    intro m hm
    by_cases hj : j < top
    · rw [Su_congr (g := fun h => sm L D top i a h * (if j = h then 1 else 0)) fun h _ => by rw [sm_zero hj], Su_one _ _ _ (by omega)]
      rfl
    · rw [Su_congr (g := fun _ => 0) (fun h _ => by rw [sm_ge (j := j) (by omega)]; grind), Su_zero, sm_ge (by omega)]
  | succ b ih =>
    intro m hm
    by_cases hj : j < top
    · rw [show a + (b + 1) = (a + b) + 1 by omega, sm_succ hj]
      unfold wk
      rw [← ih j m hm]
      have e1 : (if 0 < j then sm L D top i (a + b) (j - 1) else 0) = Su (fun h => sm L D top i a h * (if 0 < j then sm L D top h b (j - 1) else 0)) m := by
        split
        · rw [← ih (j - 1) m hm]
        · rw [Su_congr (g := fun _ => 0) (fun h _ => by grind), Su_zero]
      have e2 : (if j + 1 < top then sm L D top i (a + b) (j + 1) * D j else 0) = Su (fun h => sm L D top i a h * (if j + 1 < top then sm L D top h b (j + 1) * D j else 0)) m := by
        split
        · rw [← ih (j + 1) m hm, ← Su_mul]
          exact Su_congr fun h _ => by grind
        · rw [Su_congr (g := fun _ => 0) (fun h _ => by grind), Su_zero]
      rw [e1, e2, ← Su_mul, ← Su_add, ← Su_add]
      refine Su_congr fun h _ => ?_
      rw [sm_succ hj]
      unfold wk
      grind
    · rw [Su_congr (g := fun _ => 0) (fun h _ => by rw [sm_ge (j := j) (by omega)]; grind), Su_zero, sm_ge (by omega)]
theorem first {i : Nat} (hi : i < top) : ∀ (n j : Nat), j < top → sm L D top i (n + 1) j = L i * sm L D top i n j + (if i + 1 < top then sm L D top (i + 1) n j else 0) + (if 0 < i then D (i - 1) * sm L D top (i - 1) n j else 0)
  | 0, j, hj => by
    rw [sm_succ hj, sm_zero hj, sm_zero hj, sm_zero hj]
    unfold wk
    rw [sm_zero hj]
    by_cases h1 : j = i
    · subst h1
      rw [if_pos rfl]
      have a : (if 0 < j then sm L D top j 0 (j - 1) else 0) = 0 := by
        split
        · rw [sm_zero (by omega), if_neg (by omega)]
        · rfl
      have b : (if j + 1 < top then sm L D top j 0 (j + 1) * D j else 0) = 0 := by
        split
        · rw [sm_zero (by omega), if_neg (by omega)]; grind
        · rfl
      have c : (if j = j + 1 then (1 : Rat) else 0) = 0 := if_neg (by omega)
      rw [a, b, c]
      by_cases z : 0 < j
      · rw [if_pos z, if_neg (show ¬ j = j - 1 by omega)]; grind
      · rw [if_neg z]; grind
    · rw [if_neg h1]
      have a : (if 0 < j then sm L D top i 0 (j - 1) else 0) = if i + 1 < top then (if j = i + 1 then (1 : Rat) else 0) else 0 := by
        by_cases e : j = i + 1
        · rw [if_pos (by omega), sm_zero (by omega), if_pos (by omega), if_pos (by omega), if_pos e]
        · rw [if_neg e, ite_self]
          split
          · rw [sm_zero (by omega), if_neg (by omega)]
          · rfl
      have b : (if j + 1 < top then sm L D top i 0 (j + 1) * D j else 0) = if 0 < i then D (i - 1) * (if j = i - 1 then (1 : Rat) else 0) else 0 := by
        by_cases e : i = j + 1
        · subst e
          rw [if_pos hi, if_pos (by omega), sm_zero hi, if_pos rfl, if_pos (by omega), show j + 1 - 1 = j by omega]
          grind
        · have z : (if 0 < i then D (i - 1) * (if j = i - 1 then (1 : Rat) else 0) else 0) = 0 := by
            split
            · rw [if_neg (by omega)]; grind
            · rfl
          rw [z]
          split
          · rw [sm_zero (by omega), if_neg (by omega)]; grind
          · rfl
      rw [a, b]
      grind
  | n + 1, j, hj => by
    rw [sm_succ hj, sm_succ (n := n) hj, sm_succ (n := n) hj, sm_succ (n := n) hj]
    unfold wk
    have e0 := first hi n j hj
    by_cases z1 : 0 < j <;> by_cases z2 : j + 1 < top
    · have e1 := first hi n (j - 1) (by omega)
      have e2 := first hi n (j + 1) z2
      simp only [if_pos z1, if_pos z2]
      rw [e0, e1, e2]
      grind
    · have e1 := first hi n (j - 1) (by omega)
      simp only [if_pos z1, if_neg z2]
      rw [e0, e1]
      grind
    · have e2 := first hi n (j + 1) z2
      simp only [if_neg z1, if_pos z2]
      rw [e0, e2]
      grind
    · simp only [if_neg z1, if_neg z2]
      rw [e0]
      grind
def pr (D : Nat → Rat) (i : Nat) : Nat → Rat
  | 0 => 1
  | n + 1 => pr D i n * D (i + n)
theorem pr_front (i : Nat) : ∀ n, pr D i (n + 1) = D i * pr D (i + 1) n
  | 0 => by simp only [pr, Nat.add_zero]; grind
  | n + 1 => by rw [pr, pr_front i n, pr, show i + 1 + n = i + (n + 1) by omega]; grind
theorem balance : ∀ (m i n : Nat), i + n < top → sm L D top (i + n) m i = sm L D top i m (i + n) * pr D i n
  | 0, i, n, h => by
    rw [sm_zero (by omega), sm_zero h]
    by_cases e : n = 0
    · subst e; simp only [pr]; rw [if_pos (by omega), if_pos (by omega)]; grind
    · rw [if_neg (by omega), if_neg (by omega)]; grind
  | m + 1, i, 0, h => by simp only [pr, Nat.add_zero]; grind
  | m + 1, i, n + 1, h => by
    rw [first (by omega) m (i + (n + 1)) h, sm_succ (by omega)]
    unfold wk
    rw [balance m i (n + 1) h, if_pos (show i + 1 < top by omega), if_pos (show i + 1 < top by omega)]
    have e1 := balance m (i + 1) n (by omega)
    rw [show i + 1 + n = i + (n + 1) by omega] at e1
    rw [e1]
    have e2 := pr_front (D := D) i n
    by_cases z : 0 < i
    · rw [if_pos z, if_pos z]
      have e3 := balance m (i - 1) (n + 2) (by omega)
      rw [show i - 1 + (n + 2) = i + (n + 1) by omega, pr_front, show i - 1 + 1 = i by omega] at e3
      rw [e3]
      grind
    · rw [if_neg z, if_neg z]
      grind
theorem far : ∀ (n i h : Nat), i + n < h → sm L D top i n h = 0
  | 0, i, h, e => by
    by_cases z : h < top
    · rw [sm_zero z, if_neg (by omega)]
    · exact sm_ge (by omega)
  | n + 1, i, h, e => by
    by_cases z : h < top
    · rw [sm_succ z]
      unfold wk
      rw [far n i h (by omega), far n i (h - 1) (by omega), far n i (h + 1) (by omega)]
      simp
      grind
    · exact sm_ge (by omega)
end
theorem Lat.one : Lat 1 1 1 := ⟨1, by grind, by decide⟩
abbrev B0 : Nat := 27720
abbrev W0 : Nat := 2000001
abbrev Wg (q : Rat) : Prop := Lat B0 (999999 * B0) q
abbrev Gd (n : Nat) (q : Rat) : Prop := Lat (B0 ^ n) (W0 ^ n * B0 ^ n) q
theorem Gd.zero {n : Nat} : Gd n 0 := Lat.zero
theorem Gd.one : Gd 0 1 := Lat.one
theorem gd_step {n : Nat} {a b c d e : Rat} (ha : Gd n a) (hb : Wg b) (hc : Gd n c) (hd : Gd n d) (he : Wg e) :
    Lat (B0 ^ (n + 1)) (W0 ^ (n + 1) * B0 ^ (n + 1)) (a * b) ∧ Lat (B0 ^ (n + 1)) (W0 ^ (n + 1) * B0 ^ (n + 1)) (a * b + c) ∧ Lat (B0 ^ (n + 1)) (W0 ^ (n + 1) * B0 ^ (n + 1)) (d * e) ∧ Gd (n + 1) (a * b + c + d * e) := by
  have h1 : Lat (B0 ^ n * B0) (W0 ^ n * B0 ^ n * (999999 * B0)) (a * b) := ha.mul hb
  have h2 : Lat (B0 ^ n * B0) (W0 ^ n * B0 ^ n * B0) c := hc.up
  have h3 : Lat (B0 ^ n * B0) (W0 ^ n * B0 ^ n * (999999 * B0)) (d * e) := hd.mul he
  have e1 : W0 ^ (n + 1) * B0 ^ (n + 1) = W0 ^ n * B0 ^ n * (2000001 * B0) := by rw [Nat.pow_succ, Nat.pow_succ]; simp only [Nat.mul_comm, Nat.mul_left_comm, Nat.mul_assoc, W0]
  show _ ∧ _ ∧ _ ∧ Lat (B0 ^ (n + 1)) (W0 ^ (n + 1) * B0 ^ (n + 1)) _
  rw [e1, Nat.pow_succ B0 n]
  generalize W0 ^ n * B0 ^ n = X at h1 h2 h3 ⊢
  have l : ∀ x y : Nat, x ≤ y → X * (x * B0) ≤ X * (y * B0) := fun x y h => Nat.mul_le_mul_left _ (Nat.mul_le_mul_right _ h)
  have e2 : X * B0 = X * (1 * B0) := by rw [Nat.one_mul]
  rw [e2] at h2
  refine ⟨h1.mono (l _ _ (by decide)), (h1.add h2).mono ?_, h3.mono (l _ _ (by decide)), ((h1.add h2).add h3).mono ?_⟩
  · rw [← Nat.mul_add, ← Nat.add_mul]; exact l (999999 + 1) 2000001 (by decide)
  · rw [← Nat.mul_add, ← Nat.add_mul, ← Nat.mul_add, ← Nat.add_mul]; exact l (999999 + 1 + 999999) 2000001 (by decide)
theorem gd_wk {n : Nat} {L D s : Nat → Rat} {top h : Nat} (hL : ∀ h, Wg (L h)) (hD : ∀ h, Wg (D h)) (hs : ∀ h, Gd n (s h)) : Gd (n + 1) (wk L D s top h) := by
  unfold wk
  have z : Gd n 0 := Gd.zero
  have w : Wg 0 := Lat.zero
  have e0 : (0 : Rat) = 0 * 0 := by grind
  by_cases a : 0 < h <;> by_cases b : h + 1 < top
  · rw [if_pos a, if_pos b]; exact (gd_step (hs h) (hL h) (hs (h - 1)) (hs (h + 1)) (hD h)).2.2.2
  · rw [if_pos a, if_neg b, e0]; exact (gd_step (hs h) (hL h) (hs (h - 1)) z w).2.2.2
  · rw [if_neg a, if_pos b]; exact (gd_step (hs h) (hL h) z (hs (h + 1)) (hD h)).2.2.2
  · rw [if_neg a, if_neg b, show (0 : Rat) = 0 * 0 + 0 by grind]
    have := (gd_step (hs h) (hL h) z z w).2.2.2
    grind
theorem gd_sm {L D : Nat → Rat} {top i : Nat} (hL : ∀ h, Wg (L h)) (hD : ∀ h, Wg (D h)) : ∀ n j, Gd n (sm L D top i n j)
  | 0, j => by
    by_cases h : j < top
    · rw [sm_zero h]
      split
      · exact Gd.one
      · exact Gd.zero
    · rw [sm_ge (by omega)]; exact Gd.zero
  | n + 1, j => by
    by_cases h : j < top
    · rw [sm_succ h]; exact gd_wk hL hD (gd_sm hL hD n)
    · rw [sm_ge (by omega)]; exact Gd.zero
theorem wg_low {t b : Int} (h1 : 1 ≤ b) (h2 : b ≤ 12) (ht : t.natAbs ≤ 999999) : Wg (Rat.divInt t b) := by
  have hb : (b : Rat) ≠ 0 := by
    intro z
    have : b = 0 := by exact_mod_cast z
    omega
  have hc : ∃ c : Int, b * c = 27720 ∧ c.natAbs ≤ 27720 := by
    have : b = 1 ∨ b = 2 ∨ b = 3 ∨ b = 4 ∨ b = 5 ∨ b = 6 ∨ b = 7 ∨ b = 8 ∨ b = 9 ∨ b = 10 ∨ b = 11 ∨ b = 12 := by omega
    rcases this with rfl | rfl | rfl | rfl | rfl | rfl | rfl | rfl | rfl | rfl | rfl | rfl
    · exact ⟨27720, by decide, by decide⟩
    · exact ⟨13860, by decide, by decide⟩
    · exact ⟨9240, by decide, by decide⟩
    · exact ⟨6930, by decide, by decide⟩
    · exact ⟨5544, by decide, by decide⟩
    · exact ⟨4620, by decide, by decide⟩
    · exact ⟨3960, by decide, by decide⟩
    · exact ⟨3465, by decide, by decide⟩
    · exact ⟨3080, by decide, by decide⟩
    · exact ⟨2772, by decide, by decide⟩
    · exact ⟨2520, by decide, by decide⟩
    · exact ⟨2310, by decide, by decide⟩
  obtain ⟨c, e, hc⟩ := hc
  refine ⟨t * c, ?_, ?_⟩
  · have e2 : ((B0 : Int) : Rat) = (b : Rat) * (c : Rat) := by rw [← Rat.intCast_mul, e]; rfl
    rw [e2, Rat.divInt_eq_div, Rat.intCast_mul]
    grind
  · rw [Int.natAbs_mul]
    exact Nat.mul_le_mul ht hc
theorem wg_int {t : Int} (ht : t.natAbs ≤ 999999) : Wg (t : Rat) := ⟨t * 27720, by rw [Rat.intCast_mul]; rfl, by rw [Int.natAbs_mul]; exact Nat.mul_le_mul ht (Nat.le_refl _)⟩
theorem wg_cf {f : List Rat} (h : ∀ q ∈ f, Wg q) (n : Nat) : Wg (cf f n) := by
  by_cases e : n < f.length
  · have := cf_lt e
    exact h _ (List.mem_of_getElem? this)
  · rw [cf_ge (by omega)]; exact Lat.zero
theorem gd_mul {a b : Nat} {x y : Rat} (hx : Gd a x) (hy : Gd b y) : Gd (a + b) (x * y) := by
  have h : Lat (B0 ^ a * B0 ^ b) (W0 ^ a * B0 ^ a * (W0 ^ b * B0 ^ b)) (x * y) := hx.mul hy
  have e : W0 ^ (a + b) * B0 ^ (a + b) = W0 ^ a * B0 ^ a * (W0 ^ b * B0 ^ b) := by rw [Nat.pow_add, Nat.pow_add]; simp only [Nat.mul_comm, Nat.mul_left_comm, Nat.mul_assoc]
  show Lat (B0 ^ (a + b)) (W0 ^ (a + b) * B0 ^ (a + b)) (x * y)
  rw [e, Nat.pow_add]
  exact h
theorem wg_gd {q : Rat} (h : Wg q) : Gd 1 q := by
  show Lat (B0 ^ 1) (W0 ^ 1 * B0 ^ 1) q
  rw [Nat.pow_one, Nat.pow_one]
  exact h.mono (Nat.mul_le_mul_right _ (by decide))
theorem gd_pr {D : Nat → Rat} (hD : ∀ h, Wg (D h)) (i : Nat) : ∀ n, Gd n (pr D i n)
  | 0 => Gd.one
  | n + 1 => gd_mul (gd_pr hD i n) (wg_gd (hD _))
theorem gd_Su {n : Nat} {f : Nat → Rat} (h : ∀ h, Gd n (f h)) : ∀ m, Lat (B0 ^ n) (m * (W0 ^ n * B0 ^ n)) (Su f m)
  | 0 => Lat.zero
  | m + 1 => ((gd_Su h m).add (h m)).mono (by rw [Nat.add_mul, Nat.one_mul]; exact Nat.le_refl _)
end Mt
namespace Mt
theorem sm_out {L D : Nat → Rat} {top i : Nat} (h : top ≤ i) : ∀ n j, sm L D top i n j = 0
  | 0, j => by
    by_cases z : j < top
    · rw [sm_zero z, if_neg (by omega)]
    · exact sm_ge (by omega)
  | n + 1, j => by
    by_cases z : j < top
    · rw [sm_succ z]
      unfold wk
      rw [sm_out h n j, sm_out h n (j - 1), sm_out h n (j + 1)]
      simp
      grind
    · exact sm_ge (by omega)
theorem bal {L D : Nat → Rat} {top i j m : Nat} (h : i ≤ j) : sm L D top j m i = sm L D top i m j * pr D i (j - i) := by
  by_cases z : j < top
  · have := balance (L := L) (D := D) (top := top) m i (j - i) (by omega)
    rw [show i + (j - i) = j by omega] at this
    exact this
  · rw [sm_out (by omega), sm_ge (by omega)]
    grind
end Mt
namespace L2
open PySem PySem.Spec PyProof.Rows
def valB : V → Value → Bool
  | .int i, .int j _ => i == j
  | .non, .none => true
  | _, _ => false
theorem valB_rel {v : V} {u : Value} (h : valB v u = true) : RelV v u := by
  cases v with
  | int i =>
    cases u with
    | int j t =>
      have e : i = j := by simpa [valB] using h
      rw [e]
      exact ⟨t, rfl⟩
    | _ => cases h
  | non =>
    cases u with
    | none => rfl
    | _ => cases h
  | _ => cases u <;> cases h
def valsB : List V → List Value → Bool
  | [], [] => true
  | v :: vs, u :: us => valB v u && valsB vs us
  | _, _ => false
theorem valsB_rel : ∀ {vs : List V} {us : List Value}, valsB vs us = true → Vals vs us
  | [], [], _ => .nil
  | v :: vs, u :: us, h => by
    simp only [valsB, Bool.and_eq_true] at h
    exact .cons (valB_rel h.1) (valsB_rel h.2)
  | [], _ :: _, h => by cases h
  | _ :: _, [], h => by cases h
def dflIn (K : PySem.W.Frag) (dV : Value) (dvs : List V) : Bool := match dV with
  | .ref T => match K.lookup T with
    | some ⟨_, _, .seq items _, _⟩ => valsB dvs items.toList
    | _ => false
  | _ => false
theorem Vals.drop' : ∀ {vs : List V} {us : List Value} (m : Nat), Vals vs us → Vals (vs.drop m) (us.drop m)
  | _, _, 0, h => h
  | _, _, _ + 1, .nil => .nil
  | _, _, m + 1, .cons _ r => Vals.drop' m r
structure FunD (K : PySem.W.Frag) (x qual : Str) (st : Stmt) (dvs : List V) (f : Addr) (fd : FuncData) : Prop where
  ex : ∃ (T : Addr) (oc : Value) (od : Option Addr) (kV doc pm : Value) (an : Option Addr) (cdv ct : Value) (osl : Array (Option Value)) (o : Obj) (items : Array Value) (n : Nat),
    fd = PySem.W.fnOf x qual (defArgs st) (defBody st) (defScope st) (.ref T) kV doc pm an cdv ct ∧ K.lookup f = some ⟨oc, od, .func fd, osl⟩ ∧ PySem.W.codeIn K cdv qual = true ∧ K.lookup T = some o ∧ o.data = .seq items n ∧ Vals dvs items.toList
  kp : PySem.W.keepIn K (.ref f) = true
theorem funD_mk {K : PySem.W.Frag} {x qual : Str} {st : Stmt} {f : Addr} {oc : Value} {od an : Option Addr} {osl : Array (Option Value)} {dV kV doc pm cdv ct : Value} {dvs : List V} (l : K.lookup f = some ⟨oc, od, .func (PySem.W.fnOf x qual (defArgs st) (defBody st) (defScope st) dV kV doc pm an cdv ct), osl⟩)
    (c : PySem.W.codeIn K cdv qual = true) (k : PySem.W.keepIn K (.ref f) = true) (d : dflIn K dV dvs = true) : FunD K x qual st dvs f (PySem.W.fnOf x qual (defArgs st) (defBody st) (defScope st) dV kV doc pm an cdv ct) := by
  unfold dflIn at d
  split at d
  · split at d
    · rename_i T _ oc' od' items n sl e
      exact ⟨⟨T, oc, od, kV, doc, pm, an, cdv, ct, osl, _, items, n, rfl, l, c, e, rfl, valsB_rel d⟩, k⟩
    · cases d
  · cases d
structure CalleeD (P : Program) (w : World) (K : PySem.W.Frag) (mg : Str → Option Value) (base : Heap) (k : Nat) (x : Str) (ps : List Str) (dvs : List V) (sp : Sp) : Prop where
  ex : ∃ f fd ds, FnOk P w K mg base (CXe P w) k f fd ps sp ∧ mg x = some (.ref f) ∧ PySem.W.keepIn K (.ref f) = true ∧ Vals dvs ds ∧ ∀ i, i ≤ dvs.length → Binds K fd ps (ds.drop i)
section
variable {P : Program} {w : World} {K : PySem.W.Frag} {mg : Str → Option Value} {base : Heap} {x qual : Str} {st : Stmt} {f : Addr} {fd : FuncData} {N ps : List Str} {k : Nat} {sp : Sp} {dvs : List V}
theorem FunD.callee (F : FunD K x qual st dvs f fd) (m : mg x = some (.ref f)) (h : FnOk P w K mg base (CXe P w) k f fd ps sp)
    (hb : ∀ (i : Nat), i ≤ dvs.length → ∀ (T : Addr) (kV doc pm : Value) (an : Option Addr) (cdv ct : Value) (items : Array Value) (us : List Value), items.toList.length = dvs.length → (us ++ items.toList.drop i).length = ps.length →
      ∃ k, bindArgs (PySem.W.fnOf x qual (defArgs st) (defBody st) (defScope st) (.ref T) kV doc pm an cdv ct) ⟨us, []⟩ = seqItems? (.ref T) >>= k ∧ k (some items) = pure (ps.zip (us ++ items.toList.drop i))) :
    CalleeD P w K mg base k x ps dvs sp := by
  obtain ⟨T, oc, od, kV, doc, pm, an, cdv, ct, osl, o, items, n, rfl, lk, hcd, lT, hd, hv⟩ := F.ex
  refine ⟨f, _, items.toList, h, m, F.kp, hv, fun i hi s us kin hl => ?_⟩
  obtain ⟨k', e1, e2⟩ := hb i hi T kV doc pm an cdv ct items us hv.length.symm hl
  exact BindsTo.of_defaults (T := T) rfl (kin _ _ lT) hd e1 e2
theorem FunD.okE (F : FunD K x qual st dvs f fd) (S : FnScope N ps (defScope st)) (len : ∀ vs H Q E, sp vs H Q E → vs.length = ps.length)
    (hbody : ∀ (cdv : Value) (A : Around) (outer : List Env) (s : Shared) (H : Hp) (vs : List V) (Q : VK) (E : XK), Room k (A.deeper (envOfC qual (defScope st) s.heap.objs.size f cdv)) → sp vs H Q E →
      ∃ t, PSs (cxOf (CXe P w) P w K mg base N qual (defScope st) f cdv A outer s H E).nox (defBody st) t ∧ t { nx := fun _ H' => Q .non H', rt := Q } (start N vs) H) : FnOk P w K mg base (CXe P w) (k + 1) f fd ps sp := by
  obtain ⟨T, oc, od, kV, doc, pm, an, cdv, ct, osl, o, items, n, rfl, lk, hcd, lT, hd, hv⟩ := F.ex
  refine fn_of lk hcd S len fun A outer s H vs Q E hr hsp => ?_
  obtain ⟨t, h, q⟩ := hbody cdv A outer s H vs Q E hr hsp
  exact ⟨t, h.nox, q⟩
theorem FunD.okX (F : FunD K x qual st dvs f fd) (S : FnScope N ps (defScope st)) (len : ∀ vs H Q E, sp vs H Q E → vs.length = ps.length)
    (hbody : ∀ (cdv : Value) (A : Around) (outer : List Env) (s : Shared) (H : Hp) (vs : List V) (Q : VK) (E : XK), Room k (A.deeper (envOfC qual (defScope st) s.heap.objs.size f cdv)) → sp vs H Q E →
      ∃ t, PSs (cxOf (CXe P w) P w K mg base N qual (defScope st) f cdv A outer s H E) (defBody st) t ∧ t { nx := fun _ H' => Q .non H', rt := Q } (start N vs) H) : FnOk P w K mg base (CXe P w) (k + 1) f fd ps sp := by
  obtain ⟨T, oc, od, kV, doc, pm, an, cdv, ct, osl, o, items, n, rfl, lk, hcd, lT, hd, hv⟩ := F.ex
  exact fn_of lk hcd S len fun A outer s H vs Q E hr hsp => hbody cdv A outer s H vs Q E hr hsp
end
section
variable {X : Cx} {k : Nat} {sp : Sp} {ps : List Str} {dvs : List V} {x : Str} {p pos : Pos} {e : Expr} {es : List Expr} {t : TA}
theorem pe_cD {E : XK} (m : Nat) (G : CalleeD X.prog X.w X.K X.mg X.base k x ps dvs sp) (hr : Room k X.A) (hx : Passes (CXe X.prog X.w) X E) (ha : PA X (e :: es) t) (hm : m ≤ dvs.length := by decide) (hg : Gl X x := by rfl)
    (hdb : (x == ("__debug__" : Str)) = false := by decide) (he : starEach (e :: es) X.env = (false, eval e X.env) :: starEach es X.env := by rfl) (hpl : (backTo pos (starEach es X.env)).any (·.1) = false := by rfl) :
    PE X (.Call (.Name x p) (e :: es) [] pos) (tCall sp (dvs.drop m) E t) := by
  obtain ⟨f, fd, ds, F, mm, kp, hv, b⟩ := G.ex
  exact pe_call F hr hg mm kp (b m hm) (hv.drop' m) hx ha hdb he hpl
end
def FR2 (i : Int) (n : Nat) (g : TG) (tb : TS) (D : Ends) (σ : St) (H : Hp) : Prop := ∃ Pv : Nat → St → Hp → Prop, Pv 0 σ H ∧ (∀ m σ H, m < n → Pv m σ H → g (.int (i + m)) σ H fun σ2 H2 => tb { D with nx := Pv (m + 1), ct := Pv (m + 1), bk := D.nx } σ2 H2) ∧ ∀ σ H, Pv n σ H → D.nx σ H
def tForR2 (te te2 : TE) (g : TG) (tb : TS) : TS := fun D σ H => te σ H fun v H1 => te2 σ H1 fun v2 H2 => ∃ i : Int, v = .int i ∧ ∃ j : Int, v2 = .int j ∧ (-(2 ^ 62) ≤ i ∧ i < 2 ^ 62 ∧ -(2 ^ 62) ≤ j ∧ j < 2 ^ 62) ∧ FR2 i (j - i).toNat g tb D σ H2
section
variable {X : Cx} {tg a b : Expr} {body : List Stmt} {te te2 : TE} {g : TG} {tb : TS} {p pos pos' : Pos}
theorem ps_forR2 (hc : X.calm = true) (hp : PassesOwn (model X.prog X.w) X.A X.env X.xe) (hm : X.mg "range" = none) (ha : PE X a te) (hb2 : PE X b te2) (hgt : PG X tg g) (hb : PSs X body tb) (hg : Gl X "range" := by rfl)
    (hs : starEach [a, b] X.env = [(false, eval a X.env), (false, eval b X.env)] := by rfl) (hs2 : starEach [b] X.env = [(false, eval b X.env)] := by rfl) :
    PS X (.For tg (.Call (.Name "range" p) [a, b] [] pos') body [] pos) (tForR2 te te2 g tb) := by
  intro pins s σ H D I h
  refine ps_for hp hc (pi_range2 hg hm (pa_cons ha.mo (pa_cons hb2.mo pa_nil (by rw [hs2]; rfl)) (by rw [hs, hs2])) hs hs2) hgt hb (by intro _; rfl) pins s σ H D I ?_
  refine ⟨_, h, fun v H1 h2 => ⟨_, h2, fun v2 H2 ⟨i, e1, j, e2, bd, Pv, p0, pt, pd⟩ => ⟨i, j, by rw [e1, e2], bd, ?_⟩⟩⟩
  exact for_range (lo := i) (n := (j - i).toNat) Pv p0 pt pd
end
section
variable {X : Cx}
end
theorem CO.frsP {K : PySem.W.Frag} {n : Nat} {src : Nat → Hp → V → Prop} {st : Hp → Prop} {js : List (Option Nat)} {tl : TE} {σ : St} {H1 : Hp} {Q : VK} (P : Rat → Prop) (hn : n ≤ 1000) (hst : ∀ H, Same H1 H → st H)
    (hel : ∀ i H x (R : VK), i < n → Same H1 H → src i H x → (∀ r H3 q, Same H H3 → Fq K H3 r q → P q → R (.ref r) H3) → tl (some x :: cσ js σ) H R)
    (hq : ∀ D H xs f, Same H1 H → H1 D = none → H D = some (.lst xs) → Frs K H f xs → f.length = n → (∀ q ∈ f, P q) → Q (.ref D) H) : CO n src st (none :: js) (gName 0) tl σ H1 Q := by
  intro D hD
  refine ⟨fun i ys σc H => (∃ r, σc = r :: cσ js σ) ∧ Same H1 H ∧ H D = some (.lst ys) ∧ ∃ f, Frs K H f ys ∧ f.length = i ∧ ∀ q ∈ f, P q, ⟨⟨none, rfl⟩, same_upd hD, upd_same, [], Frs.nil, rfl, fun q hq => nomatch hq⟩, fun i ys σc H _ h => hst H h.2.1, ?_, ?_⟩
  · rintro i ys σc H x hi ⟨⟨r, rfl⟩, sm, hd, f, hf, lf, pf⟩ hx
    refine hel i H x _ hi sm hx fun p H3 q s3 hy hP => ?_
    have hl := hf.len
    refine ⟨s3 _ _ hd, small1000 (by omega), ⟨_, rfl⟩, (sm.trans s3).updL hD, upd_same, f ++ [q], Frs.snoc (Frs.updL (s3 _ _ hd) (hf.same s3)) (SqT.updL (s3 _ _ hd) hy), by simp [lf], ?_⟩
    intro q' hq'
    rcases List.mem_append.mp hq' with z | z
    · exact pf q' z
    · rw [List.mem_singleton.mp z]; exact hP
  · rintro ys σc H ⟨_, sm, hd, f, hf, lf, pf⟩
    exact ⟨hd, hq D H ys f sm hD hd hf lf pf⟩
end L2
namespace L2
open PySem PySem.Spec PyProof.Rows
section
variable {X : Cx}
def nat2 (i j : Int) (n : Nat) : Int := if n = 0 then i else j
theorem at2 {i j : Int} {t u : Tok} {n : Nat} {v : Value} (h : (#[Value.int i t, Value.int j u] : Array Value)[n]? = some v) : ∃ t, v = .int (nat2 i j n) t := by
  rcases n with _ | _ | n
  · exact ⟨t, (by simpa [nat2] using h.symm)⟩
  · exact ⟨u, (by simpa [nat2] using h.symm)⟩
  · simp at h
end
end L2
namespace L2
open PySem PySem.Spec PyProof.Rows
end L2
namespace L2
open PySem PySem.Spec PyProof.Rows
section
variable {X : Cx} {e a b : Expr} {es : List Expr} {te ta tb : TE} {t u : TS} {tx : TA} {st : Stmt} {rest body orelse : List Stmt} {pos : Pos}
end
end L2
namespace L2
open PySem PySem.Spec PyProof.Rows
end L2
namespace L2
open PySem PySem.Spec PyProof.Rows
section
variable {prog : Program} {w : World} {A : Around} {E : Value → Shared → Prop} {s : Shared}
end
end L2
namespace L2
open PySem PySem.Spec PyProof.Rows
section
variable {X : Cx} {es : List Expr} {y1 : Nat} {tp : Pos}
end
section
variable {X : Cx} {es : List Expr} {y1 : Nat} {tp : Pos} {a b elt : Expr} {te te2 tl : TE} {g : TG} {p pos pos' : Pos} {scope : Scope} {js : List (Option Nat)}
end
end L2
namespace L2
open PySem PySem.Spec PyProof.Rows
section
variable {κ : Type} [DecidableEq κ]
def valV (kvs : List (κ × V)) (k : κ) : Option V := (kvs.find? fun kv => decide (kv.1 = k)).map (·.2)
def putK (kvs : List (κ × V)) (k : κ) (v : V) : List (κ × V) :=
  if (kvs.any fun kv => decide (kv.1 = k)) = true then kvs.map (fun kv => if kv.1 = k then (kv.1, v) else kv) else kvs ++ [(k, v)]
theorem valV_pos {p : κ × V} {r : List (κ × V)} {k : κ} (e : p.1 = k) : valV (p :: r) k = some p.2 := by simp [valV, List.find?_cons, e]
theorem valV_neg {p : κ × V} {r : List (κ × V)} {k : κ} (e : ¬ p.1 = k) : valV (p :: r) k = valV r k := by simp [valV, List.find?_cons, e]
theorem valV_any (k : κ) : ∀ kvs : List (κ × V), (kvs.any fun kv => decide (kv.1 = k)) = (valV kvs k).isSome
  | [] => rfl
  | p :: r => by
    rw [List.any_cons]
    by_cases e : p.1 = k
    · simp only [valV_pos e, decide_eq_true e, Bool.true_or, Option.isSome_some]
    · rw [valV_neg e, decide_eq_false e, Bool.false_or]; exact valV_any k r
theorem valV_map (k j : κ) (y : V) : ∀ kvs : List (κ × V), valV (kvs.map fun kv => if kv.1 = k then (kv.1, y) else kv) j = (valV kvs j).map fun x => if j = k then y else x
  | [] => rfl
  | p :: r => by
    have ih := valV_map k j y r
    rw [List.map_cons]
    by_cases h : p.1 = k
    · rw [if_pos h]
      by_cases e : p.1 = j
      · rw [valV_pos (p := (p.1, y)) e, valV_pos e, Option.map_some, if_pos (e.symm.trans h)]
      · rw [valV_neg (p := (p.1, y)) e, valV_neg e, ih]
    · rw [if_neg h]
      by_cases e : p.1 = j
      · rw [valV_pos (p := p) e, valV_pos e, Option.map_some, if_neg (fun z => h (e.trans z))]
      · rw [valV_neg (p := p) e, valV_neg e, ih]
theorem valV_snoc (k j : κ) (y : V) : ∀ kvs : List (κ × V), valV kvs k = none → valV (kvs ++ [(k, y)]) j = if j = k then some y else valV kvs j
  | [], _ => by
    by_cases e : k = j
    · rw [if_pos e.symm]; exact valV_pos (p := (k, y)) e
    · rw [if_neg (fun z => e z.symm)]; exact valV_neg (p := (k, y)) e
  | p :: r, hn => by
    rw [List.cons_append]
    have hk : ¬ p.1 = k := fun z => by rw [valV_pos z] at hn; cases hn
    rw [valV_neg hk] at hn
    have ih := valV_snoc k j y r hn
    by_cases e : p.1 = j
    · rw [valV_pos e, valV_pos e, if_neg (fun z => hk (e.trans z))]
    · rw [valV_neg e, valV_neg e, ih]
theorem valV_put (kvs : List (κ × V)) (k j : κ) (y : V) : valV (putK kvs k y) j = if j = k then some y else valV kvs j := by
  unfold putK
  by_cases a : (kvs.any fun kv => decide (kv.1 = k)) = true
  · rw [if_pos a, valV_map]
    rw [valV_any] at a
    by_cases e : j = k
    · obtain ⟨x, hx⟩ := Option.isSome_iff_exists.mp a
      rw [if_pos e, e, hx, Option.map_some, if_pos rfl]
    · rw [if_neg e]
      cases valV kvs j with
      | none => rfl
      | some x => rw [Option.map_some, if_neg e]
  · rw [if_neg a]
    refine valV_snoc k j y kvs ?_
    rw [valV_any] at a
    cases q : valV kvs k with
    | none => rfl
    | some x => rw [q] at a; exact (a rfl).elim
theorem length_putK (kvs : List (κ × V)) (k : κ) (v : V) : (putK kvs k v).length ≤ kvs.length + 1 := by
  unfold putK
  split
  · rw [List.length_map]; omega
  · rw [List.length_append, List.length_cons, List.length_nil]; omega
theorem RelO.isSome_eq {o : Option V} {u : Option Value} (r : RelO o u) : o.isSome = u.isSome := by
  cases o with
  | none => cases u with
    | none => rfl
    | some _ => exact (show False from r).elim
  | some _ => cases u with
    | none => exact (show False from r).elim
    | some _ => rfl
theorem RelO.getD {o : Option V} {u : Option Value} {d : V} {d' : Value} (r : RelO o u) (rd : RelV d d') : RelV (o.getD d) (u.getD d') := by
  cases o with
  | none => cases u with
    | none => exact rd
    | some _ => exact (show False from r).elim
  | some _ => cases u with
    | none => exact (show False from r).elim
    | some _ => exact r
theorem KV.val {kvs : List (κ × V)} {vs : List (κ × Value)} (r : KV kvs vs) (k : κ) : RelO (valV kvs k) (valueAt vs k) := by
  unfold KV at r
  induction r with
  | nil => exact True.intro
  | @cons p q ps qs h t ih =>
    obtain ⟨h1, h2⟩ := h
    by_cases e : p.1 = k
    · have e' : q.1 = k := h1.symm.trans e
      have b : valueAt (q :: qs) k = some q.2 := by simp [valueAt, List.find?_cons, e']
      rw [valV_pos e, b]; exact h2
    · have e' : ¬ q.1 = k := fun z => e (h1.trans z)
      have b : valueAt (q :: qs) k = valueAt qs k := by simp [valueAt, List.find?_cons, e']
      rw [valV_neg e, b]; exact ih
theorem KV.any {kvs : List (κ × V)} {vs : List (κ × Value)} (r : KV kvs vs) (k : κ) : (kvs.any fun kv => decide (kv.1 = k)) = vs.any fun kv => decide (kv.1 = k) := by
  unfold KV at r
  induction r with
  | nil => rfl
  | cons h t ih => rw [List.any_cons, List.any_cons, ih, h.1]
theorem KV.repl {kvs : List (κ × V)} {vs : List (κ × Value)} (r : KV kvs vs) (k : κ) {y : V} {u : Value} (ry : RelV y u) :
    KV (kvs.map fun kv => if kv.1 = k then (kv.1, y) else kv) (vs.map fun kv => if kv.1 = k then (kv.1, u) else kv) := by
  unfold KV at r ⊢
  induction r with
  | nil => exact .nil
  | @cons p q ps qs h t ih =>
    rw [List.map_cons, List.map_cons]
    refine .cons ?_ ih
    obtain ⟨h1, h2⟩ := h
    by_cases e : p.1 = k
    · rw [if_pos e, if_pos (h1.symm.trans e)]; exact ⟨h1, ry⟩
    · rw [if_neg e, if_neg (fun z => e (h1.trans z))]; exact ⟨h1, h2⟩
theorem KV.put {kvs : List (κ × V)} {vs : List (κ × Value)} (r : KV kvs vs) (k : κ) {y : V} {u : Value} (ry : RelV y u) : KV (putK kvs k y) (stored vs k u) := by
  unfold putK stored
  rw [r.any k]
  by_cases e : (vs.any fun kv => decide (kv.1 = k)) = true
  · rw [if_pos e, if_pos e]; exact r.repl k ry
  · rw [if_neg e, if_neg e]; exact Paired.snoc r ⟨rfl, ry⟩
theorem KV.length {kvs : List (κ × V)} {vs : List (κ × Value)} (r : KV kvs vs) : kvs.length = vs.length := Paired.length r
end
theorem kV_is {P : Program} {w : World} {k : Key} {u : Value} (r : RelV (kV k) u) : (mixKind P w).is k u = true := by
  cases k with
  | inl i => obtain ⟨t, e⟩ := (show ∃ t, u = Value.int i t from r); subst e; exact mixKind_int P w i t
  | inr x => obtain ⟨t, e⟩ := (show ∃ t, u = Value.str x t from r); subst e; exact mixKind_str P w x t
theorem items_are {P : Program} {w : World} : ∀ {ks : List Key} {us : List Value}, Vals (ks.map kV) us → ItemsAre (mixKind P w) ks us
  | [], _, r => by rw [List.map_nil] at r; cases r; exact .nil
  | k :: ks, _, r => by
    rw [List.map_cons] at r
    cases r with
    | cons h t => exact .cons (kV_is h) (items_are t)
abbrev KT (H : Hp) : List (List Key × V) → List (List Key × Addr × Value) → Prop := Paired fun p q => p.1 = q.1 ∧ H q.2.1 = some (.tup (p.1.map kV)) ∧ RelV p.2 q.2.2
theorem KT.val {H : Hp} {kvs : List (List Key × V)} {xs : List (List Key × Addr × Value)} (r : KT H kvs xs) (k : List Key) : RelO (valV kvs k) ((atKey xs k).map (·.2)) := by
  induction r with
  | nil => exact True.intro
  | @cons p q ps qs h t ih =>
    obtain ⟨h1, _, h2⟩ := h
    by_cases e : p.1 = k
    · have e' : q.1 = k := h1.symm.trans e
      have b : atKey (q :: qs) k = some q.2 := by simp [atKey, List.find?_cons, e']
      rw [valV_pos e, b]; exact h2
    · have e' : ¬ q.1 = k := fun z => e (h1.trans z)
      have b : atKey (q :: qs) k = atKey qs k := by simp [atKey, List.find?_cons, e']
      rw [valV_neg e, b]; exact ih
theorem KT.repl {H : Hp} {kvs : List (List Key × V)} {xs : List (List Key × Addr × Value)} (r : KT H kvs xs) (k : List Key) {y : V} {u : Value} (ry : RelV y u) :
    KT H (kvs.map fun kv => if kv.1 = k then (kv.1, y) else kv) (xs.map (putAt k u)) := by
  induction r with
  | nil => exact .nil
  | @cons p q ps qs h t ih =>
    rw [List.map_cons, List.map_cons]
    refine .cons ?_ ih
    obtain ⟨h1, h2, h3⟩ := h
    unfold putAt
    by_cases e : p.1 = k
    · rw [if_pos e, if_pos (h1.symm.trans e)]; exact ⟨h1, h2, ry⟩
    · rw [if_neg e, if_neg (fun z => e (h1.trans z))]; exact ⟨h1, h2, h3⟩
theorem KT.put {H : Hp} {kvs : List (List Key × V)} {xs : List (List Key × Addr × Value)} (r : KT H kvs xs) (k : List Key) {b : Addr} {y : V} {u : Value} (hb : H b = some (.tup (k.map kV))) (ry : RelV y u) :
    KT H (putK kvs k y) (storedH xs k b u) := by
  have e : (kvs.any fun kv => decide (kv.1 = k)) = (atKey xs k).isSome := by
    rw [valV_any, (r.val k).isSome_eq, Option.isSome_map]
  unfold putK storedH
  rw [e]
  by_cases q : (atKey xs k).isSome = true
  · rw [if_pos q, if_pos q]; exact r.repl k ry
  · rw [if_neg q, if_neg q]; exact Paired.snoc r ⟨rfl, hb, ry⟩
theorem KT.keeps {H H' : Hp} {kvs : List (List Key × V)} {xs : List (List Key × Addr × Value)} (r : KT H kvs xs) (ht : ∀ b ys, H b = some (.tup ys) → H' b = some (.tup ys)) : KT H' kvs xs :=
  Paired.mapP r fun _ _ z => ⟨z.1, ht _ _ z.2.1, z.2.2⟩
section
variable {P : Program} {w : World} {H : Hp} {h : Heap} {a : Addr}
theorem rd_of {u : HO} (ok : HOk P w H h) (e : Rd H a u) : ObjOk P w H h a u := e.ok ok
theorem dk_rd {kvs : List (Key × V)} (ok : HOk P w H h) (e : Rd H a (.dK kvs)) : kvs.length ≤ sizeLine ∧ (a == sysModules) = false ∧ ∃ vs, KV kvs vs ∧ h.DictOf (mixKind P w) a vs :=
  show ObjOk P w H h a (.dK kvs) from rd_of ok e
theorem dk_of {kvs : List (Key × V)} (ok : HOk P w H h) (e : H a = some (.dK kvs)) : kvs.length ≤ sizeLine ∧ (a == sysModules) = false ∧ ∃ vs, KV kvs vs ∧ h.DictOf (mixKind P w) a vs := dk_rd ok (.inl e)
theorem key_of {ks : List Key} (ok : HOk P w H h) (e : H a = some (.tup (ks.map kV))) : (tupleKind (mixKind P w)).is h ks a := by
  obtain ⟨_, its, r, o, h1, h2, n, h3⟩ := (show ObjOk P w H h a (.tup (ks.map kV)) from ok a _ e)
  exact ⟨o, its.toArray, n, h1, h2, h3, by simpa using items_are r⟩
theorem dt_rd {kvs : List (List Key × V)} (ok : HOk P w H h) (e : Rd H a (.dT kvs)) : kvs.length ≤ sizeLine ∧ (a == sysModules) = false ∧
    ∃ xs, KT H kvs xs ∧ h.DictOfH (tupleKind (mixKind P w)) a xs := by
  obtain ⟨z, y, xs, r, o, es, ep, h1, h2, h3, h4, h5⟩ := (show ObjOk P w H h a (.dT kvs) from rd_of ok e)
  refine ⟨z, y, xs, r, o, es, ep, h1, h2, h3, h4, fun x hx => ?_, h5⟩
  have all : ∀ {l : List (List Key × V)} {m : List (List Key × Addr × Value)}, KT H l m → ∀ x ∈ m, (tupleKind (mixKind P w)).is h x.1 x.2.1 := by
    intro l m q
    induction q with
    | nil => intro x hx; exact nomatch hx
    | @cons p q ps qs hq t ih =>
      intro x hx
      rcases List.mem_cons.mp hx with e | hx
      · subst e
        exact key_of ok (by rw [← hq.1]; exact hq.2.1)
      · exact ih x hx
  exact all r x hx
theorem dt_of {kvs : List (List Key × V)} (ok : HOk P w H h) (e : H a = some (.dT kvs)) : kvs.length ≤ sizeLine ∧ (a == sysModules) = false ∧
    ∃ xs, KT H kvs xs ∧ h.DictOfH (tupleKind (mixKind P w)) a xs := dt_rd ok (.inl e)
end
def DGet (H : Hp) (a : Addr) (y : V) (r : Option V) : Prop :=
  (∃ kvs k, Rd H a (.dK kvs) ∧ y = kV k ∧ r = valV kvs k) ∨ ∃ kvs k b, Rd H a (.dT kvs) ∧ y = .ref b ∧ H b = some (.tup (k.map kV)) ∧ r = valV kvs k
def DPut (H : Hp) (a : Addr) (y v : V) (H' : Hp) : Prop :=
  (∃ kvs k, H a = some (.dK kvs) ∧ y = kV k ∧ kvs.length < sizeLine ∧ H' = upd H a (.dK (putK kvs k v))) ∨
  ∃ kvs k b, H a = some (.dT kvs) ∧ y = .ref b ∧ H b = some (.tup (k.map kV)) ∧ kvs.length < sizeLine ∧ H' = upd H a (.dT (putK kvs k v))
theorem DGet.k {H : Hp} {a : Addr} {kvs : List (Key × V)} {k : Key} (e : H a = some (.dK kvs)) : DGet H a (kV k) (valV kvs k) := .inl ⟨kvs, k, .inl e, rfl, rfl⟩
theorem DPut.k {H : Hp} {a : Addr} {kvs : List (Key × V)} {k : Key} {v : V} (e : H a = some (.dK kvs)) (hl : kvs.length < sizeLine) : DPut H a (kV k) v (upd H a (.dK (putK kvs k v))) := .inl ⟨kvs, k, e, rfl, hl, rfl⟩
section
variable {X : Cx} {pins : List (Addr × Obj)} {σ : St} {H : Hp} {s : Shared} {a : Addr} {y v : V} {u r : Value} {o : Option V} {A : Around} {E : Value → Shared → Prop}
theorem Inv.big (I : Inv X pins σ H s) : sysModules < s.heap.objs.size := by
  have h : mainGlobals < s.heap.objs.size := (I.mod.glob.keeps I.bk).lt
  exact Nat.lt_trans (by decide) h
theorem d_getItem {Q : Value → Shared → Prop} (hu : A.units + 1 < cLine) (I : Inv X pins σ H s) (g : DGet H a y (some v)) (ry : RelV y u) (h : ∀ w' s', Inv X pins σ H s' → RelV v w' → Q w' s') :
    wpAny (model X.prog X.w) A (getItem (.ref a) u) Q E s := by
  rcases g with ⟨kvs, k, e, ey, l⟩ | ⟨kvs, k, b, e, ey, eb, l⟩
  · subst ey
    obtain ⟨z, hd, vs, rel, dd⟩ := dk_rd I.hok e
    obtain ⟨w', hw, rw'⟩ := RelO.some_of (v := v) (o := valueAt vs k) (by rw [l]; exact rel.val k)
    exact wpAny_getItem_of (kV_is ry) dd.mapOf hw (h w' _ (I.tok _) rw')
  · subst ey
    cases (show u = Value.ref b from ry)
    obtain ⟨z, hd, xs, rel, dd⟩ := dt_rd I.hok e
    obtain ⟨w', hw, rw'⟩ := RelO.some_of (v := v) (o := (atKey xs k).map (·.2)) (by rw [l]; exact rel.val k)
    obtain ⟨p, hp, hp2⟩ := Option.map_eq_some_iff.mp hw
    refine wpAny_getItem_heap (tupleKind_room_in1 hu) (key_of I.hok eb) dd hp ?_
    rw [hp2]
    exact h w' _ (I.tok _) rw'
theorem d_write {h' : Heap} {t' : Nat} {ob : HO} (I : Inv X pins σ H s) (mu : Mut (H a)) (hs : Heap.SameBut a s.heap h') (he : ∃ q, h'.get? a = some q) (new : ObjOk X.prog X.w (upd H a ob) h' a ob) :
    Inv X pins σ (upd H a ob) { s with heap := h', toks := t' } :=
  I.write (x := a) (e := a) mu (.inl rfl) (fun b q hb z => (hs.2 b hb).trans z) he new
theorem dk_new {P : Program} {w : World} {H' : Hp} {h' : Heap} {kvs : List (Key × V)} {vs : List (Key × Value)} (z : kvs.length ≤ sizeLine) (hd : (a == sysModules) = false) (rel : KV kvs vs) (dd : h'.DictOf (mixKind P w) a vs) :
    ObjOk P w H' h' a (.dK kvs) := ⟨z, hd, vs, rel, dd⟩
theorem d_setItem {H' : Hp} {Q : Unit → Shared → Prop} (hu : A.units + 1 < cLine) (I : Inv X pins σ H s) (g : DPut H a y v H') (ry : RelV y u) (rv : RelV v r) (h : ∀ s', Inv X pins σ H' s' → Q () s') :
    wpAny (model X.prog X.w) A (setItem (.ref a) u r) Q E s := by
  rcases g with ⟨kvs, k, e, ey, l, eH⟩ | ⟨kvs, k, b, e, ey, eb, l, eH⟩
  · subst ey eH
    obtain ⟨z, hd, vs, rel, dd⟩ := dk_of I.hok e
    have hz : vs.length ≤ sizeLine := by rw [← rel.length]; exact z
    have hl : (putK kvs k v).length ≤ sizeLine := by have := length_putK kvs k v; omega
    refine wpAny_setItem_pairs (hsz := hz) (kV_is ry) dd fun h' dd' hs => h _ ?_
    have he : ∃ q, h'.get? a = some q := let ⟨q, _, _, hq, _⟩ := dd'; ⟨q, hq⟩
    exact d_write I (by rw [e]; exact True.intro) hs he (dk_new hl hd (rel.put k rv) dd')
  · subst ey eH
    cases (show u = Value.ref b from ry)
    obtain ⟨z, hd, xs, rel, dd⟩ := dt_of I.hok e
    have hz : xs.length ≤ sizeLine := by rw [← Paired.length rel]; exact z
    have hl : (putK kvs k v).length ≤ sizeLine := by have := length_putK kvs k v; omega
    refine wpAny_setItem_heap (hsz := hz) (tupleKind_room_in1 hu) (key_of I.hok eb) dd fun h' dd' hs => h _ ?_
    obtain ⟨q, es, ep, hq, h2, h3, h4, _, h5⟩ := dd'
    refine d_write I (by rw [e]; exact True.intro) hs ⟨q, hq⟩ ⟨hl, hd, _, (rel.put k eb rv).keeps fun c ys ec => ?_, q, es, ep, hq, h2, h3, h4, h5⟩
    rw [upd_ne (ne_of ec e (fun z => nomatch z))]
    exact ec
end
section
variable {X : Cx} {pins : List (Addr × Obj)} {σ : St} {H : Hp} {s : Shared} {a : Addr} {kvs : List (Key × V)} {k : Key} {u : Value} {A : Around} {E : Value → Shared → Prop}
end
def NoSl (i : Expr) : Prop := ∀ ov iv, subscripted i false ov iv = operate [ov, iv] (getItem ov iv)
theorem subD_of {prog : Program} {w : World} {A : Around} {E : Value → Shared → Prop} {s : Shared} {env : Env} {value slice : Expr} {pos : Pos} {T id : String} {Q : Value → Shared → Prop}
    (hl : typeLookup (.type T) "__getitem__" = pure (some (.builtin id))) (hs : NoSl slice)
    (h : wpAny (model prog w) A (eval value env) (fun o s₁ => wpAny (model prog w) A (eval slice env) (fun i s₂ => s₂.TypeIs o T ∧ wpAny (model prog w) A (getItem o i) Q E s₂) E s₁) E s) :
    wpAny (model prog w) A (eval (.Subscript value slice pos) env) Q E s := by
  refine Subscript_ (wpAny_mono h (fun o s₁ h₁ => wpAny_mono h₁ (fun i s₂ h₂ => ?_) fun _ _ x => x) fun _ _ x => x)
  obtain ⟨hT, h₂⟩ := h₂
  unfold subscriptTail
  refine wpAny_bind ?_
  rw [getitemInPython_of_ne hT.not_modules]
  refine wpAny_bind (wpAny_specialOf hT hl ?_)
  have fin : wpAny (model prog w) A (subscripted slice false o i) (fun r s₃ => wpAny (model prog w) A (letTemporaryGo value o r >>= fun _ => pure r) Q E s₃) E s₂ := by
    rw [hs o i]
    exact wpAny_operating (wpAny_mono h₂ (fun r s₃ h₃ => wpAny_bind (wpAny_letTemporaryGo (wpAny_pure h₃))) fun _ _ x => x)
  first
    | exact wpAny_pure (wpAny_bind fin)
    | exact wpAny_bind (wpAny_pure (wpAny_bind fin))
    | exact wpAny_bind fin
theorem dict_typeIs {X : Cx} {pins : List (Addr × Obj)} {σ : St} {H : Hp} {s : Shared} {a : Addr} {y : V} {o : Option V} (I : Inv X pins σ H s) (g : DGet H a y o) : s.TypeIs (.ref a) "dict" := by
  rcases g with ⟨kvs, k, e, _, _⟩ | ⟨kvs, k, b, e, _, _, _⟩
  · obtain ⟨_, _, vs, _, dd⟩ := dk_rd I.hok e
    exact dd.typeIs
  · obtain ⟨_, _, xs, _, dd⟩ := dt_rd I.hok e
    exact dd.typeIs
def tDGet (td ty : TE) : TE := fun σ H Q => td σ H fun x H1 => ty σ H1 fun y H2 => ∃ a v, x = .ref a ∧ DGet H2 a y (some v) ∧ Q v H2
def sDPut (td ty tv : TE) : TS := fun D σ H => tv σ H fun v H1 => td σ H1 fun x H2 => ty σ H2 fun y H3 => ∃ a H4, x = .ref a ∧ DPut H3 a y v H4 ∧ D.nx σ H4
section
variable {X : Cx} {o i e value : Expr} {pos pos' tpos : Pos} {td ty tv : TE}
theorem pe_dget (hu : X.A.units + 1 < cLine) (ho : PE X o td) (hi : PE X i ty) (hs : NoSl i) : PE X (.Subscript o i pos) (tDGet td ty) := by
  intro pins s σ H Q I h
  refine subD_of PySem.F.slot_dict_getitem.lookup hs (thn (ho pins s σ H _ I h) fun u s1 ⟨x, H1, I1, rx, q1⟩ => thn (hi pins s1 σ H1 _ I1 q1) fun iv s2 ⟨y, H2, I2, ry, a, v, ex, g, q2⟩ => ?_)
  subst ex
  obtain rfl : u = Value.ref a := rx
  exact ⟨dict_typeIs I2 g, d_getItem hu I2 g ry fun w' s3 I3 rw' => ⟨v, H2, I3, rw', q2⟩⟩
theorem ps_dput (hu : X.A.units + 1 < cLine) (ho : PE X o td) (hi : PE X i ty) (hv : PE X value tv) (hs : swapsWith value (some (.Subscript o i pos')) pos.line X.env = pure false) :
    PS X (.Assign [.Subscript o i pos'] value pos) (sDPut td ty tv) := by
  intro pins s σ H D I h
  refine wpAny_Assign_Subscript (thn (hv pins s σ H _ I h) fun r s1 ⟨v, H1, I1, rv, q1⟩ => thn (ho pins s1 σ H1 _ I1 q1) fun u s2 ⟨x, H2, I2, rx, q2⟩ => thn (hi pins s2 σ H2 _ I2 q2) fun iv s3 ⟨y, H3, I3, ry, a, H4, ex, g, q3⟩ => ?_) hs
  subst ex
  obtain rfl : u = Value.ref a := rx
  exact d_setItem hu I3 g ry rv fun s4 I4 => ⟨σ, H4, I4, q3⟩
end
theorem dk_empty {P : Program} {w : World} {H : Hp} (h : Heap) (hb : sysModules < h.objs.size) : ObjOk P w H (h.push { cls := .type "dict", data := .dict #[] }) h.objs.size (.dK []) :=
  ⟨Nat.zero_le _, beq_eq_false_iff_ne.mpr (Ne.symm (Nat.ne_of_lt hb)), [], .nil, Heap.DictOf.new h⟩
def tDNewK : TE := fun _ H Q => ∀ p, H p = none → Q (.ref p) (upd H p (.dK []))
section
variable {X : Cx} {pos : Pos}
theorem pe_dnewK : PE X (.Dict [] [] pos) tDNewK := fun pins s σ H Q I h =>
  wpAny_Dict_empty ⟨.ref s.heap.objs.size, _, I.laid (a := s.heap.objs.size) (o := .dK []) (t' := s.toks) (fun _ _ q => Heap.get?_push_of_some _ q) (Nat.le_refl _) (dk_empty s.heap I.big), rfl, h _ (I.hok.fresh (Nat.le_refl _))⟩
end
def tPairs : List (TE × TE) → St → Hp → (List (V × V) → Hp → Prop) → Prop
  | [], _, H, Q => Q [] H
  | (tk, tv) :: r, σ, H, Q => tk σ H fun x H1 => tv σ H1 fun y H2 => tPairs r σ H2 fun ps H3 => Q ((x, y) :: ps) H3
abbrev VV : List (V × V) → List (Value × Value) → Prop := Paired fun p q => RelV p.1 q.1 ∧ RelV p.2 q.2
def PPs (X : Cx) (pos : Pos) (keys : List (Option Expr)) (values : List Expr) (trs : List (TE × TE)) : Prop :=
  ∀ (pins : List (Addr × Obj)) (s : Shared) (σ : St) (H : Hp) (Q : List (V × V) → Hp → Prop), Inv X pins σ H s → tPairs trs σ H Q →
    wpAny (model X.prog X.w) X.A (evalPairs (pairTrees keys values X.env pos)) (fun vs s' => ∃ ps H', Inv X pins σ H' s' ∧ VV ps vs ∧ Q ps H') X.xe s
theorem pps_nil {X : Cx} {pos : Pos} : PPs X pos [] [] [] := fun pins s σ H Q I h => pairTrees_nil_walk ⟨[], H, I, .nil, h⟩
theorem pps_cons {X : Cx} {pos : Pos} {k v : Expr} {ks : List (Option Expr)} {vs : List Expr} {tk tv : TE} {trs : List (TE × TE)} (hk : PE X k tk) (hv : PE X v tv) (hr : PPs X pos ks vs trs) :
    PPs X pos (some k :: ks) (v :: vs) ((tk, tv) :: trs) := fun pins s σ H Q I h =>
  pairTrees_cons_walk (thn (hk pins s σ H _ I h) fun u s1 ⟨x, H1, I1, rx, q1⟩ => thn (hv pins s1 σ H1 _ I1 q1) fun w2 s2 ⟨y, H2, I2, ry, q2⟩ =>
    thn (hr pins s2 σ H2 _ I2 q2) fun ws s3 ⟨ps, H3, I3, rel, q3⟩ => ⟨(x, y) :: ps, H3, I3, .cons ⟨rx, ry⟩ rel, q3⟩)
def mergeK (kvs more : List (Key × V)) : List (Key × V) := more.foldl (fun acc kv => putK acc kv.1 kv.2) kvs
theorem KV.merge : ∀ {more : List (Key × V)} {rs : List (Key × Value)} {kvs : List (Key × V)} {vs : List (Key × Value)}, KV more rs → KV kvs vs → KV (mergeK kvs more) (merged vs rs) := by
  intro more rs kvs vs r
  unfold KV at r
  induction r generalizing kvs vs with
  | nil => intro q; exact q
  | @cons p q ps qs h t ih =>
    intro r0
    have e : KV (putK kvs p.1 p.2) (stored vs q.1 q.2) := by
      have := r0.put p.1 h.2
      rw [← h.1]; exact this
    exact ih e
theorem length_mergeK : ∀ (more kvs : List (Key × V)), (mergeK kvs more).length ≤ kvs.length + more.length
  | [], kvs => by show kvs.length ≤ kvs.length + 0; omega
  | p :: r, kvs => by
    have h1 := length_mergeK r (putK kvs p.1 p.2)
    have h2 := length_putK kvs p.1 p.2
    show (mergeK (putK kvs p.1 p.2) r).length ≤ _
    rw [List.length_cons]; omega
theorem carries_of {P : Program} {w : World} : ∀ {kvs : List (Key × V)} {ws : List (Value × Value)}, VV (kvs.map fun kv => (kV kv.1, kv.2)) ws → ∃ rs, Carries (mixKind P w) ws rs ∧ KV kvs rs
  | [], _, r => by rw [List.map_nil] at r; cases r; exact ⟨[], True.intro, .nil⟩
  | p :: kvs, _, r => by
    rw [List.map_cons] at r
    cases r with
    | @cons a b as bs h t =>
      obtain ⟨rs, c, q⟩ := carries_of (P := P) (w := w) t
      obtain ⟨b1, b2⟩ := b
      exact ⟨(p.1, b2) :: rs, ⟨kV_is h.1, rfl, c⟩, .cons ⟨rfl, h.2⟩ q⟩
def tDisp (trs : List (TE × TE)) : TE := fun σ H Q => ∀ p, H p = none → tPairs trs σ (upd H p (.dK [])) fun ps H2 => H2 p = some (.dK []) ∧ ∃ kvs : List (Key × V), ps = kvs.map (fun kv => (kV kv.1, kv.2)) ∧ kvs.length ≤ 15 ∧ Q (.ref p) (upd H2 p (.dK (mergeK [] kvs)))
theorem pe_disp {X : Cx} {pos : Pos} {keys : List (Option Expr)} {values : List Expr} {trs : List (TE × TE)} (h : PPs X pos keys values trs) (hall : keys.all (·.isSome) = true) (hl : keys.length = values.length) (h0 : keys ≠ [])
    (h15 : keys.length ≤ 15) : PE X (.Dict keys values pos) (tDisp trs) := by
  intro pins s σ H Q I q
  have hn := I.hok.fresh (Nat.le_refl s.heap.objs.size)
  have I1 := I.laid (a := s.heap.objs.size) (o := .dK []) (h' := s.heap.push { cls := .type "dict", data := .dict #[] }) (t' := s.toks) (fun _ _ q => Heap.get?_push_of_some _ q) (Nat.le_refl _) (dk_empty s.heap I.big)
  refine wpAny_Dict_walk (knd := mixKind X.prog X.w) hall hl h0 h15 (thn (h pins _ σ _ _ I1 (q _ hn)) fun ws s2 ⟨ps, H2, I2, rel, e, kvs, ep, lk, q2⟩ => ?_)
  subst ep
  obtain ⟨rs, c, rk⟩ := carries_of (P := X.prog) (w := X.w) rel
  obtain ⟨z, hd, vs0, r0, dd⟩ := dk_of I2.hok e
  cases r0
  refine ⟨rs, c, dd, fun h' dd' hs => ⟨.ref s.heap.objs.size, _, ?_, rfl, q2⟩⟩
  have hz : (mergeK [] kvs).length ≤ sizeLine := by
    have h1 := length_mergeK kvs []
    rw [List.length_nil] at h1
    rw [sizeLine_eq]; omega
  have he : ∃ q, h'.get? s.heap.objs.size = some q := let ⟨q, _, _, hq, _⟩ := dd'; ⟨q, hq⟩
  exact d_write I2 (by rw [e]; exact True.intro) hs he (dk_new hz hd (rk.merge .nil) dd')
structure M2 (X : Cx) (o : Expr) (m : Str) (apos : Pos) (e f : Expr) (cpos : Pos) : Prop where
  base : attributeBase o m X.env (eval o X.env) = eval o X.env
  few : ((backTo cpos (starEach [e, f] X.env)).all (fun x => !x.1) && (backToKw cpos (keywordEach [] X.env)).all (fun x => x.1.isSome)
    && decide (([e, f] : List Expr).length + ([] : List Keyword).length + (if ([] : List Keyword).isEmpty then 0 else 1) < 30)) = true
  line : (apos.endLine == cpos.line) = true
  trees : backTo cpos (starEach [e, f] X.env) = [(false, eval e X.env), (false, eval f X.env)]
def IsD (H : Hp) (a : Addr) : Prop := (∃ kvs, Rd H a (.dK kvs)) ∨ ∃ kvs, Rd H a (.dT kvs)
theorem isD_at {X : Cx} {pins : List (Addr × Obj)} {σ : St} {H : Hp} {s : Shared} {a : Addr} (I : Inv X pins σ H s) (d : IsD H a) :
    s.TypeIs (.ref a) "dict" ∧ (∀ b, Value.ref a = .ref b → ∃ ob, s.heap.get? b = some ob ∧ ob.dict = none) ∧ (a == sysModules) = false := by
  rcases d with ⟨kvs, e⟩ | ⟨kvs, e⟩
  · obtain ⟨_, hd, vs, _, dd⟩ := dk_rd I.hok e
    refine ⟨dd.typeIs, fun b q => ?_, hd⟩
    cases q
    obtain ⟨ob, _, _, h1, h2, _⟩ := dd
    exact ⟨ob, h1, h2.2.1⟩
  · obtain ⟨_, hd, xs, _, dd⟩ := dt_rd I.hok e
    refine ⟨dd.typeIs, fun b q => ?_, hd⟩
    cases q
    obtain ⟨ob, _, _, h1, h2, _⟩ := dd
    exact ⟨ob, h1, h2.2.1⟩
section
variable {X : Cx} {pins : List (Addr × Obj)} {σ : St} {H : Hp} {s : Shared} {a : Addr} {y d : V} {u r : Value} {o : Option V} {A : Around} {E : Value → Shared → Prop}
theorem d_get2 {Q : Value → Shared → Prop} (hu : A.units + 1 < cLine) (I : Inv X pins σ H s) (g : DGet H a y o) (ry : RelV y u) (rd : RelV d r) (h : ∀ w' s', Inv X pins σ H s' → RelV (o.getD d) w' → Q w' s') :
    wpAny (model X.prog X.w) A (call (.builtin "dict.get") [.ref a, u, r]) Q E s := by
  rcases g with ⟨kvs, k, e, ey, l⟩ | ⟨kvs, k, b, e, ey, eb, l⟩
  · subst ey
    obtain ⟨z, hd, vs, rel, dd⟩ := dk_rd I.hok e
    refine call_meetsIn PySem.F.slot_dict_get dd.typeIs PySem.F.entry_dict_get (PySem.F.args_dict_get_3 _ _ _) (meets_dict_get_default (mixKind X.prog X.w) a (kV_is ry) hd r) ⟨_, dd.mapOf, h _ _ (I.tok _) ?_⟩
    rw [l]
    exact (rel.val k).getD rd
  · subst ey
    cases (show u = Value.ref b from ry)
    obtain ⟨z, hd, xs, rel, dd⟩ := dt_rd I.hok e
    refine call_meetsIn PySem.F.slot_dict_get dd.typeIs PySem.F.entry_dict_get (PySem.F.args_dict_get_3 _ _ _) (meetsH_dict_get_default (tupleKind (mixKind X.prog X.w)) a b hd r) ⟨tupleKind_room_in1 hu, k, xs, key_of I.hok eb, dd, h _ _ (I.tok _) ?_⟩
    rw [l]
    exact (rel.val k).getD rd
end
def tDGet2 (td ty tx : TE) : TE := fun σ H Q => td σ H fun x H1 => ∃ a, x = .ref a ∧ IsD H1 a ∧ ty σ H1 fun y H2 => tx σ H2 fun z H3 => ∃ o, DGet H3 a y o ∧ Q (o.getD z) H3
section
variable {X : Cx} {o e f : Expr} {apos cpos : Pos} {td ty tx : TE}
theorem pe_dget2 (hu : X.A.units + 1 < cLine) (ho : PE X o td) (he : PE X e ty) (hf : PE X f tx) (m : M2 X o "get" apos e f cpos) : PE X (.Call (.Attribute o "get" apos) [e, f] [] cpos) (tDGet2 td ty tx) := by
  intro pins s σ H Q I h
  refine wpAny_Call_method m.base m.few m.line PySem.F.plainAttrs_dict PySem.F.slot_dict_get PySem.F.type_dict_get (thn (ho pins s σ H _ I h) fun u s1 ⟨x, H1, I1, rx, a, ex, d, q1⟩ => ?_)
  subst ex
  obtain rfl : u = Value.ref a := rx
  obtain ⟨t1, t2, _⟩ := isD_at I1 d
  refine ⟨t1, t2, ?_⟩
  rw [m.trees]
  refine Calls.callWith_builtin rfl (Calls.evalArgs_plain (Calls.spliced_cons (thn (he pins s1 σ H1 _ I1 q1) fun iv s2 ⟨y, H2, I2, ry, q2⟩ =>
    Calls.spliced_cons (thn (hf pins s2 σ H2 _ I2 q2) fun fv s3 ⟨z, H3, I3, rz, ov, g, q3⟩ => Calls.spliced_nil ?_))))
  exact d_get2 hu I3 g ry rz fun w' s4 I4 rw' => ⟨_, H3, I4, rw', q3⟩
end
section
variable {X : Cx} {pins : List (Addr × Obj)} {σ : St} {H : Hp} {s : Shared} {a : Addr} {kvs : List (Key × V)} {A : Around} {E : Value → Shared → Prop}
end
section
variable {X : Cx} {pins : List (Addr × Obj)} {σ : St} {H : Hp} {s : Shared} {a : Addr} {y : V} {u : Value} {A : Around} {E : Value → Shared → Prop}
end
end L2
namespace L2
open PySem PySem.Spec PyProof.Rows
structure KD (w : World) (K : PySem.W.Frag) (R : Addr) (kvs : List (Key × V)) : Prop where
  ex : ∃ (o : Obj) (es : Array DictEntry) (ep : Nat) (vs : List (Key × Value)), K.lookup R = some o ∧ o.ExactDict ∧ o.data = .dict es ep ∧ (∀ P, KeysOf (mixKind P w) es) ∧ (∀ P, Pairs (mixKind P w) es.toList vs) ∧ (vs.map (·.1)).Nodup ∧ KV kvs vs
  sm : (R == sysModules) = false
section
variable {X : Cx} {R : Addr} {kvs : List (Key × V)}
theorem KD.at {pins : List (Addr × Obj)} {σ : St} {H : Hp} {s : Shared} (d : KD X.w X.K R kvs) (I : Inv X pins σ H s) : ∃ vs, KV kvs vs ∧ s.heap.DictOf (mixKind X.prog X.w) R vs := by
  obtain ⟨o, es, ep, vs, lk, e1, e2, k1, k2, nd, rel⟩ := d.ex
  exact ⟨vs, rel, o, es, ep, I.kIn _ _ lk, e1, e2, k1 _, k2 _, nd⟩
def rKIx (R : Addr) (kvs : List (Key × V)) : R2 := fun x y H Q => x = .ref R ∧ ∃ k v, y = kV k ∧ valV kvs k = some v ∧ Q v H
def rKIn (ne : Bool) (R : Addr) (kvs : List (Key × V)) : R2 := fun x y H Q => y = .ref R ∧ ∃ k, x = kV k ∧ Q (.bl (if ne then !(valV kvs k).isSome else (valV kvs k).isSome)) H
theorem op_notInK (d : KD X.w X.K R kvs) : OpR X (compareOp .NotIn) (rKIn true R kvs) := by
  rintro pins s σ H x y v u Q I rx ry ⟨rfl, k, rfl, q⟩
  obtain rfl : u = Value.ref R := ry
  obtain ⟨vs, rel, dd⟩ := d.at I
  refine wpAny_notIn_of (kV_is rx) d.sm dd.mapOf ?_
  rw [← (rel.val k).isSome_eq]
  exact ⟨.bl (!(valV kvs k).isSome), H, I.tok _, rfl, by simpa using q⟩
def tKIx (R : Addr) (kvs : List (Key × V)) (td ty : TE) : TE := fun σ H Q => td σ H fun x H1 => ty σ H1 fun y H2 => rKIx R kvs x y H2 Q
theorem pe_kix {o i : Expr} {td ty : TE} {pos : Pos} (d : KD X.w X.K R kvs) (ho : PE X o td) (hi : PE X i ty) (hs : NoSl i) : PE X (.Subscript o i pos) (tKIx R kvs td ty) := by
  intro pins s σ H Q I h
  refine subD_of PySem.F.slot_dict_getitem.lookup hs (thn (ho pins s σ H _ I h) fun u s1 ⟨x, H1, I1, rx, q1⟩ => thn (hi pins s1 σ H1 _ I1 q1) fun iv s2 ⟨y, H2, I2, ry, ex, k, v, ey, l, q2⟩ => ?_)
  subst ex ey
  obtain rfl : u = Value.ref R := rx
  obtain ⟨vs, rel, dd⟩ := d.at I2
  obtain ⟨w', hw, rw'⟩ := RelO.some_of (v := v) (o := valueAt vs k) (by rw [← l]; exact rel.val k)
  exact ⟨dd.typeIs, wpAny_getItem_of (kV_is ry) dd.mapOf hw ⟨v, H2, I2.tok _, rw', q2⟩⟩
end
end L2
namespace L2
open PySem PySem.Spec PyProof.Rows
section
variable {prog : Program} {w : World} {A : Around} {E : Value → Shared → Prop} {s : Shared}
theorem nx_str {it : Addr} {z : Str} {zt : Tok} {i c : Nat} {Q : Value → Shared → Prop} (p : s.heap.IsStrIter it "str_ascii_iterator" z zt i) (e : z.cps[i]? = some c)
    (k : ∀ h', h'.IsStrIter it "str_ascii_iterator" z zt (i + 1) → Heap.SameBut it s.heap h' → Q (.str ⟨#[c]⟩ s.toks) { s with heap := h', toks := s.toks + 1 }) : wpAny (model prog w) A (Builtin.SmallTypes.nextOf (.ref it)) Q E s := by
  obtain ⟨oi, p1, p2, p3⟩ := id p
  unfold Builtin.SmallTypes.nextOf
  refine wpAny_bind (wpAny_callSpecial?_slot (name := Str.ofString "__next__") p.typeIs PySem.F.slot_str_ascii_iterator_next (wpAny_call_entry PySem.F.slot_str_ascii_iterator_next p.typeIs PySem.F.entry_str_ascii_iterator_next ?_ (PySem.F.args_str_ascii_iterator_next_1 _)))
  refine wpAny_bind (m := field (.ref it) 0) (wpAny_field p1 p3 (x := .str z zt) rfl ?_)
  refine wpAny_bind (m := field (.ref it) 1) (wpAny_field p1 p3 (x := .int i 0) rfl ?_)
  simp only [Int.toNat_natCast, e]
  refine wpAny_bind (wpAny_setField p1 p3 (by simp) (wpAny_bind (wpAny_mkStr (wpAny_pure ⟨_, rfl, wpAny_pure (k _ ⟨_, Heap.get?_update_self _ p1 (Obj.isFreed_of_fields (Obj.data_mapFields p3 _)), (Obj.cls_mapFields ..).trans p2, ?_⟩ (Heap.SameBut.update ..))⟩) (by show 1 ≤ sizeLine; decide))))
  rw [Obj.data_mapFields p3]; simp [rawInt]
theorem nx_str_end {it : Addr} {z : Str} {zt : Tok} {i : Nat} {Q : Value → Shared → Prop} (hh : A.handled = none) (p : s.heap.IsStrIter it "str_ascii_iterator" z zt i) (e : z.cps[i]? = none)
    (k : ∀ h' x, Heap.ExtBut it s.heap h' → (∃ o, h'.get? x = some o ∧ o.cls = .type "StopIteration") → E (.ref x) { s with heap := h' }) : wpAny (model prog w) A (Builtin.SmallTypes.nextOf (.ref it)) Q E s := by
  obtain ⟨oi, p1, p2, p3⟩ := id p
  unfold Builtin.SmallTypes.nextOf
  refine wpAny_bind (wpAny_callSpecial?_slot (name := Str.ofString "__next__") p.typeIs PySem.F.slot_str_ascii_iterator_next (wpAny_call_entry PySem.F.slot_str_ascii_iterator_next p.typeIs PySem.F.entry_str_ascii_iterator_next ?_ (PySem.F.args_str_ascii_iterator_next_1 _)))
  refine wpAny_bind (m := field (.ref it) 0) (wpAny_field p1 p3 (x := .str z zt) rfl ?_)
  refine wpAny_bind (m := field (.ref it) 1) (wpAny_field p1 p3 (x := .int i 0) rfl ?_)
  simp only [Int.toNat_natCast, e]
  refine wpAny_bind (wpAny_rule (wpAny_bind (wpAny_setField p1 p3 (by simp) ?_)))
  refine wpAny_bind (m := newExc (.type "StopIteration") []) ?_
  simp only [newExc, newTuple]
  refine wpAny_bind (wpAny_newObj_type ?_ (by size_fits))
  refine wpAny_bind (m := firstArgMember _ _) (wpAny_of_eq (a := Value.none) (by first | rfl | (simp only [firstArgMember]; rfl)) ?_)
  refine wpAny_newObj_type ?_ (by size_fits)
  simp only [raiseNew]
  refine wpAny_bind (wpAny_handled ?_)
  first | rw [show A.in1.handled = none from hh] | rw [hh]
  exact wpAny_bind (wpAny_pure (wpAny_throw (k _ _ (((Heap.SameBut.update ..).extBut.push _).push _) ⟨_, Heap.get?_push_size _ rfl, rfl⟩)))
theorem es_item {e it : Addr} {i c : Nat} {z : Str} {zt : Tok} {old : Value} {Q : Option Value → Shared → Prop} (ye : IsEnum s.heap e it i old) (yi : s.heap.IsStrIter it "str_ascii_iterator" z zt i) (yx : z.cps[i]? = some c) (ne : e ≠ it)
    (k : ∀ h', IsEnumOut h' e it ((i : Int) + 1) (.str ⟨#[c]⟩ s.toks) s.heap.objs.size → h'.IsStrIter it "str_ascii_iterator" z zt (i + 1) → h'.get? s.heap.objs.size = some { cls := .type "tuple", data := .seq #[.int i (s.toks + 1), .str ⟨#[c]⟩ s.toks] } →
      (∀ b o, b ≠ e → b ≠ it → s.heap.get? b = some o → h'.get? b = some o) → Q (some (.ref s.heap.objs.size)) { s with heap := h', toks := s.toks + 1 + 1 }) : wpAny (model prog w) A (pyNext (.ref e)) Q E s := by
  have ty : s.TypeIs (.ref e) "enumerate" := ⟨_, ye, rfl⟩
  obtain ⟨g0, gs, dr, tk, os⟩ := s
  unfold pyNext
  refine wpAny_bind (wpAny_attempt (wpAny_callSpecial?_slot (name := Str.ofString "__next__") ty PySem.F.slot_enumerate_next (wpAny_call_entry PySem.F.slot_enumerate_next ty PySem.F.entry_enumerate_next ?_ (PySem.F.args_enumerate_next_1 _))))
  refine wpAny_bind (m := field (.ref e) 2) (wpAny_field ye rfl (x := .ref it) rfl (wpAny_bind (nx_str yi yx fun g1 yi1 b1 => ?_)))
  have b1 : Heap.SameBut it g0 g1 := b1
  have ye1 : IsEnum g1 e it i old := (b1.2 e ne).trans ye
  refine wpAny_bind (m := field (.ref e) 3) (wpAny_field ye1 rfl (x := rawInt i) rfl ?_)
  refine wpAny_bind (m := field (.ref e) 4) (wpAny_field ye1 rfl (x := .none) rfl ?_)
  refine wpAny_bind (m := mkInt (i : Int)) (wpAny_mkInt ?_)
  refine wpAny_bind (m := setField (.ref e) 3 (rawInt ((i : Int) + 1))) (wpAny_setField_rec ye1 (by simp) fun g2 ye2 b2 => ?_)
  have b2 : Heap.SameBut e g1 g2 := b2
  have ye2 : IsEnum g2 e it ((i : Int) + 1) old := ye2
  refine wpAny_bind (m := setField (.ref e) 4 .none) (wpAny_setField_rec ye2 (by simp) fun g3 ye3 b3 => ?_)
  have b3 : Heap.SameBut e g2 g3 := b3
  have ye3 : IsEnum g3 e it ((i : Int) + 1) old := ye3
  refine wpAny_bind (m := newTuple [.int i (tk + 1), .str ⟨#[c]⟩ tk]) (wpAny_newTuple ?_)
  have sz : g3.objs.size = g0.objs.size := by rw [b3.1, b2.1, b1.1]
  have el : e < g0.objs.size := Heap.lt_size ye
  have yi3 : g3.IsStrIter it "str_ascii_iterator" z zt (i + 1) := let ⟨o, q, r⟩ := yi1; ⟨o, b3.extBut _ _ (Ne.symm ne) (b2.extBut _ _ (Ne.symm ne) q), r⟩
  have k3 : ∀ b o, b ≠ e → b ≠ it → g0.get? b = some o → g3.get? b = some o := fun b o z1 z2 z => b3.extBut b o z1 (b2.extBut b o z1 (b1.extBut b o z2 z))
  have ye4 : IsEnum (g3.push { cls := .type "tuple", data := .seq #[.int i (tk + 1), .str ⟨#[c]⟩ tk] }) e it ((i : Int) + 1) old := Heap.get?_push_of_some _ ye3
  have t4 : (g3.push { cls := .type "tuple", data := .seq #[.int i (tk + 1), .str ⟨#[c]⟩ tk] }).get? g0.objs.size = some { cls := .type "tuple", data := .seq #[.int i (tk + 1), .str ⟨#[c]⟩ tk] } := by rw [← sz]; exact Heap.get?_push_size _ rfl
  have yi4 : (g3.push { cls := .type "tuple", data := .seq #[.int i (tk + 1), .str ⟨#[c]⟩ tk] }).IsStrIter it "str_ascii_iterator" z zt (i + 1) := let ⟨o, z, r⟩ := yi3; ⟨o, Heap.get?_push_of_some _ z, r⟩
  have k4 : ∀ b o, b ≠ e → b ≠ it → g0.get? b = some o → (g3.push { cls := .type "tuple", data := .seq #[.int i (tk + 1), .str ⟨#[c]⟩ tk] }).get? b = some o := fun b o z1 z2 z => Heap.get?_push_of_some _ (k3 b o z1 z2 z)
  rw [sz]
  generalize g3.push { cls := .type "tuple", data := .seq #[.int i (tk + 1), .str ⟨#[c]⟩ tk] } = g4 at ye4 t4 yi4 k4 ⊢
  refine wpAny_bind (m := Builtin.SmallTypes.ownedTupleIsFree (.ref e)) ?_
  unfold Builtin.SmallTypes.ownedTupleIsFree
  refine wpAny_bind (wpAny_field ye4 rfl (x := .none) rfl (wpAny_pure ?_))
  simp only [if_true]
  refine wpAny_bind (wpAny_rule (wpAny_bind (wpAny_field ye4 rfl (x := old) rfl (wpAny_bind (wpAny_setField_rec ye4 (by simp) fun g5 ye5 b5 => ?_)))))
  have b5 : Heap.SameBut e g4 g5 := b5
  have ye5 : IsEnum g5 e it ((i : Int) + 1) (.str ⟨#[c]⟩ tk) := ye5
  refine wpAny_bind (m := Builtin.SmallTypes.ownedTupleHandOut (.ref e) (.ref g0.objs.size)) ?_
  unfold Builtin.SmallTypes.ownedTupleHandOut
  refine wpAny_bind (wpAny_setField_rec ye5 (by simp) fun g6 ye6 b6 => ?_)
  have b6 : Heap.SameBut e g5 g6 := b6
  have ye6 : IsEnumOut g6 e it ((i : Int) + 1) (.str ⟨#[c]⟩ tk) g0.objs.size := ye6
  refine wpAny_setField_rec ye6 (by simp) fun g7 ye7 b7 => ?_
  have b7 : Heap.SameBut e g6 g7 := b7
  have b57 : ∀ b o, b ≠ e → g4.get? b = some o → g7.get? b = some o := fun b o z1 z => b7.extBut b o z1 (b6.extBut b o z1 (b5.extBut b o z1 z))
  refine wpAny_bind (wpAny_letGo (wpAny_pure ⟨_, rfl, wpAny_pure (k g7 ye7 ?_ (b57 _ _ (Nat.ne_of_gt el) t4) fun b o z1 z2 z => b57 b o z1 (k4 b o z1 z2 z))⟩))
  obtain ⟨o, z, r⟩ := yi4
  exact ⟨o, b57 it o (Ne.symm ne) z, r⟩
theorem es_end {e it : Addr} {i : Nat} {z : Str} {zt : Tok} {old : Value} {Q : Option Value → Shared → Prop} (hh : A.handled = none) (ye : IsEnum s.heap e it i old) (yi : s.heap.IsStrIter it "str_ascii_iterator" z zt i) (yx : z.cps[i]? = none)
    (k : ∀ h', Heap.ExtBut it s.heap h' → Q none { s with heap := h' }) : wpAny (model prog w) A (pyNext (.ref e)) Q E s := by
  have ty : s.TypeIs (.ref e) "enumerate" := ⟨_, ye, rfl⟩
  unfold pyNext
  refine wpAny_bind (wpAny_attempt (wpAny_callSpecial?_slot (name := Str.ofString "__next__") ty PySem.F.slot_enumerate_next (wpAny_call_entry PySem.F.slot_enumerate_next ty PySem.F.entry_enumerate_next ?_ (PySem.F.args_enumerate_next_1 _))))
  refine wpAny_bind (m := field (.ref e) 2) (wpAny_field ye rfl (x := .ref it) rfl (wpAny_bind (nx_str_end hh yi yx fun h' x z ⟨o, ho, hc⟩ => ?_)))
  exact wpAny_bind (wpAny_isInstance (T := "StopIteration") (b := true) ⟨o, ho, hc⟩ isSubtype_stop (wpAny_pure (k _ z)))
end
def itS (z : Str) (zt : Tok) : Obj := { cls := .type "str_ascii_iterator", data := .fields #[.str z zt, .int 0 0] }
theorem meets_enS (z : Str) (zt : Tok) (ha : z.cps.all (· < 128) = true) :
    Meets (Builtin.«enumerate.__new__» ⟨[.type "enumerate", .str z zt], []⟩) (fun _ R s => R (.ok (.ret (.ref (s.heap.push (itS z zt)).objs.size))) { s with heap := (s.heap.push (itS z zt)).push (enO s.heap.objs.size) }) :=
  .of_wp fun prog w A R s h => by
    obtain ⟨g0, gs, dr, tk, os⟩ := s
    have sub := sub_enumerate
    wp_walk
    refine wpAny_stack_any fun st => wpAny_pure ?_
    split
    · rename_i c _ _ _ _ _
      cases (c == Value.type "enumerate") <;> (wp_walk using wpAny_pyIter_ascii ha; exact ⟨_, rfl, h⟩)
    · wp_walk using wpAny_pyIter_ascii ha
      exact ⟨_, rfl, h⟩
section
variable {prog : Program} {w : World} {A : Around} {E : Value → Shared → Prop} {s : Shared}
theorem call_enS {z : Str} {zt : Tok} {Q : Value → Shared → Prop} (ha : z.cps.all (· < 128) = true)
    (k : ∀ h', IsEnum h' (s.heap.objs.size + 1) s.heap.objs.size 0 .none → h'.IsStrIter s.heap.objs.size "str_ascii_iterator" z zt 0 → (∀ b o, s.heap.get? b = some o → h'.get? b = some o) → Q (.ref (s.heap.objs.size + 1)) { s with heap := h' }) :
    wpAny (model prog w) A (call (.type "enumerate") [.str z zt]) Q E s := by
  refine callType_new PySem.F.called_enumerate (by decide) (PySem.F.typeCall_enumerate_1 _) (PySem.F.newCall_enumerate_1 _) (fun obj => PySem.F.args_object_init_2 obj _) PySem.F.entry_enumerate_new (meets_enS z zt ha) ?_
  have hz : (s.heap.push (itS z zt)).objs.size = s.heap.objs.size + 1 := Heap.size_push ..
  have ye : IsEnum ((s.heap.push (itS z zt)).push (enO s.heap.objs.size)) (s.heap.objs.size + 1) s.heap.objs.size 0 .none := by
    rw [← hz]
    exact Heap.get?_push_size _ rfl
  show _ ∧ _
  rw [hz]
  exact ⟨⟨_, ye, rfl⟩, k _ ye ⟨_, Heap.get?_push_of_some _ (Heap.get?_push_size _ rfl), rfl, rfl⟩ fun b o q => Heap.get?_push_of_some _ (Heap.get?_push_of_some _ q)⟩
end
def Itn (z : Str) : It := ⟨fun i _ => i < z.cps.size, fun i H v H' => ∃ p, v = .ref p ∧ H p = none ∧ ∀ c, z.cps[i]? = some c → H' = upd H p (.tup [.int i, .str ⟨#[c]⟩]), fun i _ => z.cps.size ≤ i⟩
theorem turn_enS {P : Program} {w : World} {K : PySem.W.Frag} {es : List Expr} {y1 : Nat} {tp : Pos} (z : Str) (zt : Tok) (e it : Addr) (ne : e ≠ it) : Turn P w K (.Tuple es y1 tp) (Itn z) [e, it] e (fun i h => (∃ old, IsEnum h e it i old) ∧ h.IsStrIter it "str_ascii_iterator" z zt i) where
  mem := by simp
  obj := fun i h st b hb => by
    simp only [List.mem_cons, List.not_mem_nil, or_false] at hb
    rcases hb with rfl | rfl
    · obtain ⟨⟨old, q⟩, _⟩ := st
      exact ⟨_, q, fun v q => by cases (show Data.fields _ = Data.cell v from q)⟩
    · obtain ⟨_, o, q, c, d⟩ := st
      exact ⟨o, q, fun v q => by rw [d] at q; cases q⟩
  keep := fun i h h' st k => by
    obtain ⟨⟨old, q⟩, o, y, r⟩ := st
    exact ⟨⟨old, k e (by simp) _ q⟩, o, k it (by simp) _ y, r⟩
  item := by
    intro X hP hw hK hc i pins s σ H E I hf st hg
    subst hP hw hK
    have hi : i < z.cps.size := hg
    obtain ⟨⟨old, ye⟩, yi⟩ := st
    refine es_item ye yi (c := z.cps[i]) (by simp [hi]) ne fun h1 yo yi1 yt k1 => ⟨_, rfl, ?_⟩
    refine wpAny_letOwnedTupleGo_enum yo fun h2 ye2 b2 => ?_
    have b2 : Heap.SameBut e h1 h2 := b2
    have tn : e ≠ s.heap.objs.size := Nat.ne_of_lt (Heap.lt_size ye)
    have fr : H s.heap.objs.size = none := I.hok.fresh (Nat.le_refl _)
    have yt2 : h2.get? s.heap.objs.size = some { cls := .type "tuple", data := .seq #[.int i (s.toks + 1), .str ⟨#[z.cps[i]]⟩ s.toks] } := b2.extBut _ _ (Ne.symm tn) yt
    have I2 : Inv X pins σ (upd H s.heap.objs.size (.tup [.int i, .str ⟨#[z.cps[i]]⟩])) { s with heap := h2, toks := s.toks + 1 + 1 } :=
      I.turnLaid (fun b o z1 z2 q => b2.extBut b o z1 (k1 b o z1 z2 q)) (hf e (by simp)) (hf it (by simp)) fr (Heap.get?_none_of_le (Nat.le_refl _))
        ⟨sz_le 2 (by decide), [.int i (s.toks + 1), .str ⟨#[z.cps[i]]⟩ s.toks], .cons ⟨_, rfl⟩ (.cons ⟨_, rfl⟩ .nil), ⟨_, yt2, rfl, _, rfl⟩⟩
    have hit : it ≠ s.heap.objs.size := by
      obtain ⟨o, q, _⟩ := yi
      exact Nat.ne_of_lt (Heap.lt_size q)
    refine ⟨.ref s.heap.objs.size, _, I2, rfl, ⟨_, rfl, fr, fun c hc' => ?_⟩, ⟨⟨_, ye2⟩, let ⟨o, q, r⟩ := yi1; ⟨o, b2.extBut _ _ (Ne.symm ne) q, r⟩⟩, fun b hb => ?_⟩
    · rw [Array.getElem?_eq_getElem hi] at hc'
      cases hc'
      rfl
    · have h0 := (hf b hb).1
      simp only [List.mem_cons, List.not_mem_nil, or_false] at hb
      rcases hb with rfl | rfl
      · rw [upd_ne tn]; exact h0
      · rw [upd_ne hit]; exact h0
  done := by
    intro X hP hw hK hc i pins s σ H E I hf st hg
    subst hP hw hK
    have hi : z.cps.size ≤ i := hg
    obtain ⟨⟨old, ye⟩, yi⟩ := st
    obtain ⟨f0, f1, f2, f3, f4, f5⟩ := hf it (by simp)
    exact es_end (I.ok.hd hc) ye yi (by simp [hi]) fun h' eb => ⟨rfl, I.turned (t' := s.toks) (fun b o hb q => eb b o hb q) f0 f1 f3 f4 f5⟩
  self := fun _ _ _ _ _ st h => by
    obtain ⟨⟨old, q⟩, _⟩ := st
    exact wpAny_pyIter_enum q h
section
variable {X : Cx} {es : List Expr} {y1 : Nat} {tp : Pos}
def iEnS (ta : TA) : TI := fun σ H R => ta σ H fun vs H1 => ∃ z, vs = [.str z] ∧ z.cps.all (· < 128) = true ∧ R (Itn z) H1
theorem pi_enS {a : Expr} {ta : TA} {p pos : Pos} (hg : Gl X "enumerate") (hm : X.mg "enumerate" = none) (ha : PA X [a] ta) (hs : starEach [a] X.env = [(false, eval a X.env)] := by rfl) : PI X (.Tuple es y1 tp) (.Call (.Name "enumerate" p) [a] [] pos) (iEnS ta) := by
  intro pins s σ H R I h
  refine Call_ (ld_blt I hg hm PyProof.Rows.boot_enumerate (PyProof.Rows.callWith_type1 (thn (ha pos pins s σ H _ I h) fun us s1 ⟨vs, H1, I1, r1, q1⟩ => ?_) hs rfl))
  obtain ⟨z, e, hz, q⟩ := q1
  subst e
  obtain ⟨u, rfl, rx⟩ := vals1 r1
  obtain ⟨t, rfl⟩ := (show ∃ t, u = Value.str z t from rx)
  refine call_enS hz fun h' ye yi kp => wpAny_pyIter_enum ye ?_
  refine ⟨s1.heap.objs.size + 1, [s1.heap.objs.size + 1, s1.heap.objs.size], _, _, H1, rfl, I1.kept (t' := s1.toks) kp, turn_enS z t _ _ (Nat.succ_ne_self _), ⟨⟨_, ye⟩, yi⟩, fun c hc => ?_, q⟩
  simp only [List.mem_cons, List.not_mem_nil, or_false] at hc
  rcases hc with rfl | rfl
  · exact I1.fpOk (Nat.le_succ _) (I1.hok.fresh (Nat.le_succ _))
  · exact I1.fpOk (Nat.le_refl _) (I1.hok.fresh (Nat.le_refl _))
def FES (z : Str) (g : TG) (tb : TS) (D : Ends) (σ : St) (H : Hp) : Prop := ∃ Pv : Nat → St → Hp → Prop, Pv 0 σ H ∧
  (∀ i c σ H p, z.cps[i]? = some c → Pv i σ H → H p = none → g (.ref p) σ (upd H p (.tup [.int i, .str ⟨#[c]⟩])) fun σ2 H2 => tb { D with nx := Pv (i + 1), ct := Pv (i + 1), bk := D.nx } σ2 H2) ∧ ∀ σ H, Pv z.cps.size σ H → D.nx σ H
def tForES (te : TE) (g : TG) (tb : TS) : TS := fun D σ H => te σ H fun v H1 => ∃ z, v = .str z ∧ z.cps.all (· < 128) = true ∧ FES z g tb D σ H1
theorem ps_forES {l : Expr} {body : List Stmt} {te : TE} {g : TG} {tb : TS} {p pos pos' : Pos} (hc : X.calm = true) (hp : PassesOwn (model X.prog X.w) X.A X.env X.xe) (hm : X.mg "enumerate" = none) (hl : PE X l te) (hgt : PG X (.Tuple es y1 tp) g) (hb : PSs X body tb)
    (hg : Gl X "enumerate" := by rfl) (hs : starEach [l] X.env = [(false, eval l X.env)] := by rfl) : PS X (.For (.Tuple es y1 tp) (.Call (.Name "enumerate" p) [l] [] pos') body [] pos) (tForES te g tb) := by
  intro pins s σ H D I h
  refine ps_for hp hc (pi_enS hg hm (pa_cons hl.mo pa_nil (by rw [hs]; rfl)) hs) hgt hb (by intro _; rfl) pins s σ H D I ?_
  refine ⟨_, h, fun v H1 ⟨z, e, ha, Pv, p0, pt, pd⟩ => ⟨z, by rw [e], ha, ?_⟩⟩
  refine ⟨fun i m σ H => m = z.cps.size - i ∧ i ≤ z.cps.size ∧ Pv i σ H, ⟨z.cps.size, by simp, Nat.zero_le _, p0⟩, ?_⟩
  rintro i m σ H ⟨rfl, hi, q⟩
  by_cases hlt : i < z.cps.size
  · refine .inr ⟨hlt, Pv (i + 1), fun σ' H' z' => ⟨z.cps.size - (i + 1), by omega, rfl, hlt, z'⟩, fun x H' yl => ?_⟩
    obtain ⟨t, rfl, ht, hu⟩ := yl
    have hx : z.cps[i]? = some z.cps[i] := Array.getElem?_eq_getElem hlt
    rw [hu _ hx]
    exact pt i _ σ H t hx q ht
  · have e : i = z.cps.size := by omega
    subst e
    exact .inl ⟨Nat.le_refl _, pd σ H q⟩
end
end L2
namespace L2
open PySem
def rises : List (Key × V) := [(.inr (Str.ofString "d"), .int (-1)), (.inr (Str.ofString "l"), .int 0), (.inr (Str.ofString "u"), .int 1)]
end L2
namespace L2
open PySem PySem.Spec PyProof.Rows PySem.W
end L2
namespace L2
open PySem PySem.Spec PyProof.Rows
def Itk (kvs : List (Key × V)) : It := ⟨fun i _ => i < kvs.length, fun i H x H' => H' = H ∧ ∃ k v, kvs[i]? = some (k, v) ∧ x = kV k, fun i _ => kvs.length ≤ i⟩
theorem relV_key {k : Key} {u : Value} (h : keyIs k u = true) : RelV (kV k) u := by
  rcases keyIs_shape h with ⟨i, t, rfl, rfl⟩ | ⟨x, t, rfl, rfl⟩
  · exact ⟨t, rfl⟩
  · exact ⟨t, rfl⟩
theorem KV.at {kvs : List (Key × V)} {vs : List (Key × Value)} (r : KV kvs vs) : ∀ {i : Nat} {p : Key × V}, kvs[i]? = some p → ∃ q, vs[i]? = some q ∧ p.1 = q.1 ∧ RelV p.2 q.2 := by
  unfold KV at r
  induction r with
  | nil => intro i p h; simp at h
  | cons h _ ih =>
    intro i p hx
    cases i with
    | zero => simp at hx; subst hx; exact ⟨_, rfl, h⟩
    | succ i => simpa using ih (by simpa using hx)
theorem turn_key {P : Program} {w : World} {K : PySem.W.Frag} {tg : Expr} {R it : Addr} {kvs : List (Key × V)} {vs : List (Key × Value)} {o : Obj} {es : Array DictEntry} {ep : Nat} (lk : K.lookup R = some o) (e1 : o.ExactDict) (e2 : o.data = .dict es ep)
    (k1 : ∀ P, KeysOf (mixKind P w) es) (k2 : ∀ P, Pairs (mixKind P w) es.toList vs) (nd : (vs.map (·.1)).Nodup) (rel : KV kvs vs) : Turn P w K tg (Itk kvs) [it] it (fun i h => h.IsKeyIter it R i vs.length ep) where
  mem := by simp
  obj := fun i h st b hb => by
    have e : b = it := by simpa using hb
    subst e
    obtain ⟨o, e, c, d⟩ := st
    exact ⟨o, e, fun v z => by rw [d] at z; cases z⟩
  keep := fun i h h' st k => let ⟨o, ho, r⟩ := st; ⟨o, k it (by simp) o ho, r⟩
  item := by
    intro X hP hw hK hc i pins s σ H E I hf st hg
    subst hP hw hK
    have hi : i < kvs.length := hg
    have hm : s.heap.DictAt (mixKind X.prog X.w) R vs ep := ⟨o, es, I.kIn _ _ lk, e1, e2, k1 _, k2 _, nd⟩
    have hx : kvs[i]? = some kvs[i] := List.getElem?_eq_getElem hi
    obtain ⟨q, hq, ek, rv⟩ := KV.at rel hx
    obtain ⟨f0, f1, f2, f3, f4, f5⟩ := hf it (by simp)
    refine wpAny_pyNext_dict_item st hm (k := q.1) (v := q.2) hq fun key h' hk st' sb => ?_
    have I1 : Inv X pins σ H { s with heap := h' } := I.turned (t' := s.toks) (fun b o hb e => (sb.2 b hb).trans e) f0 f1 f3 f4 f5
    obtain ⟨o', e, c, d⟩ := id st'
    exact ⟨key, rfl, go_of (s := { s with heap := h' }) e c d (by decide) ⟨kV q.1, H, I1, relV_key hk, ⟨rfl, kvs[i].1, kvs[i].2, hx, by rw [ek]⟩, st', fun b hb => (hf b hb).1⟩⟩
  done := by
    intro X hP hw hK hc i pins s σ H E I hf st hg
    subst hP hw hK
    have hi : kvs.length ≤ i := hg
    have hm : s.heap.DictAt (mixKind X.prog X.w) R vs ep := ⟨o, es, I.kIn _ _ lk, e1, e2, k1 _, k2 _, nd⟩
    have hl := rel.length
    obtain ⟨f0, f1, f2, f3, f4, f5⟩ := hf it (by simp)
    exact wpAny_pyNext_dict_end (I.ok.hd hc) st hm (List.getElem?_eq_none (by omega)) fun h' eb => ⟨rfl, I.turned (t' := s.toks) (fun b o hb e => eb b o hb e) f0 f1 f3 f4 f5⟩
  self := fun _ _ _ _ _ st h => wpAny_pyIter_keyiter st h
section
variable {X : Cx} {R : Addr} {kvs : List (Key × V)} {tg : Expr}
def iKey (R : Addr) (kvs : List (Key × V)) (te : TE) : TI := fun σ H Q => te σ H fun v H1 => v = .ref R ∧ Q (Itk kvs) H1
theorem pi_key {l : Expr} {te : TE} (d : KD X.w X.K R kvs) (hl : PE X l te) : PI X tg l (iKey R kvs te) := by
  intro pins s σ H Q I h
  refine thn (hl pins s σ H _ I h) fun u s1 ⟨x, H1, I1, rx, e, q⟩ => ?_
  subst e
  obtain rfl : u = Value.ref R := rx
  obtain ⟨o, es, ep, vs, lk, e1, e2, k1, k2, nd, rel⟩ := d.ex
  have hm : s1.heap.DictAt (mixKind X.prog X.w) R vs ep := ⟨o, es, I1.kIn _ _ lk, e1, e2, k1 _, k2 _, nd⟩
  refine wpAny_pyIter_dict d.sm hm ?_
  refine ⟨s1.heap.objs.size, [s1.heap.objs.size], _, _, H1, rfl, I1.kept (t' := s1.toks) (fun b o q => Heap.get?_push_of_some _ q), turn_key lk e1 e2 k1 k2 nd rel, ⟨_, Heap.get?_push_size _ rfl, rfl, rfl⟩, fun c hc => ?_, q⟩
  have e : c = s1.heap.objs.size := by simpa using hc
  subst e
  exact I1.fpOk (Nat.le_refl _) (I1.hok.fresh (Nat.le_refl _))
def FK (kvs : List (Key × V)) (g : TG) (tb : TS) (D : Ends) (σ : St) (H : Hp) : Prop := ∃ Pv : Nat → St → Hp → Prop, Pv 0 σ H ∧
  (∀ i k v σ H, kvs[i]? = some (k, v) → Pv i σ H → g (kV k) σ H fun σ2 H2 => tb { D with nx := Pv (i + 1), ct := Pv (i + 1), bk := D.nx } σ2 H2) ∧ ∀ σ H, Pv kvs.length σ H → D.nx σ H
def tForK (R : Addr) (kvs : List (Key × V)) (te : TE) (g : TG) (tb : TS) : TS := fun D σ H => te σ H fun v H1 => v = .ref R ∧ FK kvs g tb D σ H1
theorem ps_forK {l : Expr} {body : List Stmt} {te : TE} {g : TG} {tb : TS} {pos : Pos} (d : KD X.w X.K R kvs) (hc : X.calm = true) (hp : PassesOwn (model X.prog X.w) X.A X.env X.xe) (hl : PE X l te) (hgt : PG X tg g) (hb : PSs X body tb) (hs : ∀ x, foldedSetIterable l X.env x = pure x := by intro _; rfl) :
    PS X (.For tg l body [] pos) (tForK R kvs te g tb) := by
  intro pins s σ H D I h
  refine ps_for hp hc (pi_key d hl.mo) hgt hb hs pins s σ H D I ?_
  refine ⟨_, h, fun v H1 ⟨e, Pv, p0, pt, pd⟩ => ⟨e, ?_⟩⟩
  refine ⟨fun i m σ H => m = kvs.length - i ∧ i ≤ kvs.length ∧ Pv i σ H, ⟨kvs.length, by simp, Nat.zero_le _, p0⟩, ?_⟩
  rintro i m σ H ⟨rfl, hi, q⟩
  by_cases hlt : i < kvs.length
  · refine .inr ⟨hlt, Pv (i + 1), fun σ' H' z' => ⟨kvs.length - (i + 1), by omega, rfl, hlt, z'⟩, fun x H' yl => ?_⟩
    obtain ⟨rfl, k, v, hx, rfl⟩ := yl
    exact pt i k v σ _ hx q
  · have e : i = kvs.length := by omega
    subst e
    exact .inl ⟨Nat.le_refl _, pd σ H q⟩
end
end L2
namespace Mt
def l1 (a : Rat) : List Rat := trim [1, -a]
def l2 (d : Rat) : List Rat := trim [0, 0, d]
def nxt (l d : Rat) (f g : List Rat) : List Rat := psub (pmul (l1 l) f) (pmul (l2 d) g)
def en (L D : Nat → Rat) (a b : List Rat) : Nat → List Rat
  | 0 => a
  | 1 => b
  | n + 2 => nxt (L (n + 1)) (D n) (en L D a b (n + 1)) (en L D a b n)
def sh (f : List Rat) (i k : Nat) : Rat := if i ≤ k then cf f (k - i) else 0
theorem mc_ext_left {f f' : List Rat} (e : ∀ n, cf f n = cf f' n) (g : List Rat) (n : Nat) : mc f g n = mc f' g n := by
  rw [mc_comm f g, mc_comm f' g, mc_ext g e]
theorem mc_l1 (a : Rat) (f : List Rat) (k : Nat) : mc (l1 a) f k = cf f k - a * sh f 1 k := by
  rw [l1, mc_ext_left (f' := [1, -a]) (fun n => cf_trim _ n)]
  rcases k with _ | k
  · simp only [mc, sh]; grind
  · rcases k with _ | k
    · simp only [mc, sh]; grind
    · simp only [mc, sh, Nat.add_sub_cancel]
      rw [if_pos (by omega)]; grind
theorem mc_l2 (d : Rat) (f : List Rat) (k : Nat) : mc (l2 d) f k = d * sh f 2 k := by
  rw [l2, mc_ext_left (f' := [0, 0, d]) (fun n => cf_trim _ n)]
  rcases k with _ | _ | _ | k
  · simp only [mc, sh]; grind
  · simp only [mc, sh]; grind
  · simp only [mc, sh]; grind
  · simp only [mc, sh]
    rw [if_pos (by omega), show k + 1 + 1 + 1 - 2 = k + 1 by omega]; grind
theorem cf_nxt (l d : Rat) (f g : List Rat) (k : Nat) : cf (nxt l d f g) k = cf f k - l * sh f 1 k - d * sh g 2 k := by
  rw [nxt, cf_psub, cf_pmul, cf_pmul, mc_l1, mc_l2]
theorem NZ_nxt (l d : Rat) (f g : List Rat) : NZ (nxt l d f g) := NZ_psub _ _
theorem NZ.le {f : List Rat} (h : NZ f) {n : Nat} (z : ∀ k, n ≤ k → cf f k = 0) : f.length ≤ n := by
  rcases h with rfl | h
  · simp
  · rcases Nat.lt_or_ge n f.length with y | y
    · exact absurd (z _ (by omega)) h
    · exact y
abbrev A0 : Nat := 1000001 * B0
def Gp (n : Nat) (f : List Rat) : Prop := ∀ k, Lat (B0 ^ n) (A0 ^ n) (cf f k)
theorem Gp.nil {n : Nat} : Gp n [] := fun k => by rw [cf_nil]; exact Lat.zero
theorem Gp.sh {n : Nat} {f : List Rat} (h : Gp n f) (i k : Nat) : Lat (B0 ^ n) (A0 ^ n) (sh f i k) := by
  unfold Mt.sh
  split
  · exact h _
  · exact Lat.zero
theorem gp_nxt {n : Nat} {l d : Rat} {f g : List Rat} (hf : Gp (n + 1) f) (hg : Gp n g) (hl : Wg l) (hd : Wg d) : Gp (n + 2) (nxt l d f g) := by
  intro k
  rw [cf_nxt]
  have h1 : Lat (B0 ^ (n + 1) * B0) (A0 ^ (n + 1) * B0) (cf f k) := (hf k).up
  have h2 : Lat (B0 * B0 ^ (n + 1)) (999999 * B0 * A0 ^ (n + 1)) (l * sh f 1 k) := hl.mul (hf.sh 1 k)
  have h3 : Lat (B0 * B0 ^ n * B0) (999999 * B0 * A0 ^ n * B0) (d * sh g 2 k) := (hd.mul (hg.sh 2 k)).up
  rw [show B0 * B0 ^ (n + 1) = B0 ^ (n + 1) * B0 from Nat.mul_comm _ _] at h2
  rw [show B0 * B0 ^ n = B0 ^ (n + 1) by rw [Nat.pow_succ, Nat.mul_comm]] at h3
  rw [Rat.sub_eq_add_neg, Rat.sub_eq_add_neg, show B0 ^ (n + 2) = B0 ^ (n + 1) * B0 from Nat.pow_succ ..]
  refine ((h1.add h2.neg).add h3.neg).mono ?_
  rw [show A0 ^ (n + 2) = A0 ^ (n + 1) * A0 from Nat.pow_succ .., show A0 ^ (n + 1) = A0 ^ n * A0 from Nat.pow_succ ..]
  generalize A0 ^ n = X
  simp only [A0, B0]
  omega
theorem gp_one : Gp 0 [1] := fun k => by
  rcases k with _ | k
  · rw [cf_zero]; exact Lat.one
  · rw [cf_succ, cf_nil]; exact Lat.zero
theorem gp_one1 : Gp 1 [1] := fun k => by
  have h := (gp_one k).up (E := B0)
  simp only [Nat.pow_zero, Nat.one_mul] at h
  rw [Nat.pow_one, Nat.pow_one]
  exact h.mono (by decide)
theorem gp_l1 {a : Rat} (h : Wg a) : Gp 1 (l1 a) := fun k => by
  rw [l1, cf_trim]
  rcases k with _ | _ | k
  · exact gp_one1 0
  · rw [cf_succ, cf_zero, Nat.pow_one, Nat.pow_one]; exact h.neg.mono (by decide)
  · rw [cf_succ, cf_succ, cf_nil]; exact Lat.zero
theorem gp_l2 {a : Rat} (h : Wg a) : Gp 1 (l2 a) := fun k => by
  rw [l2, cf_trim]
  rcases k with _ | _ | _ | k
  · exact Lat.zero
  · exact Lat.zero
  · rw [cf_succ, cf_succ, cf_zero, Nat.pow_one, Nat.pow_one]; exact h.mono (by decide)
  · rw [cf_succ, cf_succ, cf_succ, cf_nil]; exact Lat.zero
theorem gp_en {L D : Nat → Rat} {a b : List Rat} (ha : Gp 0 a) (hb : Gp 1 b) (hL : ∀ h, Wg (L h)) (hD : ∀ h, Wg (D h)) : ∀ n, Gp n (en L D a b n)
  | 0 => ha
  | 1 => hb
  | n + 2 => gp_nxt (gp_en ha hb hL hD (n + 1)) (gp_en ha hb hL hD n) (hL _) (hD _)
theorem Gp.ln {n : Nat} {f : List Rat} (h : Gp n f) (hn : n ≤ 9) : Ln 320 320 f := by
  refine ⟨B0 ^ n, A0 ^ n, Nat.pow_pos (by decide), ?_, ?_, h⟩
  · exact Nat.le_trans (Nat.pow_le_pow_right (by decide) hn) (by decide +kernel)
  · exact Nat.le_trans (Nat.pow_le_pow_right (by decide) hn) (by decide +kernel)
theorem len_en {L D : Nat → Rat} {a b : List Rat} {c : Nat} (ha : a.length ≤ c) (hb : NZ b) (hb1 : b.length ≤ c + 1) : ∀ n, (en L D a b n).length ≤ n + c
  | 0 => by rw [en]; omega
  | 1 => by rw [en]; omega
  | n + 2 => by
    have h1 := len_en ha hb hb1 (L := L) (D := D) (n + 1)
    have h0 := len_en ha hb hb1 (L := L) (D := D) n
    rw [en]
    refine (NZ_nxt _ _ _ _).le fun k hk => ?_
    rw [cf_nxt, cf_ge (by omega)]
    unfold sh
    rw [if_pos (by omega), if_pos (by omega), cf_ge (by omega), cf_ge (by omega)]
    grind
def tp (L D : List Rat) (n : Nat) : List Rat := en (cf L) (cf D) [] [1] n
def bt (L D : List Rat) (n : Nat) : List Rat := en (cf L) (cf D) [1] (l1 (cf L 0)) n
theorem NZ_one : NZ [1] := .inr (by show cf [1] 0 ≠ 0; rw [cf_zero]; decide)
theorem NZ_l1 (a : Rat) : NZ (l1 a) := NZ_trim _
theorem len_l1 (a : Rat) : (l1 a).length ≤ 2 := trim_len _
theorem len_l2 (a : Rat) : (l2 a).length ≤ 3 := trim_len _
theorem len_tp (L D : List Rat) (n : Nat) : (tp L D n).length ≤ n := len_en (c := 0) (by simp) NZ_one (by simp) n
theorem len_bt (L D : List Rat) (n : Nat) : (bt L D n).length ≤ n + 1 := len_en (c := 1) (by simp) (NZ_l1 _) (len_l1 _) n
end Mt
namespace L2
open PySem PySem.Spec PyProof.Rows
def Pls (K : PySem.W.Frag) (H : Hp) (fs : List (List Rat)) (xs : List V) : Prop := xs.length = fs.length ∧ ∀ (j : Nat) (f : List Rat), fs[j]? = some f → ∃ p, xs[j]? = some (V.ref p) ∧ Pl K H p f
theorem Pls.nil {K : PySem.W.Frag} {H : Hp} : Pls K H [] [] := ⟨rfl, fun j f h => by simp at h⟩
theorem Pls.same {K : PySem.W.Frag} {H H' : Hp} {fs : List (List Rat)} {xs : List V} (h : Pls K H fs xs) (e : Same H H') : Pls K H' fs xs := ⟨h.1, fun j f z => let ⟨p, e1, q⟩ := h.2 j f z; ⟨p, e1, q.same e⟩⟩
theorem Pls.updL {K : PySem.W.Frag} {H : Hp} {D : Addr} {ys : List V} {o : HO} {fs : List (List Rat)} {xs : List V} (hD : H D = some (.lst ys)) (h : Pls K H fs xs) : Pls K (upd H D o) fs xs := ⟨h.1, fun j f z => let ⟨p, e1, q⟩ := h.2 j f z; ⟨p, e1, q.updL hD⟩⟩
theorem Pls.snoc {K : PySem.W.Frag} {H : Hp} {fs : List (List Rat)} {xs : List V} {p : Addr} {f : List Rat} (h : Pls K H fs xs) (k : Pl K H p f) : Pls K H (fs ++ [f]) (xs ++ [.ref p]) := by
  refine ⟨by simp [h.1], fun j g z => ?_⟩
  rcases Nat.lt_or_ge j fs.length with l | l
  · rw [List.getElem?_append_left l] at z
    obtain ⟨q, e, hq⟩ := h.2 j g z
    exact ⟨q, by rw [List.getElem?_append_left (by rw [h.1]; exact l)]; exact e, hq⟩
  · rw [List.getElem?_append_right l] at z
    have j0 : j = fs.length := by
      rcases Nat.lt_or_ge (j - fs.length) 1 with y | y
      · omega
      · rw [List.getElem?_eq_none (by simpa using y)] at z; cases z
    subst j0
    simp at z
    subst z
    exact ⟨p, by rw [← h.1]; simp, k⟩
theorem Pls.cons {K : PySem.W.Frag} {H : Hp} {fs : List (List Rat)} {xs : List V} {p : Addr} {f : List Rat} (k : Pl K H p f) (h : Pls K H fs xs) : Pls K H (f :: fs) (.ref p :: xs) := by
  refine ⟨by simp [h.1], fun j g z => ?_⟩
  rcases j with _ | j
  · simp at z; subst z; exact ⟨p, rfl, k⟩
  · simp at z; exact h.2 j g z
theorem Pls.at {K : PySem.W.Frag} {H : Hp} {m : Nat} {F : Nat → List Rat} {xs : List V} (h : Pls K H ((List.range m).map F) xs) {j : Nat} (hj : j < m) : ∃ p, xs[j]? = some (.ref p) ∧ Pl K H p (F j) := h.2 j (F j) (by simp [hj])
theorem Pls.len {K : PySem.W.Frag} {H : Hp} {m : Nat} {F : Nat → List Rat} {xs : List V} (h : Pls K H ((List.range m).map F) xs) : xs.length = m := by rw [h.1]; simp
theorem Pls.more {K : PySem.W.Frag} {H : Hp} {m : Nat} {F : Nat → List Rat} {xs : List V} {p : Addr} (h : Pls K H ((List.range m).map F) xs) (k : Pl K H p (F m)) : Pls K H ((List.range (m + 1)).map F) (xs ++ [.ref p]) := by
  rw [List.range_succ, List.map_append]; exact h.snoc k
end L2
namespace Mt
theorem mc_scale (c : Rat) : ∀ (f : List Rat) {g k : List Rat} (_ : ∀ n, cf k n = c * cf g n) (n : Nat), mc f k n = c * mc f g n
  | [], _, _, _, n => by rw [mc_nil_left, mc_nil_left]; grind
  | a :: f, g, k, e, 0 => by rw [mc, mc, e]; grind
  | a :: f, g, k, e, n + 1 => by rw [mc, mc, e, mc_scale c f e n]; grind
def shf (F : Nat → Rat) (i k : Nat) : Rat := if i ≤ k then F (k - i) else 0
theorem mc_zero_cons (f b : List Rat) (k : Nat) : mc (0 :: f) b k = shf (mc f b) 1 k := by
  rcases k with _ | k
  · rw [mc, shf, if_neg (by omega)]; grind
  · rw [mc, shf, if_pos (by omega), Nat.add_sub_cancel]; grind
theorem mc_zero2 (f b : List Rat) (k : Nat) : mc (0 :: 0 :: f) b k = shf (mc f b) 2 k := by
  rw [mc_zero_cons]
  unfold shf
  split
  · rw [mc_zero_cons]
    unfold shf
    split
    · rw [if_pos (by omega), show k - 1 - 1 = k - 2 by omega]
    · rw [if_neg (by omega)]
  · rw [if_neg (by omega)]
theorem cf_zero_cons (f : List Rat) (k : Nat) : cf (0 :: f) k = sh f 1 k := by
  rcases k with _ | k
  · rw [cf_zero, sh, if_neg (by omega)]
  · rw [cf_succ, sh, if_pos (by omega), Nat.add_sub_cancel]
theorem cf_zero2 (f : List Rat) (k : Nat) : cf (0 :: 0 :: f) k = sh f 2 k := by
  rcases k with _ | _ | k
  · rw [cf_zero, sh, if_neg (by omega)]
  · rw [cf_succ, cf_zero, sh, if_neg (by omega)]
  · rw [cf_succ, cf_succ, sh, if_pos (by omega), show k + 1 + 1 - 2 = k by omega]
theorem mc_nxt_right (l d : Rat) (f g b : List Rat) (k : Nat) : mc b (nxt l d f g) k = mc b f k - l * mc b (0 :: f) k - d * mc b (0 :: 0 :: g) k := by
  have h1 : ∀ n, cf (nxt l d f g) n = cf f n + cf (addL ((0 :: f).map (-l * ·)) ((0 :: 0 :: g).map (-d * ·))) n := fun n => by
    rw [cf_nxt, cf_addL, cf_map _ (Rat.mul_zero _), cf_map _ (Rat.mul_zero _), cf_zero_cons, cf_zero2]; grind
  rw [mc_add b h1, mc_add b (cf_addL _ _), mc_scale (-l) b (g := 0 :: f) (fun n => cf_map _ (Rat.mul_zero _) _ n), mc_scale (-d) b (g := 0 :: 0 :: g) (fun n => cf_map _ (Rat.mul_zero _) _ n)]
  grind
theorem mc_nxt_left (l d : Rat) (f g b : List Rat) (k : Nat) : mc (nxt l d f g) b k = mc f b k - l * shf (mc f b) 1 k - d * shf (mc g b) 2 k := by
  rw [mc_comm, mc_nxt_right, mc_comm b f, mc_comm b (0 :: f), mc_comm b (0 :: 0 :: g), mc_zero_cons, mc_zero2]
theorem bt_first (L D : List Rat) : ∀ n, cf (bt L D n) 0 = 1
  | 0 => rfl
  | 1 => by
    show cf (l1 (cf L 0)) 0 = 1
    rw [l1, cf_trim]; rfl
  | n + 2 => by
    rw [show bt L D (n + 2) = nxt (cf L (n + 1)) (cf D n) (bt L D (n + 1)) (bt L D n) from rfl, cf_nxt, bt_first L D (n + 1), sh, sh, if_neg (by omega), if_neg (by omega)]
    grind
end Mt
namespace L2
open PySem PySem.Spec PyProof.Rows
theorem CO.els {n : Nat} {src : Nat → Hp → V → Prop} {st : Hp → Prop} {js : List (Option Nat)} {tl : TE} {σ : St} {H1 : Hp} {Q : VK} (G : Nat → Hp → V → Prop) (gs : ∀ i H H' x, Same H H' → G i H x → G i H' x)
    (gu : ∀ i H D ys o x, H D = some (.lst ys) → G i H x → G i (upd H D o) x) (hn : n ≤ 1000) (hst : ∀ H, Same H1 H → st H)
    (hel : ∀ i H x (R : VK), i < n → Same H1 H → src i H x → (∀ r H3, Same H H3 → G i H3 r → R r H3) → tl (some x :: cσ js σ) H R)
    (hq : ∀ D H (xs : List V), Same H1 H → H1 D = none → H D = some (.lst xs) → xs.length = n → (∀ (j : Nat) (x : V), xs[j]? = some x → G j H x) → Q (.ref D) H) : CO n src st (none :: js) (gName 0) tl σ H1 Q := by
  intro D hD
  refine ⟨fun i ys σc H => (∃ r, σc = r :: cσ js σ) ∧ Same H1 H ∧ H D = some (.lst ys) ∧ ys.length = i ∧ ∀ (j : Nat) (x : V), ys[j]? = some x → G j H x, ⟨⟨none, rfl⟩, same_upd hD, upd_same, rfl, fun j x h => by simp at h⟩, fun i ys σc H _ h => hst H h.2.1, ?_, ?_⟩
  · rintro i ys σc H x hi ⟨⟨r, rfl⟩, sm, hd, ly, hf⟩ hx
    refine hel i H x _ hi sm hx fun p H3 s3 hy => ?_
    refine ⟨s3 _ _ hd, small1000 (by omega), ⟨_, rfl⟩, (sm.trans s3).updL hD, upd_same, by simp [ly], fun j x z => ?_⟩
    refine gu j H3 D ys _ x (s3 _ _ hd) ?_
    rcases Nat.lt_or_ge j ys.length with l | l
    · rw [List.getElem?_append_left l] at z
      exact gs j H H3 x s3 (hf j x z)
    · rw [List.getElem?_append_right l] at z
      have j0 : j = i := by
        rcases Nat.lt_or_ge (j - ys.length) 1 with y | y
        · omega
        · rw [List.getElem?_eq_none (by simpa using y)] at z; cases z
      subst j0
      rw [ly, Nat.sub_self] at z
      simp at z
      subst z
      exact hy
  · rintro ys σc H ⟨_, sm, hd, ly, hf⟩
    exact ⟨hd, hq D H ys sm hD hd ly hf⟩
end L2
namespace L2
open PySem PySem.Spec PyProof.Rows
section
variable {prog : Program} {w : World} {A : Around} {E : Value → Shared → Prop} {s : Shared}
end
section
variable {X : Cx} {tg : Expr}
end
section
variable {X : Cx} {CX : CXT} {k : Nat} {f : Addr} {fd : FuncData} {ps : List Str}  {dvs : List V} {ds : List Value} {E : XK} {x : Str} {p pos : Pos} {e : Expr} {es : List Expr} {t : TA}
end
section
variable {P : Program} {w : World} {K : PySem.W.Frag} {mg : Str → Option Value} {base : Heap} {x qual : Str} {st : Stmt} {f : Addr} {fd : FuncData} {N ps : List Str} {k : Nat} {sp : Addr → Sp}
end
end L2
namespace L2
open PySem PySem.Spec PyProof.Rows
section
variable {X : Cx} {es : List Expr} {y1 : Nat} {tp : Pos} {a b : Expr} {te te2 : TE} {g : TG} {tb : TS} {body : List Stmt} {p pos pos' : Pos}
end
end L2
namespace L2
open PySem PySem.Spec PyProof.Rows
theorem lstD_dep (f : List Rat) : 1 ≤ (lstD f).dep ∧ (lstD f).dep ≤ 2 := by
  have a := frDs_dep f
  simp only [lstD, Dt.dep]
  omega
end L2
namespace L2
open PySem PySem.Spec PyProof.Rows Builtin
theorem nolen_rv : typeLookup (.type "reversed") "__len__" = pure none := by rw [typeLookup_type, builtinLookup_eq_fast]; kernel_rfl
theorem hint_rv : typeLookup (.type "reversed") "__length_hint__" = pure (some (.builtin "reversed.__length_hint__")) := by rw [typeLookup_type, builtinLookup_eq_fast]; kernel_rfl
section
variable {prog : Program} {w : World} {A : Around}
theorem walks_revT (hh : A.handled = none) (r l : Addr) (xs : Array Value) (ne : r ≠ l) (hz : (xs.size : Int) < 2 ^ 63) :
    WalksS prog w A r [r, l] [r] (fun a b => b = a) xs.size (fun i v => xs[xs.size - 1 - i]? = some v) (fun i s => i ≤ xs.size ∧ IsRevT s.heap r l ((xs.size : Int) - 1 - (i : Int)) ∧ IsTup s.heap l xs) where
  sub := fun b hb => by simp at hb; simp [hb]
  grefl := fun _ => rfl
  gtrans := fun a b c h k => by rw [k, h]
  frame := fun i s h' tk ⟨hi, ⟨o, e1, e2⟩, ⟨o2, e3, e4⟩⟩ _ k => ⟨hi, ⟨o, k r (by simp) o e1, e2⟩, ⟨o2, k l (by simp) o2 e3, e4⟩⟩
  item := fun i s Q E hi ⟨_, y, yt⟩ k => by
    have e : (xs.size : Int) - 1 - (i : Int) = ((xs.size - 1 - i : Nat) : Int) := by omega
    rw [e] at y
    have hx : xs[xs.size - 1 - i]? = some (xs[xs.size - 1 - i]'(by omega)) := Array.getElem?_eq_getElem (by omega)
    refine rev_item y yt (by omega) hx fun h' y' sb => k _ _ hx ⟨by omega, ?_, ?_⟩ ⟨fun b o hb e => (sb.2 b (by simpa using hb)).trans e, rfl, rfl, rfl, Nat.le_succ _⟩
    · rw [show (xs.size : Int) - 1 - ((i + 1 : Nat) : Int) = ((xs.size - 1 - i : Nat) : Int) - 1 by omega]
      exact y'
    · obtain ⟨o2, e3, e4⟩ := yt
      exact ⟨o2, (sb.2 l ne.symm).trans e3, e4⟩
  done := fun s Q E ⟨_, y, yt⟩ k => by
    rw [show (xs.size : Int) - 1 - (xs.size : Int) = -1 by omega] at y
    exact rev_end hh y fun h' eb => k _ ⟨fun b o hb e => eb b o (by simpa using hb) e, rfl, rfl, rfl, Nat.le_refl _⟩
  self := fun i s Q E ⟨_, y, _⟩ k => iter_rev y k
end
theorem slot_rev_hint : Slot "reversed" "__length_hint__" "reversed.__length_hint__" :=
  .of (owner := "reversed") (n := "__length_hint__") (by rw [typeLookup_type, builtinLookup_eq_fast]; kernel_rfl) (by decide +kernel) (by decide +kernel) (by decide +kernel) (by first | exact .inl (by decide +kernel) | exact .inr (by decide +kernel)) (by rw [isSubtype_type]; kernel_rfl)
theorem entry_rev_hint : entryFor table "reversed.__length_hint__" = some Builtin.«reversed.__length_hint__» := entryFor_of_tree (by kernel_rfl)
theorem args_rev_hint (a : Value) : argsOk "reversed.__length_hint__" ⟨[a], []⟩ := by
  unfold argsOk
  rw [signature?_of (id := "reversed.__length_hint__") (n := ['_', '_', 't', 'n', 'i', 'h', '_', 'h', 't', 'g', 'n', 'e', 'l', '_', '_']) (o := ['d', 'e', 's', 'r', 'e', 'v', 'e', 'r']) (by kernel_rfl) owner_rev]
  kernel_rfl
section
variable {prog : Program} {w : World} {A : Around} {E : Value → Shared → Prop} {s : Shared}
theorem hint_call {r l : Addr} {xs : Array Value} {Q : Value → Shared → Prop} (y : IsRevT s.heap r l ((xs.size : Int) - 1)) (yt : IsTup s.heap l xs) (hz : (xs.size : Int) < 2 ^ 63) (k : ∀ t tk, s.toks ≤ tk → Q (.int (xs.size : Int) t) { s with toks := tk }) :
    wpAny (model prog w) A (call (.builtin "reversed.__length_hint__") [.ref r]) Q E s := by
  obtain ⟨o, z, c, d⟩ := id y
  refine wpAny_call_entry slot_rev_hint y.ty entry_rev_hint ?_ (args_rev_hint _)
  unfold Builtin.«reversed.__length_hint__»
  refine wpAny_bind (wpAny_of_eq (a := (Value.ref r)) rfl ?_)
  refine wpAny_bind (m := field (.ref r) 0) (wpAny_field z d (x := .ref l) rfl ?_)
  rw [if_neg (by intro q; cases q)]
  refine wpAny_bind (m := call (.builtin "len") [.ref l]) (len_tuple yt hz ?_)
  refine wpAny_bind (wpAny_of_eq (a := some (xs.size : Int)) rfl ?_)
  refine wpAny_bind (m := field (.ref r) 1) (wpAny_field (s := { s with toks := s.toks + 1 + 1 }) z d (x := rawInt ((xs.size : Int) - 1)) rfl ?_)
  show wpAny _ _ (if (xs.size : Int) < (xs.size : Int) - 1 + 1 then _ else _) _ _ _
  rw [if_neg (by omega), show (xs.size : Int) - 1 + 1 = (xs.size : Int) by omega]
  unfold retInt
  refine wpAny_bind (wpAny_mkInt (wpAny_pure ⟨_, rfl, k _ _ ?_⟩))
  show s.toks ≤ s.toks + 1 + 1 + 1
  omega
end
section
variable {prog : Program} {w : World} {A : Around} {s : Shared} {R : Result → Shared → Prop} {r l : Addr} {xs : Array Value}
theorem touch_empty {M : Model} {E : Value → Shared → Prop} {S : Addr} {c₀ : Nat} {Q : Unit → Shared → Prop} (g1 : s.heap.get? S = some { cls := .type "list", data := .seq #[] c₀ })
    (k : ∀ h' c', (∀ b o, b ≠ S → s.heap.get? b = some o → h'.get? b = some o) → h'.get? S = some { cls := .type "list", data := .seq #[] c' } → Q () { s with heap := h' }) : wpAny M A (Builtin.List.listTouch (.ref S)) Q E s := by
  show wpAny _ _ (updateSeq S (·.push .none) >>= fun _ => updateSeq S (·.pop)) _ _ _
  refine wpAny_bind (wpAny_updateSeq g1 rfl ?_)
  have hS₂ := Heap.get?_update_self (Obj.mapSeq (·.push Value.none)) g1 rfl
  refine wpAny_updateSeq (hz := by seq_fits) hS₂ rfl ?_
  have hS₃ := Heap.get?_update_self (Obj.mapSeq (·.pop)) hS₂ rfl
  exact k _ _ (fun b o hb e => (Heap.get?_update_other _ _ (Ne.symm hb)).trans ((Heap.get?_update_other _ _ (Ne.symm hb)).trans e)) hS₃
theorem asInt_bind {M : Model} {E : Value → Shared → Prop} {α : Type} {n : Int} {t : Tok} {K : Option Int → Sem α} {Q : α → Shared → Prop} (h : wpAny M A (K (some n)) Q E s) : wpAny M A (asInt? (Value.int n t) >>= K) Q E s := wpAny_bind (m := asInt? (Value.int n t)) (wpAny_pure h)
theorem ext_rv (hh : A.in1.handled = none) (ne : r ≠ l) (hz : (xs.size : Int) < 2 ^ 63) (hn : xs.size ≤ sizeLine) (S : Addr) (res : Value) (c₀ : Nat) (y : IsRevT s.heap r l ((xs.size : Int) - 1)) (yt : IsTup s.heap l xs) (nr : S ≠ r) (nl : S ≠ l)
    (g1 : s.heap.get? S = some { cls := .type "list", data := .seq #[] c₀ })
    (hR : ∀ s' acc' c', Moved [S, r] (fun a b => b = a) s s' → s'.heap.get? S = some { cls := .type "list", dict := none, data := .seq acc' c', slots := #[] } → ItemsOf (fun i v => xs[xs.size - 1 - i]? = some v) acc' xs.size → R (.ok (.ret res)) s') :
    wpAny (model prog w) A.in1 (Builtin.List.listExtendWith (.ref S) (.ref r) res)
      (fun fin s' => match fin with | .done f => R (.ok f) s' | .again c' => c'.quiet = true ∧ codeAny (model prog w) A c' R s') (fun e s' => R (.error e) s') s := by
  have W := walks_revT (prog := prog) (w := w) hh r l xs ne hz
  have nf : S ∉ [r, l] := by simp [nr, nl]
  unfold Builtin.List.listExtendWith
  refine wpAny_bind (wpAny_typeOf y.ty ?_)
  rw [if_neg (by rw [show Builtin.List.listSameRef (.ref S) (.ref r) = false by simp [Builtin.List.listSameRef, nr]]; decide)]
  refine wpAny_bind (iter_rev y (wpAny_bind (wpAny_holding ?_)))
  unfold Builtin.List.listLengthHint
  refine wpAny_bind (wpAny_specialOf y.ty nolen_rv ?_)
  show wpAny _ A.in1 (specialOf (Value.ref r) (Str.ofString "__length_hint__") >>= _) _ _ _
  refine wpAny_bind (wpAny_specialOf y.ty hint_rv ?_)
  generalize hid : ("reversed.__length_hint__" : String) = name0
  wp_delta
  rw [show splitId name0 = some ("reversed", "__length_hint__") from by subst hid; decide +kernel]
  subst hid
  refine wpAny_bind (wpAny_isInstance (b := true) y.ty (by rw [isSubtype_type]; kernel_rfl) ?_)
  show wpAny _ _ (rule "list.length-hint.hint" >>= _) _ _ _
  refine wpAny_bind (wpAny_rule ?_)
  refine wpAny_bind (wpAny_of_eq (slot_rev_hint.bind _) ?_)
  refine wpAny_bind (wpAny_attempt (hint_call y yt hz fun t tk htk => ?_))
  show wpAny _ A.in1 (asInt? (Value.int (xs.size : Int) t) >>= _) _ _ _
  refine asInt_bind ?_
  dsimp only
  have hf : Builtin.List.listFitsIndex (xs.size : Int) = true := by
    unfold Builtin.List.listFitsIndex
    rw [Bool.and_eq_true]
    exact ⟨decide_eq_true (by omega), decide_eq_true hz⟩
  have ht : Builtin.List.listTooLong (xs.size : Int).toNat = false := by
    unfold Builtin.List.listTooLong
    rw [Int.toNat_natCast]
    exact decide_eq_false (by omega)
  rw [hf, ht, if_neg (by decide), if_neg (by omega), if_neg (by decide)]
  refine wpAny_pure ?_
  have st0 : ∀ (h' : Heap), (∀ b o, b ≠ S → s.heap.get? b = some o → h'.get? b = some o) → ∀ tk', (0 ≤ xs.size ∧ IsRevT ({ s with heap := h', toks := tk' } : Shared).heap r l ((xs.size : Int) - 1 - ((0 : Nat) : Int)) ∧ IsTup ({ s with heap := h', toks := tk' } : Shared).heap l xs) := fun h' kp tk' => by
    obtain ⟨o1, e1, r1⟩ := id y
    obtain ⟨o2, e2, r2⟩ := id yt
    exact ⟨Nat.zero_le _, by rw [show (xs.size : Int) - 1 - ((0 : Nat) : Int) = (xs.size : Int) - 1 by omega]; exact ⟨o1, kp _ _ nr.symm e1, r1⟩, ⟨o2, kp _ _ nl.symm e2, r2⟩⟩
  by_cases z : xs.size = 0
  · rw [show ((xs.size : Int) != 0) = false by simp [z], if_neg (by decide)]
    refine wpAny_pure ⟨plainId_quiet F.plain_extend_loop _, codeAny_extend_loopS W hn _ nf _ xs.size 0 _ _ _ rfl (Nat.zero_le _) (st0 s.heap (fun _ _ _ e => e) tk) g1 (ItemsOf.nil _) fun s' acc' c' hm hS' hacc => hR s' acc' c' ?_ hS' hacc⟩
    exact Moved.trans (s' := { s with toks := tk }) W.gtrans ⟨fun b o _ e => e, rfl, rfl, rfl, htk⟩ hm
  · rw [show ((xs.size : Int) != 0) = true by simp [z], if_pos (by decide)]
    refine wpAny_bind (wpAny_rule ?_)
    refine wpAny_bind (touch_empty (s := { s with toks := tk }) g1 fun h' c' oth hS₃ => ?_)
    refine wpAny_pure ⟨plainId_quiet F.plain_extend_loop _, codeAny_extend_loopS W hn _ nf _ xs.size 0 _ _ _ rfl (Nat.zero_le _) (st0 _ oth tk) hS₃ (ItemsOf.nil _) fun s' acc' c' hm hS' hacc => hR s' acc' c' ?_ hS' hacc⟩
    exact Moved.trans (s' := { s with heap := h', toks := tk }) W.gtrans ⟨fun b o hb e => oth b o (fun h => hb (by rw [h]; exact List.mem_cons_self)) e, rfl, rfl, rfl, htk⟩ hm
end
section
variable {prog : Program} {w : World} {A : Around} {s : Shared} {R : Result → Shared → Prop}
variable {it : Addr} {fp wr : List Addr} {G : Array GenState → Array GenState → Prop} {n : Nat} {P : Nat → Value → Prop} {St : Nat → Shared → Prop}
theorem ext_lr (W : WalksS prog w A.in1 it fp wr G n P St) (ty : ∀ i s, St i s → s.TypeIs (.ref it) "list_reverseiterator") (S : Addr) (res : Value) (c₀ : Nat) (st : St 0 s) (nf : S ∉ fp) (mem : it ∈ fp)
    (g1 : s.heap.get? S = some { cls := .type "list", data := .seq #[] c₀ }) (hn : n ≤ sizeLine)
    (hR : ∀ s' acc' c', Moved (S :: wr) G s s' → s'.heap.get? S = some { cls := .type "list", dict := none, data := .seq acc' c', slots := #[] } → ItemsOf P acc' n → R (.ok (.ret res)) s') :
    wpAny (model prog w) A.in1 (Builtin.List.listExtendWith (.ref S) (.ref it) res)
      (fun fin s' => match fin with | .done f => R (.ok f) s' | .again c' => c'.quiet = true ∧ codeAny (model prog w) A c' R s') (fun e s' => R (.error e) s') s := by
  have ni : S ≠ it := fun e => nf (e ▸ mem)
  unfold Builtin.List.listExtendWith
  refine wpAny_bind (wpAny_typeOf (ty 0 _ st) ?_)
  rw [if_neg (by rw [show Builtin.List.listSameRef (.ref S) (.ref it) = false by simp [Builtin.List.listSameRef, ni]]; decide)]
  refine wpAny_bind (W.self 0 _ _ _ st (wpAny_bind (wpAny_holding ?_)))
  unfold Builtin.List.listLengthHint
  refine wpAny_bind (wpAny_specialOf (ty 0 _ st) nolen_lr ?_)
  show wpAny _ A.in1 (specialOf (Value.ref it) (Str.ofString "__length_hint__") >>= _) _ _ _
  refine wpAny_bind (wpAny_specialOf (ty 0 _ st) hint_lr ?_)
  generalize hid : ("list_reverseiterator.__length_hint__" : String) = name0
  wp_delta
  rw [show splitId name0 = some ("list_reverseiterator", "__length_hint__") from by subst hid; decide +kernel]
  subst hid
  refine wpAny_bind (wpAny_isInstance (b := true) (ty 0 _ st) (by rw [isSubtype_type]; kernel_rfl) (wpAny_pure ?_))
  rw [if_neg (by decide)]
  exact wpAny_pure ⟨plainId_quiet F.plain_extend_loop _, codeAny_extend_loopS W hn _ nf _ n 0 _ _ _ rfl (Nat.zero_le _) st g1 (ItemsOf.nil P) fun s' acc' c' hm hS' hacc => hR s' acc' c' hm hS' hacc⟩
theorem init_lr (W : WalksS prog w A.in1 it fp wr G n P St) (ty : ∀ i s, St i s → s.TypeIs (.ref it) "list_reverseiterator") (S : Addr) (hst : St 0 s) (hSf : S ∉ fp) (hI : it ∈ fp)
    (hS : s.heap.get? S = some { cls := .type "list", data := .seq #[] }) (hn : n ≤ sizeLine)
    (hR : ∀ s' acc' c', Moved (S :: wr) G s s' → s'.heap.get? S = some { cls := .type "list", dict := none, data := .seq acc' c', slots := #[] } → ItemsOf P acc' n → R (.ok (.ret .none)) s') :
    wpAny (model prog w) A.in1 (Builtin.«list.__init__» ⟨[.ref S, .ref it], []⟩)
      (fun fin s' => match fin with | .done f => R (.ok f) s' | .again c' => c'.quiet = true ∧ codeAny (model prog w) A c' R s') (fun e s' => R (.error e) s') s := by
  show wpAny _ A.in1 (do let old ← Builtin.List.listItems (.ref S); Builtin.List.listUpdate (.ref S) (fun _ => #[]); letGo old.toList.reverse; Builtin.List.listExtendWith (.ref S) (.ref it) .none) _ _ s
  refine wpAny_bind ?_
  unfold Builtin.List.listItems
  refine wpAny_bind (wpAny_seqItems hS rfl (wpAny_pure ?_))
  show wpAny _ A.in1 (updateSeq S (fun _ => #[]) >>= fun _ => letGo (#[] : Array Value).toList.reverse >>= fun _ => Builtin.List.listExtendWith (.ref S) (.ref it) .none) _ _ s
  refine wpAny_bind (wpAny_updateSeq hS rfl ?_)
  have hS₂ := Heap.get?_update_self (Obj.mapSeq (fun _ => (#[] : Array Value))) hS rfl
  have oth : ∀ b o, b ≠ S → s.heap.get? b = some o → (s.heap.update S (Obj.mapSeq (fun _ => (#[] : Array Value)))).get? b = some o :=
    fun b o hb e => (Heap.get?_update_other _ _ (Ne.symm hb)).trans e
  refine wpAny_bind (wpAny_letGo ?_)
  refine ext_lr W ty S .none _ (W.frame 0 s _ s.toks hst (Nat.le_refl _) fun b hb o e => oth b o (fun h => hSf (h ▸ hb)) e) hSf hI hS₂ hn fun s' acc' c' hm hS' hacc => ?_
  exact hR s' acc' c' (Moved.trans W.gtrans ((Moved.refl W.grefl).then_heap (Nat.le_refl _) fun b o hb e => oth b o (fun h => hb (h ▸ List.mem_cons_self)) e) hm) hS' hacc
end
section
variable {prog : Program} {w : World} {A : Around} {E : Value → Shared → Prop} {s : Shared}
variable {it : Addr} {fp wr : List Addr} {G : Array GenState → Array GenState → Prop} {n : Nat} {P : Nat → Value → Prop} {St : Nat → Shared → Prop}
theorem call_list_lr {Q : Value → Shared → Prop} (W : WalksS prog w A.in1.in1 it fp wr G n P St) (ty : ∀ i s, St i s → s.TypeIs (.ref it) "list_reverseiterator") (hst : St 0 s) (hfp : ∀ b ∈ fp, b < s.heap.objs.size) (hI : it ∈ fp) (hn : n ≤ sizeLine)
    (hQ : ∀ s' acc' c', Moved (s.heap.objs.size :: wr) G { s with heap := s.heap.push { cls := .type "list", data := .seq #[] } } s' →
      s'.heap.get? s.heap.objs.size = some { cls := .type "list", dict := none, data := .seq acc' c', slots := #[] } → ItemsOf P acc' n → Q (.ref s.heap.objs.size) s') :
    wpAny (model prog w) A (call (.type "list") [.ref it]) Q E s := by
  have hSf : s.heap.objs.size ∉ fp := fun hm => Nat.lt_irrefl _ (hfp _ hm)
  refine callType_codes (Q₁ := fun obj s₁ => obj = .ref s.heap.objs.size ∧ s₁ = { s with heap := s.heap.push { cls := .type "list", data := .seq #[] } }) F.called_list (F.typeCall_list_1 _) F.entry_list_init
    (code_list_new _ ⟨rfl, rfl⟩) fun obj s₁ h₁ => ?_
  obtain ⟨rfl, rfl⟩ := h₁
  have hS : (s.heap.push { cls := .type "list", data := .seq #[] }).get? s.heap.objs.size = some { cls := .type "list", data := .seq #[] } := Heap.get?_push_size _ rfl
  refine ⟨⟨_, hS, rfl⟩, F.args_list_init_2 _ _, init_lr W ty _ (W.frame 0 s _ s.toks hst (Nat.le_refl _) fun b _ o e => Heap.get?_push_of_some _ e) hSf hI hS hn fun s' acc' c' hm hS' hacc => ?_⟩
  exact ⟨rfl, hQ s' acc' c' hm hS' hacc⟩
end
section
variable {prog : Program} {w : World} {A : Around} {E : Value → Shared → Prop} {s : Shared} {r l : Addr} {xs : Array Value}
theorem call_list_revT {Q : Value → Shared → Prop} (hh : A.handled = none) (ne : r ≠ l) (hz : (xs.size : Int) < 2 ^ 63) (hn : xs.size ≤ sizeLine) (y : IsRevT s.heap r l ((xs.size : Int) - 1)) (yt : IsTup s.heap l xs)
    (hQ : ∀ s' acc' c', Moved [s.heap.objs.size, r] (fun a b => b = a) { s with heap := s.heap.push { cls := .type "list", data := .seq #[] } } s' →
      s'.heap.get? s.heap.objs.size = some { cls := .type "list", dict := none, data := .seq acc' c', slots := #[] } → ItemsOf (fun i v => xs[xs.size - 1 - i]? = some v) acc' xs.size → Q (.ref s.heap.objs.size) s') :
    wpAny (model prog w) A (call (.type "list") [.ref r]) Q E s := by
  have lr : r < s.heap.objs.size := by obtain ⟨o, e, _⟩ := y; exact Heap.lt_size e
  have ll : l < s.heap.objs.size := by obtain ⟨o, e, _⟩ := yt; exact Heap.lt_size e
  refine callType_codes (Q₁ := fun obj s₁ => obj = .ref s.heap.objs.size ∧ s₁ = { s with heap := s.heap.push { cls := .type "list", data := .seq #[] } }) F.called_list (F.typeCall_list_1 _) F.entry_list_init
    (code_list_new _ ⟨rfl, rfl⟩) fun obj s₁ h₁ => ?_
  obtain ⟨rfl, rfl⟩ := h₁
  have hS : (s.heap.push { cls := .type "list", data := .seq #[] }).get? s.heap.objs.size = some { cls := .type "list", data := .seq #[] } := Heap.get?_push_size _ rfl
  refine ⟨⟨_, hS, rfl⟩, F.args_list_init_2 _ _, ?_⟩
  show wpAny _ _ (do let old ← Builtin.List.listItems (.ref s.heap.objs.size); Builtin.List.listUpdate (.ref s.heap.objs.size) (fun _ => #[]); letGo old.toList.reverse; Builtin.List.listExtendWith (.ref s.heap.objs.size) (.ref r) .none) _ _ _
  refine wpAny_bind ?_
  unfold Builtin.List.listItems
  refine wpAny_bind (wpAny_seqItems hS rfl (wpAny_pure ?_))
  show wpAny _ _ (updateSeq s.heap.objs.size (fun _ => #[]) >>= fun _ => letGo (#[] : Array Value).toList.reverse >>= fun _ => Builtin.List.listExtendWith (.ref s.heap.objs.size) (.ref r) .none) _ _ _
  refine wpAny_bind (wpAny_updateSeq hS rfl ?_)
  have hS₂ := Heap.get?_update_self (Obj.mapSeq (fun _ => (#[] : Array Value))) hS rfl
  have oth : ∀ b o, b ≠ s.heap.objs.size → (s.heap.push { cls := .type "list", data := .seq #[] }).get? b = some o → ((s.heap.push { cls := .type "list", data := .seq #[] }).update s.heap.objs.size (Obj.mapSeq (fun _ => (#[] : Array Value)))).get? b = some o :=
    fun b o hb e => (Heap.get?_update_other _ _ (Ne.symm hb)).trans e
  refine wpAny_bind (wpAny_letGo ?_)
  have y2 : IsRevT ((s.heap.push { cls := .type "list", data := .seq #[] }).update s.heap.objs.size (Obj.mapSeq (fun _ => (#[] : Array Value)))) r l ((xs.size : Int) - 1) := by
    obtain ⟨o, e, q⟩ := y
    exact ⟨o, oth _ _ (Nat.ne_of_lt lr) (Heap.get?_push_of_some _ e), q⟩
  have yt2 : IsTup ((s.heap.push { cls := .type "list", data := .seq #[] }).update s.heap.objs.size (Obj.mapSeq (fun _ => (#[] : Array Value)))) l xs := by
    obtain ⟨o, e, q⟩ := yt
    exact ⟨o, oth _ _ (Nat.ne_of_lt ll) (Heap.get?_push_of_some _ e), q⟩
  refine ext_rv (A := A.in1) (R := wants (fun r s₂ => r = Value.none ∧ Q (Value.ref s.heap.objs.size) s₂) E) (s := { s with heap := (s.heap.push { cls := .type "list", data := .seq #[] }).update s.heap.objs.size (Obj.mapSeq (fun _ => (#[] : Array Value))) }) hh ne hz hn s.heap.objs.size .none _ y2 yt2 (Nat.ne_of_gt lr) (Nat.ne_of_gt ll) hS₂ fun s' acc' c' hm hS' hacc => ⟨rfl, hQ s' acc' c' ?_ hS' hacc⟩
  exact Moved.trans (s' := { s with heap := (s.heap.push { cls := .type "list", data := .seq #[] }).update s.heap.objs.size (Obj.mapSeq (fun _ => (#[] : Array Value))) }) (fun a b c h k => by rw [k, h]) ⟨fun b o hb e => oth b o (fun h => hb (by rw [h]; exact List.mem_cons_self)) e, rfl, rfl, rfl, Nat.le_refl _⟩ hm
end
theorem vals_rev : ∀ {xs : List V} {us : List Value}, Vals xs us → Vals xs.reverse us.reverse := by
  intro xs us h
  induction h with
  | nil => exact .nil
  | cons p q ih => rw [List.reverse_cons, List.reverse_cons]; exact ih.append (.cons p .nil)
theorem rev_vals {xs : List V} {its : List Value} {acc : Array Value} (rv : Vals xs its) (h : ItemsOf (fun i v => its.toArray[its.toArray.size - 1 - i]? = some v) acc its.toArray.size) : ∃ us, acc = us.toArray ∧ Vals xs.reverse us := by
  refine ⟨acc.toList, by simp, ?_⟩
  have e : acc.toList = its.reverse := by
    apply List.ext_getElem?
    intro j
    have sz := h.1
    simp only [List.size_toArray] at sz
    rcases Nat.lt_or_ge j acc.size with y | y
    · have z := h.2 j acc[j] (Array.getElem?_eq_getElem y)
      simp only [List.size_toArray, List.getElem?_toArray] at z
      rw [Array.getElem?_toList, Array.getElem?_eq_getElem y, List.getElem?_reverse (by omega), z]
    · rw [List.getElem?_eq_none (by simpa using y), List.getElem?_eq_none (by simp; omega)]
  rw [e]
  exact vals_rev rv
section
variable {X : Cx}
def tListRev (K : PySem.W.Frag) (te : TE) : TE := fun σ H Q => te σ H fun x H1 => ∃ a xs, x = .ref a ∧ (SqT K H1 a xs ∨ SqL K H1 a xs) ∧ ∀ l, H1 l = none → Q (.ref l) (upd H1 l (.lst xs.reverse))
theorem pe_listRev {e : Expr} {te : TE} {p0 p1 p2 pos : Pos} (hc : X.calm = true) (hm0 : X.mg "list" = none) (hm : X.mg "reversed" = none) (he : PE X e te) (hg0 : Gl X "list" := by rfl) (hg : Gl X "reversed" := by rfl)
    (hs0 : starEach [Expr.Call (.Name "reversed" p1) [e] [] p2] X.env = [(false, eval (.Call (.Name "reversed" p1) [e] [] p2) X.env)] := by rfl) (hs : starEach [e] X.env = [(false, eval e X.env)] := by rfl) :
    PE X (.Call (.Name "list" p0) [.Call (.Name "reversed" p1) [e] [] p2] [] pos) (tListRev X.K te) := by
  intro pins s σ H Q I h
  refine wpAny_Call_Name_kw (ld_blt I hg0 hm0 (show bootBuiltins "list" = some (.type "list") by decide +kernel) (PyProof.Rows.callWith_type1 ?_ hs0 rfl))
  rw [hs0]
  show wpAny _ _ (spliced ((false, eval (.Call (.Name "reversed" p1) [e] [] p2) X.env) :: backTo pos [])) _ _ _
  refine Calls.spliced_cons ?_
  refine wpAny_Call_Name_kw (ld_blt I hg hm boot_reversed ?_)
  refine PyProof.Rows.callWith_type1 (thn (pa_cons he pa_nil hs p2 pins _ σ H (fun vs H1 => match vs with | [x] => ∃ a xs, x = .ref a ∧ (SqT X.K H1 a xs ∨ SqL X.K H1 a xs) ∧ ∀ l, H1 l = none → Q (.ref l) (upd H1 l (.lst xs.reverse)) | _ => False) I h) fun us s1 ⟨vs, H1, I1, r1, q1⟩ => ?_) hs rfl
  match vs, r1, q1 with
  | [x], r1, q1 =>
    obtain ⟨a, xs, rfl, hx, q⟩ := (show ∃ a xs, x = .ref a ∧ (SqT X.K H1 a xs ∨ SqL X.K H1 a xs) ∧ ∀ l, H1 l = none → Q (.ref l) (upd H1 l (.lst xs.reverse)) from q1)
    obtain ⟨u, rfl, ru⟩ := vals1 r1
    obtain rfl : u = Value.ref a := ru
    have l63 := line63
    rcases hx with hq | hq
    · obtain ⟨its, rv, yt, hz⟩ := I1.tuple hq
      have hl := rv.length
      have hz2 : its.toArray.size ≤ sizeLine := by simp; omega
      refine call_revT yt (by simp; omega) fun h' y kp => Calls.spliced_nil ?_
      have la : a < s1.heap.objs.size := by obtain ⟨o, e, _⟩ := yt; exact Heap.lt_size e
      have lr : s1.heap.objs.size < h'.objs.size := by obtain ⟨o, e, _⟩ := y; exact Heap.lt_size e
      have yt2 : IsTup h' a its.toArray := by obtain ⟨o, e, q⟩ := yt; exact ⟨o, kp _ _ e, q⟩
      show wpAny _ _ (call (.type "list") [.ref s1.heap.objs.size]) _ _ _
      refine call_list_revT (s := { s1 with heap := h', toks := s1.toks + 1 + 1 }) (I1.ok.hd hc) (Nat.ne_of_gt la) (by simp; omega) hz2 y yt2 fun s' acc' c' mv hS' items => ?_
      obtain ⟨us, rfl, rv2⟩ := rev_vals rv items
      obtain ⟨h2, g', d', tk', os'⟩ := s'
      have m1 : g' = s1.gens := mv.gens
      have m2 : d' = s1.drawn := mv.drawn
      have m3 : os' = s1.os := mv.os
      subst m1 m2 m3
      have kp2 : ∀ b o, s1.heap.get? b = some o → h2.get? b = some o := fun b o e => mv.heap b o (fun hb => by
        have lb := Heap.lt_size e
        rcases List.mem_cons.mp hb with rfl | hb
        · exact absurd (Nat.lt_trans lr lb) (Nat.lt_irrefl _)
        · obtain rfl := List.mem_singleton.mp hb
          exact absurd lb (Nat.lt_irrefl _)) (Heap.get?_push_of_some _ (kp b o e))
      exact ⟨.ref h'.objs.size, _, I1.laid (t' := tk') kp2 (Nat.le_of_lt lr) (show ObjOk X.prog X.w _ h2 _ (.lst xs.reverse) from ⟨by simpa using hz, us, c', rv2, hS'⟩), rfl, q _ (I1.hok.fresh (Nat.le_of_lt lr))⟩
    · obtain ⟨its, rv, pl, hz⟩ := I1.list hq
      have hl := rv.length
      have hz2 : its.toArray.size ≤ sizeLine := by simp; omega
      have il := pl.isList
      obtain ⟨o0, g0, _⟩ := id il
      have la : a < s1.heap.objs.size := Heap.lt_size g0
      refine call_reversed_list il (Calls.spliced_nil ?_)
      show wpAny _ _ (call (.type "list") [.ref s1.heap.objs.size]) _ _ _
      have W := (Walks.listRev (prog := X.prog) (w := X.w) (A := X.A.in1.in1) (show X.A.in1.in1.handled = none from I1.ok.hd hc) s1.heap.objs.size a (Nat.ne_of_lt la) its.toArray).toS
      refine call_list_lr W (fun i s z => z.2.1.typeIs) ⟨Nat.zero_le _, ⟨_, Heap.get?_push_size _ rfl, rfl, by simp [revObj]⟩, il.at fun o e => Heap.get?_push_of_some _ e⟩ (fun b hb => ?_) (by simp) hz2 fun s' acc' c' mv hS' items => ?_
      · show b < (s1.heap.push _).objs.size
        rw [Heap.size_push]
        rcases List.mem_cons.mp hb with rfl | hb
        · exact Nat.lt_succ_self _
        · obtain rfl : b = a := by simpa using hb
          exact Nat.lt_succ_of_lt la
      obtain ⟨us, rfl, rv2⟩ := rev_vals rv items
      obtain ⟨h2, g', d', tk', os'⟩ := s'
      have m1 : g' = s1.gens := mv.gens
      have m2 : d' = s1.drawn := mv.drawn
      have m3 : os' = s1.os := mv.os
      subst m1 m2 m3
      have zz : ∀ o, (s1.heap.push o).objs.size = s1.heap.objs.size + 1 := fun o => Heap.size_push ..
      have kp2 : ∀ b o, s1.heap.get? b = some o → h2.get? b = some o := fun b o e => mv.heap b o (fun hb => by
        have lb := Heap.lt_size e
        rcases List.mem_cons.mp hb with y | hb
        · have y : b = (s1.heap.push (revObj a ((its.toArray.size : Int) - 1))).objs.size := y
          rw [zz] at y
          subst y
          exact absurd lb (Nat.not_lt.mpr (Nat.le_succ _))
        · obtain rfl : b = s1.heap.objs.size := by simpa using hb
          exact absurd lb (Nat.lt_irrefl _)) (Heap.get?_push_of_some _ (Heap.get?_push_of_some _ e))
      have ls : s1.heap.objs.size ≤ (s1.heap.push (revObj a ((its.toArray.size : Int) - 1))).objs.size := by rw [zz]; omega
      exact ⟨.ref _, _, I1.laid (t' := tk') kp2 ls (show ObjOk X.prog X.w _ h2 _ (.lst xs.reverse) from ⟨by simpa using hz, us, c', rv2, hS'⟩), rfl, q _ (I1.hok.fresh ls)⟩
end
end L2
namespace Mt
def part (t b xs : List Rat) (n : Nat) : Nat → Rat
  | 0 => cf t n
  | j + 1 => part t b xs n j - cf b (j + 1) * cf xs (n - (j + 1))
def sl (t b : List Rat) : Nat → List Rat
  | 0 => []
  | n + 1 => sl t b n ++ [part t b (sl t b n) n (min n (b.length - 1)) / cf b 0]
theorem sl_len (t b : List Rat) : ∀ n, (sl t b n).length = n
  | 0 => rfl
  | n + 1 => by rw [sl, List.length_append, sl_len t b n]; rfl
def sn (t b : List Rat) (i : Nat) : Rat := cf (sl t b (i + 1)) i
theorem cf_snoc_lt {l : List Rat} {x : Rat} {i : Nat} (h : i < l.length) : cf (l ++ [x]) i = cf l i := by
  unfold cf; rw [List.getD_eq_getElem?_getD, List.getD_eq_getElem?_getD, List.getElem?_append_left h]
theorem cf_snoc_eq {l : List Rat} {x : Rat} : cf (l ++ [x]) l.length = x := by
  unfold cf; rw [List.getD_eq_getElem?_getD, List.getElem?_append_right (Nat.le_refl _)]; simp
theorem cf_sl (t b : List Rat) : ∀ {m i : Nat}, i < m → cf (sl t b m) i = sn t b i
  | 0, i, h => absurd h (by omega)
  | m + 1, i, h => by
    rcases Nat.lt_or_ge i m with z | z
    · rw [sl, cf_snoc_lt (by rw [sl_len]; exact z), cf_sl t b z]
    · obtain rfl : i = m := by omega
      rfl
theorem sn_eq (t b : List Rat) (n : Nat) : sn t b n = part t b (sl t b n) n (min n (b.length - 1)) / cf b 0 := by
  have := cf_snoc_eq (l := sl t b n) (x := part t b (sl t b n) n (min n (b.length - 1)) / cf b 0)
  rw [sl_len] at this
  exact this
theorem part_succ (t b : List Rat) {n j : Nat} (h : j < n) : part t b (sl t b n) n (j + 1) = part t b (sl t b n) n j - cf b (j + 1) * sn t b (n - (j + 1)) := by
  rw [part, cf_sl t b (by omega)]
def tot (t b : List Rat) (n : Nat) : Nat → Rat
  | 0 => 0
  | k + 1 => tot t b n k + cf b k * sn t b (n - k)
theorem tot_part (t b : List Rat) (n : Nat) : ∀ j, j ≤ n → tot t b n (j + 1) = cf b 0 * sn t b n + cf t n - part t b (sl t b n) n j
  | 0, _ => by rw [tot, tot, part, Nat.sub_zero]; grind
  | j + 1, h => by
    rw [tot, tot_part t b n j (by omega), part_succ t b (by omega)]; grind
theorem tot_is (t b : List Rat) (h0 : cf b 0 ≠ 0) (n : Nat) : tot t b n (min (n + 1) b.length) = cf t n := by
  have hl : 0 < b.length := by
    rcases Nat.eq_zero_or_pos b.length with z | z
    · exact absurd (cf_ge (by omega)) h0
    · exact z
  rw [show min (n + 1) b.length = min n (b.length - 1) + 1 by omega, tot_part t b n _ (by omega), sn_eq]
  generalize part t b (sl t b n) n (min n (b.length - 1)) = p
  rw [Rat.mul_comm, Rat.div_mul_cancel h0]
  grind
abbrev M0 : Nat := 999999 * B0
section
variable {t b : List Rat} {c : Int} (ht : ∀ k, Wg (cf t k)) (hb : ∀ k, Wg (cf b k)) (h0 : cf b 0 ≠ 0) (hc : cf b 0 * ((B0 : Int) : Rat) = c) (hm : c.natAbs ≤ M0)
include ht hb hm in
end
end Mt
namespace Mt
def dot (ms f : List Rat) : Rat := Su (fun n => cf f n * cf ms n) f.length
end Mt
namespace Mt
def x1 (l : Rat) : List Rat := trim [-l, 1]
def nx2 (l d : Rat) (f g : List Rat) : List Rat := psub (pmul (x1 l) f) (pscale g d)
def rpf (L D : Nat → Rat) : Nat → List Rat
  | 0 => [1]
  | 1 => nx2 (L 0) 0 [1] []
  | n + 2 => nx2 (L (n + 1)) (D n) (rpf L D (n + 1)) (rpf L D n)
def rp (L D : List Rat) (n : Nat) : List Rat := rpf (cf L) (cf D) n
theorem mc_x1 (l : Rat) (f : List Rat) (k : Nat) : mc (x1 l) f k = sh f 1 k - l * cf f k := by
  rw [x1, mc_ext_left (f' := [-l, 1]) (fun n => cf_trim _ n)]
  rcases k with _ | k
  · simp only [mc, sh]; grind
  · rcases k with _ | k
    · simp only [mc, sh]; grind
    · simp only [mc, sh, Nat.add_sub_cancel]
      rw [if_pos (by omega)]; grind
theorem cf_nx2 (l d : Rat) (f g : List Rat) (k : Nat) : cf (nx2 l d f g) k = sh f 1 k - l * cf f k - d * cf g k := by
  rw [nx2, cf_psub, cf_pmul, cf_pscale, mc_x1]; grind
theorem NZ_nx2 (l d : Rat) (f g : List Rat) : NZ (nx2 l d f g) := NZ_psub _ _
theorem gp_nx2 {n : Nat} {l d : Rat} {f g : List Rat} (hf : Gp (n + 1) f) (hg : Gp n g) (hl : Wg l) (hd : Wg d) : Gp (n + 2) (nx2 l d f g) := by
  intro k
  rw [cf_nx2]
  have h1 : Lat (B0 ^ (n + 1) * B0) (A0 ^ (n + 1) * B0) (sh f 1 k) := (hf.sh 1 k).up
  have h2 : Lat (B0 * B0 ^ (n + 1)) (999999 * B0 * A0 ^ (n + 1)) (l * cf f k) := hl.mul (hf k)
  have h3 : Lat (B0 * B0 ^ n * B0) (999999 * B0 * A0 ^ n * B0) (d * cf g k) := (hd.mul (hg k)).up
  rw [show B0 * B0 ^ (n + 1) = B0 ^ (n + 1) * B0 from Nat.mul_comm _ _] at h2
  rw [show B0 * B0 ^ n = B0 ^ (n + 1) by rw [Nat.pow_succ, Nat.mul_comm]] at h3
  rw [Rat.sub_eq_add_neg, Rat.sub_eq_add_neg, show B0 ^ (n + 2) = B0 ^ (n + 1) * B0 from Nat.pow_succ ..]
  refine ((h1.add h2.neg).add h3.neg).mono ?_
  rw [show A0 ^ (n + 2) = A0 ^ (n + 1) * A0 from Nat.pow_succ .., show A0 ^ (n + 1) = A0 ^ n * A0 from Nat.pow_succ ..]
  generalize A0 ^ n = X
  simp only [A0, B0]
  omega
theorem gp_x1 {a : Rat} (h : Wg a) : Gp 1 (x1 a) := fun k => by
  rw [x1, cf_trim]
  rcases k with _ | _ | k
  · rw [cf_zero, Nat.pow_one, Nat.pow_one]; exact h.neg.mono (by decide)
  · exact gp_one1 0
  · rw [cf_succ, cf_succ, cf_nil]; exact Lat.zero
theorem rp_one_cf (L D : List Rat) (k : Nat) : cf (rp L D 1) k = cf (x1 (cf L 0)) k := by
  show cf (nx2 (cf L 0) 0 [1] []) k = _
  rw [cf_nx2, x1, cf_trim, cf_nil]
  rcases k with _ | _ | k
  · rw [sh, if_neg (by omega), cf_zero, cf_zero]; grind
  · rw [sh, if_pos (by omega), cf_succ, cf_succ, cf_nil, cf_zero]; grind
  · rw [sh, if_pos (by omega), cf_succ, cf_succ, cf_succ, cf_nil, cf_nil, show k + 1 + 1 - 1 = k + 1 by omega, cf_succ, cf_nil]; grind
theorem rp_one (L D : List Rat) : rp L D 1 = x1 (cf L 0) := (NZ_nx2 _ _ _ _).ext (NZ_trim _) (rp_one_cf L D)
theorem x1_is (a : Rat) : x1 a = [-a, 1] := trim_NZ (.inr (by show cf [-a, 1] 1 ≠ 0; rw [cf_succ, cf_zero]; decide))
theorem gp_rp {L D : List Rat} (hL : ∀ h, Wg (cf L h)) (hD : ∀ h, Wg (cf D h)) : ∀ n, Gp n (rp L D n)
  | 0 => gp_one
  | 1 => by rw [rp_one]; exact gp_x1 (hL 0)
  | n + 2 => gp_nx2 (gp_rp hL hD (n + 1)) (gp_rp hL hD n) (hL _) (hD _)
theorem NZ_rp (L D : List Rat) : ∀ n, NZ (rp L D n)
  | 0 => NZ_one
  | 1 => NZ_nx2 _ _ _ _
  | _ + 2 => NZ_nx2 _ _ _ _
theorem rp_top (L D : List Rat) : ∀ n, cf (rp L D n) n = 1 ∧ ∀ k, n < k → cf (rp L D n) k = 0
  | 0 => ⟨rfl, fun k h => by obtain ⟨m, rfl⟩ : ∃ m, k = m + 1 := ⟨k - 1, by omega⟩; show cf [1] (m + 1) = 0; rw [cf_succ, cf_nil]⟩
  | 1 => by
    rw [rp_one, x1_is]
    refine ⟨rfl, fun k h => ?_⟩
    obtain ⟨m, rfl⟩ : ∃ m, k = m + 2 := ⟨k - 2, by omega⟩
    rw [cf_succ, cf_succ, cf_nil]
  | n + 2 => by
    have a := rp_top L D (n + 1)
    have b := rp_top L D n
    have e : ∀ k, cf (rp L D (n + 2)) k = sh (rp L D (n + 1)) 1 k - cf L (n + 1) * cf (rp L D (n + 1)) k - cf D n * cf (rp L D n) k := fun k => cf_nx2 _ _ _ _ k
    constructor
    · rw [e, sh, if_pos (by omega), show n + 2 - 1 = n + 1 by omega, a.1, a.2 _ (by omega), b.2 _ (by omega)]; grind
    · intro k h
      rw [e, sh, if_pos (by omega), a.2 _ (by omega), a.2 _ (by omega), b.2 _ (by omega)]; grind
theorem rp_len (L D : List Rat) (n : Nat) : (rp L D n).length = n + 1 := by
  have h := rp_top L D n
  have a : (rp L D n).length ≤ n + 1 := (NZ_rp L D n).le fun k hk => h.2 k (by omega)
  rcases Nat.lt_or_ge n (rp L D n).length with z | z
  · omega
  · have := h.1
    rw [cf_ge z] at this
    exact absurd this (by decide)
end Mt
namespace Mt
section
variable {L D : List Rat} {h : Nat}
def fw (L D : List Rat) (h j m : Nat) : Rat := if j < h then sm (cf L) (cf D) h j m 0 else 0
def wl (L D : List Rat) (h N : Nat) : List Rat := (List.range N).map fun m => fw L D h 0 m
theorem cf_wl (N k : Nat) (hk : k < N) : cf (wl L D h N) k = fw L D h 0 k := by rw [wl, cf_map_range, if_pos hk]
theorem fw_zero (j : Nat) (hh : 0 < h) : fw L D h (j + 1) 0 = 0 := by
  unfold fw
  split
  · rw [sm_zero hh, if_neg (by omega)]
  · rfl
theorem fw_step (hh : 0 < h) (j m : Nat) (hj : j + 1 < h) : fw L D h (j + 2) m = fw L D h (j + 1) (m + 1) - cf L (j + 1) * fw L D h (j + 1) m - cf D j * fw L D h j m := by
  have e := first (L := cf L) (D := cf D) (top := h) (i := j + 1) hj m 0 hh
  unfold fw
  rw [if_pos hj, if_pos (show j < h by omega), if_pos hj, e, if_pos (show 0 < j + 1 by omega), show j + 1 - 1 = j by omega]
  rw [show j + 1 + 1 = j + 2 by omega]
  split <;> grind
theorem fw_first (hh : 0 < h) (m : Nat) : fw L D h 1 m = fw L D h 0 (m + 1) - cf L 0 * fw L D h 0 m := by
  have e := first (L := cf L) (D := cf D) (top := h) (i := 0) hh m 0 hh
  unfold fw
  rw [if_pos hh, if_pos hh, e, if_neg (show ¬ 0 < 0 by omega)]
  split <;> grind
theorem shf_of {F : Nat → Rat} {i k : Nat} (hk : i ≤ k) : shf F i k = F (k - i) := if_pos hk
theorem shf_no {F : Nat → Rat} {i k : Nat} (hk : k < i) : shf F i k = 0 := if_neg (by omega)
theorem mc_one (f : List Rat) (k : Nat) : mc [1] f k = cf f k := by
  rcases k with _ | k
  · rw [mc]; grind
  · rw [mc, mc_nil_left]; grind
theorem ends_walk (N : Nat) (hh : 0 < h) : ∀ j, j ≤ h → ∀ k, k < N → mc (bt L D j) (wl L D h N) k - cf (tp L D j) k = shf (fw L D h j) j k
  | 0, _, k, hk => by
    rw [show bt L D 0 = [1] from rfl, show tp L D 0 = [] from rfl, mc_one, cf_nil, cf_wl N k hk, shf_of (Nat.zero_le _), Nat.sub_zero]; grind
  | 1, hj, k, hk => by
    rw [show bt L D 1 = l1 (cf L 0) from rfl, show tp L D 1 = [1] from rfl, mc_l1, cf_wl N k hk]
    rcases k with _ | k
    · rw [shf_no (by omega), cf_zero, sh, if_neg (by omega)]
      unfold fw
      rw [if_pos hh, sm_zero hh, if_pos rfl]; grind
    · rw [shf_of (by omega), cf_succ, cf_nil, sh, if_pos (by omega), Nat.add_sub_cancel, cf_wl N k (by omega), fw_first hh]; grind
  | j + 2, hj, k, hk => by
    have a := ends_walk N hh (j + 1) (by omega)
    have b := ends_walk N hh j (by omega)
    have e1 : mc (bt L D (j + 2)) (wl L D h N) k = mc (bt L D (j + 1)) (wl L D h N) k - cf L (j + 1) * shf (mc (bt L D (j + 1)) (wl L D h N)) 1 k - cf D j * shf (mc (bt L D j) (wl L D h N)) 2 k := mc_nxt_left _ _ _ _ _ k
    have e2 : cf (tp L D (j + 2)) k = cf (tp L D (j + 1)) k - cf L (j + 1) * sh (tp L D (j + 1)) 1 k - cf D j * sh (tp L D j) 2 k := cf_nxt _ _ _ _ k
    rw [e1, e2]
    have s1 : shf (mc (bt L D (j + 1)) (wl L D h N)) 1 k - sh (tp L D (j + 1)) 1 k = if 1 ≤ k then shf (fw L D h (j + 1)) (j + 1) (k - 1) else 0 := by
      unfold shf sh
      split
      · have := a (k - 1) (by omega)
        unfold shf at this
        rw [this]
      · grind
    have s2 : shf (mc (bt L D j) (wl L D h N)) 2 k - sh (tp L D j) 2 k = if 2 ≤ k then shf (fw L D h j) j (k - 2) else 0 := by
      unfold shf sh
      split
      · have := b (k - 2) (by omega)
        unfold shf at this
        rw [this]
      · grind
    have s0 := a k hk
    have key : shf (fw L D h (j + 1)) (j + 1) k - cf L (j + 1) * (if 1 ≤ k then shf (fw L D h (j + 1)) (j + 1) (k - 1) else 0) - cf D j * (if 2 ≤ k then shf (fw L D h j) j (k - 2) else 0) = shf (fw L D h (j + 2)) (j + 2) k := by
      rcases Nat.lt_or_ge k (j + 2) with z | z
      · rw [shf_no z]
        rcases Nat.lt_or_ge k (j + 1) with y | y
        · rw [shf_no y]
          have p1 : (if 1 ≤ k then shf (fw L D h (j + 1)) (j + 1) (k - 1) else 0) = 0 := by split; exact shf_no (by omega); rfl
          have p2 : (if 2 ≤ k then shf (fw L D h j) j (k - 2) else 0) = 0 := by
            split
            · exact shf_no (by omega)
            · rfl
          rw [p1, p2]; grind
        · obtain rfl : k = j + 1 := by omega
          rw [shf_of (Nat.le_refl _), Nat.sub_self, fw_zero j hh]
          have p1 : (if 1 ≤ j + 1 then shf (fw L D h (j + 1)) (j + 1) (j + 1 - 1) else 0) = 0 := by split; exact shf_no (by omega); rfl
          have p2 : (if 2 ≤ j + 1 then shf (fw L D h j) j (j + 1 - 2) else 0) = 0 := by
            split
            · exact shf_no (by omega)
            · rfl
          rw [p1, p2]; grind
      · obtain ⟨m, rfl⟩ : ∃ m, k = j + 2 + m := ⟨k - (j + 2), by omega⟩
        rw [shf_of (by omega), shf_of (by omega), if_pos (by omega), if_pos (by omega), shf_of (by omega), shf_of (by omega), show j + 2 + m - (j + 1) = m + 1 by omega, show j + 2 + m - (j + 2) = m by omega, show j + 2 + m - 1 - (j + 1) = m by omega, show j + 2 + m - 2 - j = m by omega]
        rcases Nat.lt_or_ge (j + 1) h with y | y
        · rw [fw_step hh j m y]
        · omega
    rw [← key, ← s0, ← s1, ← s2]
    grind
theorem ends_are (N : Nat) (hh : 0 < h) (k : Nat) (hk : k < N) : mc (bt L D h) (wl L D h N) k = cf (tp L D h) k := by
  have := ends_walk (L := L) (D := D) N hh h (Nat.le_refl _) k hk
  have z : shf (fw L D h h) h k = 0 := by
    unfold shf
    split
    · unfold fw; rw [if_neg (by omega)]
    · rfl
  rw [z] at this
  grind
end
end Mt
namespace Mt
theorem mc_take_end (b W : List Rat) (n : Nat) : mc (b.take (min (n + 1) b.length)) W n = mc b W n := by
  rcases Nat.lt_or_ge b.length (n + 1) with z | z
  · rw [Nat.min_eq_right (by omega), List.take_length]
  · rw [Nat.min_eq_left z]
    have go : ∀ k, n + 1 + k ≤ b.length → mc (b.take (n + 1 + k)) W n = mc (b.take (n + 1)) W n := by
      intro k
      induction k with
      | zero => intro _; rfl
      | succ k ih =>
        intro hk
        rw [show n + 1 + (k + 1) = (n + 1 + k) + 1 by omega, mc_take_succ b W (n + 1 + k) n (by omega), if_neg (by omega), ih (by omega)]; grind
    have := go (b.length - (n + 1)) (by omega)
    rw [show n + 1 + (b.length - (n + 1)) = b.length by omega, List.take_length] at this
    exact this.symm
theorem sl_unique {t b W : List Rat} {N : Nat} (h0 : cf b 0 ≠ 0) (h : ∀ k, k < N → mc b W k = cf t k) : ∀ n k, k < n → n ≤ N → sn t b k = cf W k
  | 0, k, hk, _ => absurd hk (by omega)
  | n + 1, k, hk, hn => by
    have ih := fun i hi => sl_unique h0 h n i hi (by omega)
    rcases Nat.lt_or_ge k n with z | z
    · exact ih k z
    · obtain rfl : k = n := by omega
      have hl : 0 < b.length := by
        rcases Nat.eq_zero_or_pos b.length with z | z
        · exact absurd (cf_ge (by omega)) h0
        · exact z
      have go : ∀ i, i ≤ k → i + 1 ≤ b.length → tot t b k (i + 1) - mc (b.take (i + 1)) W k = cf b 0 * (sn t b k - cf W k) := by
        intro i
        induction i with
        | zero =>
          intro _ _
          rw [tot, tot, mc_take_succ b W 0 k hl, List.take_zero, mc_nil_left, if_pos (by omega), Nat.sub_zero]; grind
        | succ i ihi =>
          intro hi1 hi2
          have := ihi (by omega) (by omega)
          rw [tot, mc_take_succ b W (i + 1) k (by omega), if_pos hi1, ih (k - (i + 1)) (by omega)]
          grind
      have e := go (min k (b.length - 1)) (by omega) (by omega)
      rw [show min k (b.length - 1) + 1 = min (k + 1) b.length by omega, tot_is t b h0 k, mc_take_end, h k (by omega)] at e
      have z : cf b 0 * (sn t b k - cf W k) = 0 := by rw [← e]; grind
      rcases Rat.mul_eq_zero.mp z with y | y
      · exact absurd y h0
      · grind
theorem bt0_ne (L D : List Rat) (h : Nat) : cf (bt L D h) 0 ≠ 0 := by rw [bt_first]; decide
theorem sn_ends (L D : List Rat) {h : Nat} (hh : 0 < h) (k : Nat) : sn (tp L D h) (bt L D h) k = sm (cf L) (cf D) h 0 k 0 := by
  have e := sl_unique (t := tp L D h) (b := bt L D h) (W := wl L D h (k + 1)) (N := k + 1) (bt0_ne L D h) (fun i hi => ends_are (k + 1) hh i hi) (k + 1) k (by omega) (Nat.le_refl _)
  rw [e, cf_wl (k + 1) k (by omega)]
  unfold fw
  rw [if_pos hh]
theorem sn_none (L D : List Rat) (k : Nat) : sn (tp L D 0) (bt L D 0) k = 0 := by
  have e := sl_unique (t := tp L D 0) (b := bt L D 0) (W := List.replicate (k + 1) 0) (N := k + 1) (bt0_ne L D 0) (fun i hi => by
    rw [show bt L D 0 = [1] from rfl, show tp L D 0 = [] from rfl, mc_one, cf_replicate, cf_nil]) (k + 1) k (by omega) (Nat.le_refl _)
  rw [e, cf_replicate]
theorem sl_is (t b : List Rat) (F : Nat → Rat) (N : Nat) (h : ∀ k, k < N → sn t b k = F k) : sl t b N = (List.range N).map F := by
  apply List.ext_getElem?
  intro j
  rcases Nat.lt_or_ge j N with z | z
  · rw [cf_lt (by rw [sl_len]; exact z), cf_sl t b z, h j z, List.getElem?_map, List.getElem?_range z]; rfl
  · rw [List.getElem?_eq_none (by rw [sl_len]; exact z), List.getElem?_eq_none (by simp; exact z)]
theorem lat_part_ends {L D : List Rat} {h : Nat} (hL : ∀ i, Wg (cf L i)) (hD : ∀ i, Wg (cf D i)) (ht : Gp h (tp L D h)) (hb : Gp h (bt L D h)) {n : Nat} : ∀ j, j ≤ n → Lat (B0 ^ (h + n)) ((j + 1) * (A0 ^ h * (W0 ^ n * B0 ^ n))) (part (tp L D h) (bt L D h) (sl (tp L D h) (bt L D h) n) n j)
  | 0, _ => by
    rw [part, Nat.zero_add, Nat.one_mul, Nat.pow_add]
    refine ((ht n).up (E := B0 ^ n)).mono (Nat.mul_le_mul_left _ ?_)
    exact Nat.le_mul_of_pos_left _ (Nat.pow_pos (by decide))
  | j + 1, hj => by
    rw [part_succ _ _ (by omega), Rat.sub_eq_add_neg, Nat.add_mul, Nat.one_mul]
    refine (lat_part_ends hL hD ht hb j (by omega)).add ?_
    have hs : Gd (n - (j + 1)) (sn (tp L D h) (bt L D h) (n - (j + 1))) := by
      rcases Nat.eq_zero_or_pos h with z | z
      · subst z; rw [sn_none]; exact Gd.zero
      · rw [sn_ends L D z]; exact gd_sm hL hD _ _
    have h1 : Lat (B0 ^ h * B0 ^ (n - (j + 1))) (A0 ^ h * (W0 ^ (n - (j + 1)) * B0 ^ (n - (j + 1)))) (cf (bt L D h) (j + 1) * sn (tp L D h) (bt L D h) (n - (j + 1))) := (hb (j + 1)).mul hs
    have h2 := h1.up (E := B0 ^ (j + 1))
    rw [Nat.mul_assoc, ← Nat.pow_add, show n - (j + 1) + (j + 1) = n by omega, ← Nat.pow_add] at h2
    refine h2.neg.mono ?_
    rw [Nat.mul_assoc, Nat.mul_assoc, ← Nat.pow_add, show n - (j + 1) + (j + 1) = n by omega]
    exact Nat.mul_le_mul_left _ (Nat.mul_le_mul_right _ (Nat.pow_le_pow_right (by decide) (by omega)))
end Mt
namespace Mt
section
variable (L D : List Rat) (T : Nat)
variable {L D T}
def smz (L D : List Rat) (T i n j : Nat) : Rat := if j < T then sm (cf L) (cf D) T i n j else 0
theorem smz_last (i n j : Nat) (hj : j + 1 < T) : smz L D T i (n + 1) (j + 1) = smz L D T i n (j + 1) * cf L (j + 1) + smz L D T i n j + smz L D T i n (j + 2) * cf D (j + 1) := by
  unfold smz
  rw [if_pos hj, if_pos hj, if_pos (show j < T by omega), sm_succ hj]
  unfold wk
  rw [if_pos (by omega), show j + 1 - 1 = j by omega, show j + 1 + 1 = j + 2 by omega]
  split <;> grind
theorem smz_first (i n : Nat) (h : 0 < T) : smz L D T i (n + 1) 0 = smz L D T i n 0 * cf L 0 + smz L D T i n 1 * cf D 0 := by
  unfold smz
  rw [if_pos h, if_pos h, sm_succ h]
  unfold wk
  rw [if_neg (by omega), show (0 : Nat) + 1 = 1 by omega]
  split <;> grind
theorem rp_one_rec (k : Nat) : cf (rp L D 1) k = sh (rp L D 0) 1 k - cf L 0 * cf (rp L D 0) k := by
  show cf (nx2 (cf L 0) 0 [1] []) k = _
  rw [cf_nx2, cf_nil]
  show _ = sh [1] 1 k - cf L 0 * cf [1] k
  grind
theorem rp_rec (j k : Nat) : cf (rp L D (j + 2)) k = sh (rp L D (j + 1)) 1 k - cf L (j + 1) * cf (rp L D (j + 1)) k - cf D j * cf (rp L D j) k := cf_nx2 _ _ _ _ k
end
end Mt
namespace Mt
def xn (n : Nat) : List Rat := List.replicate n 0 ++ [1]
theorem xn_succ (n : Nat) : xn (n + 1) = 0 :: xn n := by rw [xn, List.replicate_succ]; rfl
end Mt
namespace L2
open PySem PySem.Spec PyProof.Rows
section
variable {X : Cx} {k : Nat} {sp : Sp} {ps : List Str} {x : Str} {p pos : Pos}
end
end L2
namespace L2
open PySem PySem.Spec PyProof.Rows Builtin
section
variable {X : Cx}
end
end L2
namespace Mt
theorem gd_up {n m : Nat} {q : Rat} (h : Gd n q) (hm : n ≤ m) : Gd m q := by
  obtain ⟨c, rfl⟩ : ∃ c, m = n + c := ⟨m - n, by omega⟩
  have a : Lat (B0 ^ n * B0 ^ c) (W0 ^ n * B0 ^ n * B0 ^ c) q := h.up
  show Lat (B0 ^ (n + c)) (W0 ^ (n + c) * B0 ^ (n + c)) q
  rw [Nat.pow_add B0, Nat.pow_add W0]
  refine a.mono ?_
  rw [Nat.mul_assoc]
  exact Nat.mul_le_mul_right _ (Nat.le_mul_of_pos_right _ (Nat.pow_pos (by decide)))
theorem ln_xn (n : Nat) : Ln 0 0 (xn n) := ⟨1, 1, by decide, by decide, by decide, fun k => by
  have z : ∀ n k, cf (xn n) k = 0 ∨ cf (xn n) k = 1 := fun n => by
    induction n with
    | zero => intro k; cases k with
      | zero => right; rfl
      | succ k => left; exact cf_ge (by simp [xn])
    | succ n ih => intro k; rw [xn_succ]; cases k with
      | zero => left; exact cf_zero _ _
      | succ k => rw [cf_succ]; exact ih k
  rcases z n k with e | e <;> rw [e]
  · exact Lat.zero
  · exact Lat.one⟩
theorem xn_len (n : Nat) : (xn n).length = n + 1 := by simp [xn]
end Mt
namespace L2
end L2
namespace L2
open PySem PySem.Spec PyProof.Rows
def ItvL (K : PySem.W.Frag) (a : Addr) (n : Nat) : It :=
  ⟨fun i H => i < n ∧ ∃ xs, SqL K H a xs ∧ xs.length = n, fun i H x H' => H' = H ∧ ∀ xs, SqL K H a xs → xs[n - 1 - i]? = some x, fun i _ => i = n⟩
theorem turn_revL {P : Program} {w : World} {K : PySem.W.Frag} {tg : Expr} (a it : Addr) (n : Nat) (hn : n ≤ sizeLine) : Turn P w K tg (ItvL K a n) [it] it (fun i h => i ≤ n ∧ h.IsRevIter it a ((n : Int) - 1 - (i : Int))) where
  mem := by simp
  obj := fun i h st b hb => by
    have e : b = it := by simpa using hb
    subst e
    obtain ⟨_, o, z, c, d⟩ := st
    exact ⟨o, z, fun v q => by rw [d] at q; cases q⟩
  keep := fun i h h' st k => by
    obtain ⟨hi, o, z, r⟩ := st
    exact ⟨hi, o, k it (by simp) _ z, r⟩
  item := by
    intro X hP hw hK hc i pins s σ H E I hf st hg
    subst hP hw hK
    obtain ⟨hi, xs, hq, hl⟩ := hg
    obtain ⟨its, rv, p, hz⟩ := I.list hq
    have hl2 := rv.length
    have hx : xs[n - 1 - i]? = some (xs[n - 1 - i]'(by omega)) := List.getElem?_eq_getElem (by omega)
    obtain ⟨u, hu, ru⟩ := rv.get hx
    obtain ⟨f0, f1, f2, f3, f4, f5⟩ := hf it (by simp)
    have e : (n : Int) - 1 - (i : Int) = ((n - 1 - i : Nat) : Int) := by omega
    have y := st.2
    rw [e] at y
    have l63 := line63
    refine wpAny_pyNext_rev_item y p.isList (x := u) (by simpa using hu) fun h' y' sb => ?_
    have sb : Heap.SameBut it s.heap h' := sb
    have I1 : Inv X pins σ H { s with heap := h', toks := s.toks } := I.turned (t' := s.toks) (fun b o hb z => (sb.2 b hb).trans z) f0 f1 f3 f4 f5
    obtain ⟨o, z, c, d⟩ := id y'
    refine ⟨u, rfl, go_of (s := { s with heap := h', toks := s.toks }) z c d (by decide) ⟨_, H, I1, ru, ⟨rfl, fun ys hy => by rw [I.list_inj hy hq]; exact hx⟩, ⟨by omega, ?_⟩, fun b hb => (hf b hb).1⟩⟩
    have e2 : ((n - 1 - i : Nat) : Int) - 1 = (n : Int) - 1 - ((i + 1 : Nat) : Int) := by omega
    rw [← e2]
    exact y'
  done := by
    intro X hP hw hK hc i pins s σ H E I hf st hg
    subst hP hw hK
    obtain ⟨f0, f1, f2, f3, f4, f5⟩ := hf it (by simp)
    have y := st.2
    have hg : i = n := hg
    rw [show (n : Int) - 1 - (i : Int) = -1 by omega] at y
    exact wpAny_pyNext_rev_end (I.ok.hd hc) y fun h' eb => ⟨rfl, I.turned (t' := s.toks) (fun b o hb z => eb b o hb z) f0 f1 f3 f4 f5⟩
  self := fun _ _ _ _ _ st h => wpAny_pyIter_revIter st.2 h
section
variable {X : Cx} {tg : Expr}
def iRevL (K : PySem.W.Frag) (ta : TA) : TI := fun σ H R => ta σ H fun vs H1 => ∃ a xs, vs = [.ref a] ∧ SqL K H1 a xs ∧ R (ItvL K a xs.length) H1
theorem pi_revL {a : Expr} {ta : TA} {p pos : Pos} (hg : Gl X "reversed") (hm : X.mg "reversed" = none) (ha : PA X [a] ta) (hs : starEach [a] X.env = [(false, eval a X.env)] := by rfl) : PI X tg (.Call (.Name "reversed" p) [a] [] pos) (iRevL X.K ta) := by
  intro pins s σ H R I h
  refine Call_ (ld_blt I hg hm (show bootBuiltins "reversed" = some (.type "reversed") by decide +kernel) (PyProof.Rows.callWith_type1 (thn (ha pos pins s σ H _ I h) fun us s1 ⟨vs, H1, I1, r1, q1⟩ => ?_) hs rfl))
  obtain ⟨b, xs, e, hq, q⟩ := q1
  subst e
  obtain ⟨u, rfl, rx⟩ := vals1 r1
  cases rx
  obtain ⟨its, rv, yt, hz⟩ := I1.list hq
  have hl := rv.length
  have l63 := line63
  refine call_reversed_list yt.isList ?_
  have y : (s1.heap.push (revObj b ((its.toArray.size : Int) - 1))).IsRevIter s1.heap.objs.size b ((its.toArray.size : Int) - 1) := ⟨_, Heap.get?_push_size _ rfl, rfl, rfl⟩
  refine wpAny_pyIter_revIter y ?_
  have e : ((its.toArray.size : Nat) : Int) - 1 = (xs.length : Int) - 1 - ((0 : Nat) : Int) := by simp; omega
  replace y : (s1.heap.push (revObj b ((its.toArray.size : Int) - 1))).IsRevIter s1.heap.objs.size b ((xs.length : Int) - 1 - ((0 : Nat) : Int)) := by rw [← e]; exact y
  refine ⟨s1.heap.objs.size, [s1.heap.objs.size], _, _, H1, rfl, I1.kept (t' := s1.toks) (fun c o e => Heap.get?_push_of_some _ e), turn_revL b _ xs.length hz, ⟨Nat.zero_le _, y⟩, fun c hc => ?_, q⟩
  have e : c = s1.heap.objs.size := by simpa using hc
  subst e
  exact I1.fpOk (Nat.le_refl _) (I1.hok.fresh (Nat.le_refl _))
def tForVL (K : PySem.W.Frag) (te : TE) (g : TG) (tb : TS) : TS := fun D σ H => te σ H fun v H1 => ∃ a xs, v = .ref a ∧ SqL K H1 a xs ∧ FL xs.reverse (fun H => SqL K H a xs) g tb D σ H1
theorem ps_forVL {l : Expr} {body : List Stmt} {te : TE} {g : TG} {tb : TS} {p pos pos' : Pos} (hc : X.calm = true) (hp : PassesOwn (model X.prog X.w) X.A X.env X.xe) (hm : X.mg "reversed" = none) (hl : PE X l te) (hgt : PG X tg g) (hb : PSs X body tb)
    (hg : Gl X "reversed" := by rfl) (hs : starEach [l] X.env = [(false, eval l X.env)] := by rfl) : PS X (.For tg (.Call (.Name "reversed" p) [l] [] pos') body [] pos) (tForVL X.K te g tb) := by
  intro pins s σ H D I h
  refine ps_for hp hc (pi_revL hg hm (pa_cons hl.mo pa_nil (by rw [hs]; rfl)) hs) hgt hb (by intro _; rfl) pins s σ H D I ?_
  refine ⟨_, h, fun v H1 ⟨a, xs, e, q, Pv, p0, pl, pt, pd⟩ => ⟨a, xs, by rw [e], q, ?_⟩⟩
  rw [List.length_reverse] at pl pd
  refine ⟨fun i m σ H => m = xs.length - i ∧ i ≤ xs.length ∧ Pv i σ H, ⟨xs.length, by simp, Nat.zero_le _, p0⟩, ?_⟩
  rintro i m σ H ⟨rfl, hi, z⟩
  have y := pl i σ H hi z
  by_cases hlt : i < xs.length
  · refine .inr ⟨⟨hlt, xs, y, rfl⟩, Pv (i + 1), fun σ' H' z' => ⟨xs.length - (i + 1), by omega, rfl, hlt, z'⟩, fun x H' yl => ?_⟩
    obtain ⟨rfl, hu⟩ := yl
    exact pt i x σ _ (by rw [List.getElem?_reverse hlt]; exact hu xs y) z
  · have e : i = xs.length := by omega
    subst e
    exact .inl ⟨rfl, pd σ H z⟩
end
section
variable {X : Cx} {es : List Expr} {y1 : Nat} {tp : Pos}
end
section
variable {X : Cx} {es : List Expr} {y1 : Nat} {tp : Pos} {a b : Expr} {te te2 : TE} {g : TG} {tb : TS} {body : List Stmt} {p pos pos' : Pos}
end
end L2
namespace Mt
section
variable (L D : List Rat) (T : Nat)
def dn (f : List Rat) : Nat → List Rat
  | 0 => f
  | j + 1 => psub (dn f j) (pscale (rp L D (T - j)) (cf (dn f j) (T - j)))
def nb (f : List Rat) (h : Nat) : Rat := cf (dn L D T f (T - h)) h
variable {L D T}
theorem cf_dn (f : List Rat) (j k : Nat) : cf (dn L D T f (j + 1)) k = cf (dn L D T f j) k - cf (rp L D (T - j)) k * cf (dn L D T f j) (T - j) := by
  rw [dn, cf_psub, cf_pscale]
theorem NZ_dn {f : List Rat} (h : NZ f) : ∀ j, NZ (dn L D T f j)
  | 0 => h
  | j + 1 => NZ_psub _ _
theorem dn_len {f : List Rat} (h : NZ f) (hl : f.length ≤ T + 1) : ∀ j, j ≤ T + 1 → (dn L D T f j).length ≤ T + 1 - j
  | 0, _ => hl
  | j + 1, hj => (NZ_dn h (j + 1)).le fun k hk => by
    have ih := dn_len h hl j (by omega)
    rw [cf_dn]
    rcases Nat.lt_or_ge (T - j) k with y | y
    · rw [cf_ge (l := dn L D T f j) (by omega), cf_ge (l := rp L D (T - j)) (by rw [rp_len]; omega)]; grind
    · obtain rfl : k = T - j := by omega
      rw [(rp_top L D (T - j)).1]; grind
def eb (T : Nat) : Nat → Nat
  | 0 => 1
  | j + 1 => eb T j + (T - j) + 1
theorem eb_le : ∀ T, T ≤ 8 → ∀ j, j ≤ 9 → eb T j ≤ 46 := by decide
theorem gp_dn (hL : ∀ h, Wg (cf L h)) (hD : ∀ h, Wg (cf D h)) {f : List Rat} (hf : Gp 1 f) : ∀ j, Gp (eb T j) (dn L D T f j)
  | 0 => hf
  | j + 1 => fun k => by
    have a := gp_dn hL hD hf j k
    have b := (gp_rp hL hD (T - j) k).mul (gp_dn hL hD hf j (T - j))
    rw [cf_dn]
    have e1 : Lat (B0 ^ eb T j * B0 ^ (T - j + 1)) (A0 ^ eb T j * B0 ^ (T - j + 1)) (cf (dn L D T f j) k) := a.up
    have e2 : Lat (B0 ^ (T - j) * B0 ^ eb T j * B0) (A0 ^ (T - j) * A0 ^ eb T j * B0) (-(cf (rp L D (T - j)) k * cf (dn L D T f j) (T - j))) := (b.up (E := B0)).neg
    have p1 : B0 ^ eb T j * B0 ^ (T - j + 1) = B0 ^ eb T (j + 1) := by rw [← Nat.pow_add]; rfl
    have p2 : B0 ^ (T - j) * B0 ^ eb T j * B0 = B0 ^ eb T (j + 1) := by rw [← Nat.pow_add, ← Nat.pow_succ]; congr 1; show _ = eb T j + (T - j) + 1; omega
    rw [p1] at e1
    rw [p2] at e2
    have e3 := e1.add e2
    rw [← Rat.sub_eq_add_neg] at e3
    refine e3.mono ?_
    show _ ≤ A0 ^ (eb T j + (T - j) + 1)
    have q1 : A0 ^ (eb T j + (T - j) + 1) = A0 ^ eb T j * A0 ^ (T - j) * A0 := by rw [Nat.pow_succ, Nat.pow_add]
    have q2 : B0 ^ (T - j + 1) ≤ A0 ^ (T - j) * B0 := by rw [Nat.pow_succ]; exact Nat.mul_le_mul_right _ (Nat.pow_le_pow_left (by decide) _)
    rw [q1, Nat.mul_comm (A0 ^ (T - j)) (A0 ^ eb T j), Nat.mul_assoc, Nat.mul_assoc, ← Nat.mul_add]
    refine Nat.mul_le_mul_left _ ?_
    have q3 : B0 + B0 ≤ A0 := by decide
    have q4 : A0 ^ (T - j) * (B0 + B0) ≤ A0 ^ (T - j) * A0 := Nat.mul_le_mul_left _ q3
    rw [Nat.mul_add] at q4
    omega
theorem byparts (A : Nat → Rat) (k : Nat) : ∀ M, Su (fun h => A h * sh (rp L D h) 1 k) (M + 1) = Su (fun h => ((if 0 < h then A (h - 1) else 0) + cf L h * A h + cf D h * A (h + 1)) * cf (rp L D h) k) (M + 1) + A M * cf (rp L D (M + 1)) k - cf D M * A (M + 1) * cf (rp L D M) k
  | 0 => by
    have := rp_one_rec (L := L) (D := D) k
    rw [Su, Su, Su, Su, if_neg (by omega)]
    grind
  | M + 1 => by
    have := rp_rec (L := L) (D := D) M k
    have ih := byparts A k M
    have e1 : Su (fun h => A h * sh (rp L D h) 1 k) (M + 1 + 1) = Su (fun h => A h * sh (rp L D h) 1 k) (M + 1) + A (M + 1) * sh (rp L D (M + 1)) 1 k := rfl
    have e2 : Su (fun h => ((if 0 < h then A (h - 1) else 0) + cf L h * A h + cf D h * A (h + 1)) * cf (rp L D h) k) (M + 1 + 1) = Su (fun h => ((if 0 < h then A (h - 1) else 0) + cf L h * A h + cf D h * A (h + 1)) * cf (rp L D h) k) (M + 1) + ((if 0 < M + 1 then A M else 0) + cf L (M + 1) * A (M + 1) + cf D (M + 1) * A (M + 1 + 1)) * cf (rp L D (M + 1)) k := rfl
    rw [if_pos (by omega)] at e2
    rw [e1, e2, ih]
    have t' : cf (rp L D (M + 1 + 1)) k = cf (rp L D (M + 2)) k := rfl
    rw [t', this]
    grind
theorem xn_is' (M : Nat) : ∀ n, n < M + 1 → ∀ k, cf (xn n) k = Su (fun h => smz L D (M + 1) 0 n h * cf (rp L D h) k) (M + 1)
  | 0, _, k => by
    have z : ∀ m, Su (fun h => smz L D (M + 1) 0 0 h * cf (rp L D h) k) (m + 1) = cf [1] k := fun m => by
      induction m with
      | zero =>
        rw [Su, Su, smz, if_pos (by omega), sm_zero (by omega), if_pos rfl]
        show 0 + 1 * cf [1] k = _
        grind
      | succ m ih =>
        rw [Su, ih, smz]
        split
        · rename_i h
          rw [sm_zero h, if_neg (by omega)]; grind
        · grind
    exact (z M).symm
  | n + 1, hn, k => by
    have e1 : cf (xn (n + 1)) k = Su (fun h => smz L D (M + 1) 0 n h * sh (rp L D h) 1 k) (M + 1) := by
      rw [xn_succ]
      rcases k with _ | k
      · rw [cf_zero]
        have : ∀ m, Su (fun h => smz L D (M + 1) 0 n h * sh (rp L D h) 1 0) m = 0 := fun m => by
          induction m with
          | zero => rfl
          | succ m ih => rw [Su, ih, sh, if_neg (by omega)]; grind
        exact (this _).symm
      · rw [cf_succ, xn_is' M n (by omega) k]
        exact Su_congr fun h _ => by rw [sh, if_pos (by omega), Nat.add_sub_cancel]
    rw [e1, byparts]
    have z1 : smz L D (M + 1) 0 n (M + 1) = 0 := by rw [smz, if_neg (by omega)]
    have z2 : smz L D (M + 1) 0 n M = 0 := by rw [smz, if_pos (by omega)]; exact far n 0 M (by omega)
    rw [z1, z2]
    have e2 : Su (fun h => ((if 0 < h then smz L D (M + 1) 0 n (h - 1) else 0) + cf L h * smz L D (M + 1) 0 n h + cf D h * smz L D (M + 1) 0 n (h + 1)) * cf (rp L D h) k) (M + 1) = Su (fun h => smz L D (M + 1) 0 (n + 1) h * cf (rp L D h) k) (M + 1) := Su_congr fun h hh => by
      rcases h with _ | h
      · rw [if_neg (by omega), smz_first 0 n (by omega)]; grind
      · rw [if_pos (by omega), Nat.add_sub_cancel, smz_last 0 n h (by omega)]; grind
    rw [e2]
    grind
theorem xn_is (hT : 0 < T) (n : Nat) (hn : n < T) (k : Nat) : cf (xn n) k = Su (fun h => smz L D T 0 n h * cf (rp L D h) k) T := by
  obtain ⟨M, rfl⟩ : ∃ M, T = M + 1 := ⟨T - 1, by omega⟩
  exact xn_is' M n hn k
theorem xn_rest {n : Nat} (hn : n < T) : ∀ j, j ≤ T + 1 → ∀ k, cf (dn L D T (xn n) j) k = Su (fun h => smz L D T 0 n h * cf (rp L D h) k) (T + 1 - j)
  | 0, _, k => by
    rw [Nat.sub_zero, Su, ← xn_is (by omega) n hn k, smz, if_neg (by omega)]
    show cf (xn n) k = _
    grind
  | j + 1, hj, k => by
    have ih := xn_rest hn j (by omega)
    have top : cf (dn L D T (xn n) j) (T - j) = smz L D T 0 n (T - j) := by
      rw [ih, show T + 1 - j = T - j + 1 by omega, Su, (rp_top L D (T - j)).1]
      have : ∀ m, m ≤ T - j → Su (fun h => smz L D T 0 n h * cf (rp L D h) (T - j)) m = 0 := fun m => by
        induction m with
        | zero => intro _; rfl
        | succ m i2 => intro hm; rw [Su, i2 (by omega), cf_ge (l := rp L D m) (by rw [rp_len]; omega)]; grind
      rw [this _ (Nat.le_refl _)]; grind
    rw [cf_dn, top, ih, show T + 1 - j = T - j + 1 by omega, Su, show T + 1 - (j + 1) = T - j by omega]
    grind
theorem xn_nb {n : Nat} (hn : n < T) {h : Nat} (hh : h ≤ T) : nb L D T (xn n) h = smz L D T 0 n h := by
  rw [nb, xn_rest hn (T - h) (by omega), show T + 1 - (T - h) = h + 1 by omega, Su, (rp_top L D h).1]
  have : ∀ m, m ≤ h → Su (fun i => smz L D T 0 n i * cf (rp L D i) h) m = 0 := fun m => by
    induction m with
    | zero => intro _; rfl
    | succ m i2 => intro hm; rw [Su, i2 (by omega), cf_ge (l := rp L D m) (by rw [rp_len]; omega)]; grind
  rw [this _ (Nat.le_refl _)]; grind
theorem NZ_xn (n : Nat) : NZ (xn n) := .inr (by
  rw [xn_len, Nat.add_sub_cancel]
  have : ∀ n, cf (xn n) n = 1 := fun n => by
    induction n with
    | zero => rfl
    | succ n ih => rw [xn_succ, cf_succ]; exact ih
  rw [this]; decide)
end
end Mt
namespace L2
open PySem PySem.Spec PyProof.Rows
section
variable {X : Cx}
end
end L2
namespace L2
open PySem PySem.Spec PyProof.Rows
section
variable {X : Cx} {pins : List (Addr × Obj)} {σ : St} {H : Hp} {s : Shared} {a : Addr} {o : Obj} {kvs : List (Key × V)}
theorem Inv.freeze (I : Inv X pins σ H s) (e : H a = some (.dK kvs)) (ho : s.heap.get? a = some o) : Inv X pins σ (upd H a (.frz o (.dK kvs))) s :=
  d_write (t' := s.toks) (h' := s.heap) I (by rw [e]; exact True.intro) ⟨rfl, fun _ _ => rfl⟩ ⟨o, ho⟩ ⟨ho, show ObjOk X.prog X.w H s.heap a (.dK kvs) from I.hok a _ e⟩
theorem Inv.unfrozen (I : Inv X pins σ H s) (e : H a = some (.dK kvs)) : ∀ o' u', X.H₀ a ≠ some (.frz o' u') := fun o' u' z => by
  have := I.base.frzs a o' u' z
  rw [e] at this
  cases this
theorem Inv.thaw (I : Inv X pins σ H s) (e : H a = some (.frz o (.dK kvs))) (h0 : ∀ o' u', X.H₀ a ≠ some (.frz o' u')) : Inv X pins σ (upd H a (.dK kvs)) s := by
  have nn : ∀ b, H b = none → b ≠ a := fun b n z => by subst z; rw [n] at e; cases e
  refine ⟨I.ok, I.os, I.bare, ⟨I.base.keep, I.base.slot, fun b q x n hx => ?_, I.base.there, fun b xs z => ?_, fun b q u z => ?_, fun b ps z => ?_⟩, I.loc, I.cell, ?_, fun x c z => ?_, fun p hp => ?_, fun b u z => ?_, I.len⟩
  · have := I.base.free b q x n hx
    rw [upd_ne (nn b this)]; exact this
  · have := I.base.tups b xs z
    rw [upd_ne (fun y => by subst y; rw [e] at this; cases this)]; exact this
  · have := I.base.frzs b q u z
    rw [upd_ne (fun y => by subst y; exact h0 _ _ z)]; exact this
  · obtain ⟨m, this⟩ := I.base.tbls b ps z
    exact ⟨m, by rw [upd_ne (fun y => by subst y; rw [e] at this; cases this)]; exact this⟩
  · rw [upd_ne (nn _ I.free)]; exact I.free
  · rw [upd_ne (nn _ (I.freeC x c z))]; exact I.freeC x c z
  · obtain ⟨p1, p2, p3⟩ := I.pin p hp
    exact ⟨p1, by rw [upd_ne (nn _ p2)]; exact p2, p3⟩
  · by_cases hb : b = a
    · subst hb
      rw [upd_same] at z; cases z
      exact show ObjOk X.prog X.w H s.heap b (.dK kvs) from (I.hok b _ e).2
    · rw [upd_ne hb] at z
      exact (I.hok b u z).stay (fun _ _ _ q => q) (fun c q => by rw [upd_ne (fun y => by subst y; rw [e] at q; cases q)]; exact q) fun c xs q => by rw [upd_ne (fun y => by subst y; rw [e] at q; cases q)]; exact q
end
def Itd (a : Addr) (o : Obj) (kvs : List (Key × V)) : It := ⟨fun i H => H a = some (.frz o (.dK kvs)) ∧ i < kvs.length, fun i H x H' => H' = H ∧ ∃ k v, kvs[i]? = some (k, v) ∧ x = kV k, fun i H => H a = some (.frz o (.dK kvs)) ∧ kvs.length ≤ i⟩
theorem turn_dkey {P : Program} {w : World} {K : PySem.W.Frag} {tg : Expr} {R it : Addr} {kvs : List (Key × V)} {vs : List (Key × Value)} {o : Obj} {es : Array DictEntry} {ep : Nat} (e1 : o.ExactDict) (e2 : o.data = .dict es ep)
    (k1 : KeysOf (mixKind P w) es) (k2 : Pairs (mixKind P w) es.toList vs) (nd : (vs.map (·.1)).Nodup) (rel : KV kvs vs) : Turn P w K tg (Itd R o kvs) [it] it (fun i h => h.IsKeyIter it R i vs.length ep) where
  mem := by simp
  obj := fun i h st b hb => by
    have e : b = it := by simpa using hb
    subst e
    obtain ⟨o, e, c, d⟩ := st
    exact ⟨o, e, fun v z => by rw [d] at z; cases z⟩
  keep := fun i h h' st k => let ⟨o, ho, r⟩ := st; ⟨o, k it (by simp) o ho, r⟩
  item := by
    intro X hP hw hK hc i pins s σ H E I hf st hg
    subst hP hw hK
    obtain ⟨hfz, hi⟩ : H R = some (.frz o (.dK kvs)) ∧ i < kvs.length := hg
    have hm : s.heap.DictAt (mixKind X.prog X.w) R vs ep := ⟨o, es, (I.hok R _ hfz).1, e1, e2, k1, k2, nd⟩
    have hx : kvs[i]? = some kvs[i] := List.getElem?_eq_getElem hi
    obtain ⟨q, hq, ek, rv⟩ := KV.at rel hx
    obtain ⟨f0, f1, f2, f3, f4, f5⟩ := hf it (by simp)
    refine wpAny_pyNext_dict_item st hm (k := q.1) (v := q.2) hq fun key h' hk st' sb => ?_
    have I1 : Inv X pins σ H { s with heap := h' } := I.turned (t' := s.toks) (fun b o hb e => (sb.2 b hb).trans e) f0 f1 f3 f4 f5
    obtain ⟨o', e, c, d⟩ := id st'
    exact ⟨key, rfl, go_of (s := { s with heap := h' }) e c d (by decide) ⟨kV q.1, H, I1, relV_key hk, ⟨rfl, kvs[i].1, kvs[i].2, hx, by rw [ek]⟩, st', fun b hb => (hf b hb).1⟩⟩
  done := by
    intro X hP hw hK hc i pins s σ H E I hf st hg
    subst hP hw hK
    obtain ⟨hfz, hi⟩ : H R = some (.frz o (.dK kvs)) ∧ kvs.length ≤ i := hg
    have hm : s.heap.DictAt (mixKind X.prog X.w) R vs ep := ⟨o, es, (I.hok R _ hfz).1, e1, e2, k1, k2, nd⟩
    have hl := rel.length
    obtain ⟨f0, f1, f2, f3, f4, f5⟩ := hf it (by simp)
    exact wpAny_pyNext_dict_end (I.ok.hd hc) st hm (List.getElem?_eq_none (by omega)) fun h' eb => ⟨rfl, I.turned (t' := s.toks) (fun b o hb e => eb b o hb e) f0 f1 f3 f4 f5⟩
  self := fun _ _ _ _ _ st h => wpAny_pyIter_keyiter st h
section
variable {X : Cx} {tg : Expr}
def iDk (X : Cx) (te : TE) : TI := fun σ H Q => te σ H fun v H1 => ∃ a kvs, v = .ref a ∧ H1 a = some (.dK kvs) ∧ ∀ o, (∀ o' u', X.H₀ a ≠ some (.frz o' u')) → Q (Itd a o kvs) (upd H1 a (.frz o (.dK kvs)))
theorem pi_dk {l : Expr} {te : TE} (hl : PE X l te) : PI X tg l (iDk X te) := by
  intro pins s σ H Q I h
  refine thn (hl pins s σ H _ I h) fun u s1 ⟨x, H1, I1, rx, a, kvs, e, ea, q⟩ => ?_
  subst e
  obtain rfl : u = Value.ref a := rx
  obtain ⟨z, sm, vs, rel, o, es, ep, hm⟩ := dk_of I1.hok ea
  obtain ⟨ho, e1, e2, k1, k2, nd⟩ := id hm
  have I2 := I1.freeze ea ho
  refine wpAny_pyIter_dict sm (show s1.heap.DictAt (mixKind X.prog X.w) a vs ep from ⟨o, es, hm⟩) ?_
  have nn : (upd H1 a (.frz o (.dK kvs))) s1.heap.objs.size = none := I2.hok.fresh (Nat.le_refl _)
  refine ⟨s1.heap.objs.size, [s1.heap.objs.size], _, _, upd H1 a (.frz o (.dK kvs)), rfl, I2.kept (t' := s1.toks) (fun b o q => Heap.get?_push_of_some _ q), turn_dkey e1 e2 k1 k2 nd rel, ⟨_, Heap.get?_push_size _ rfl, rfl, rfl⟩, fun c hc => ?_, q o (I1.unfrozen ea)⟩
  have e : c = s1.heap.objs.size := by simpa using hc
  subst e
  exact I1.fpOk (Nat.le_refl _) nn
def FD (a : Addr) (o : Obj) (kvs : List (Key × V)) (g : TG) (tb : TS) (D : Ends) (σ : St) (H : Hp) : Prop := ∃ Pv : Nat → St → Hp → Prop, Pv 0 σ (upd H a (.frz o (.dK kvs))) ∧ (∀ i σ H, Pv i σ H → H a = some (.frz o (.dK kvs))) ∧
  (∀ i k v σ H bk, kvs[i]? = some (k, v) → (∀ σ H, H a = some (.frz o (.dK kvs)) → D.nx σ (upd H a (.dK kvs)) → bk σ H) → Pv i σ H → g (kV k) σ H fun σ2 H2 => tb { D with nx := Pv (i + 1), ct := Pv (i + 1), bk := bk } σ2 H2) ∧
  ∀ σ H, Pv kvs.length σ H → D.nx σ (upd H a (.dK kvs))
def tForD (te : TE) (g : TG) (tb : TS) : TS := fun D σ H => te σ H fun v H1 => ∃ a kvs, v = .ref a ∧ H1 a = some (.dK kvs) ∧ ∀ o, FD a o kvs g tb D σ H1
theorem ps_forD {l : Expr} {body : List Stmt} {te : TE} {g : TG} {tb : TS} {pos : Pos} (hc : X.calm = true) (hp : PassesOwn (model X.prog X.w) X.A X.env X.xe) (hl : PE X l te) (hgt : PG X tg g) (hb : PSs X body tb) (hs : ∀ x, foldedSetIterable l X.env x = pure x := by intro _; rfl) :
    PS X (.For tg l body [] pos) (tForD te g tb) := by
  intro pins s σ H D I h
  have core := ps_for (pos := pos) hp hc (pi_dk hl.mo) hgt hb hs pins s σ H { D with nx := fun σ H => ∃ a o kvs, (∀ o' u', X.H₀ a ≠ some (.frz o' u')) ∧ H a = some (.frz o (.dK kvs)) ∧ D.nx σ (upd H a (.dK kvs)) } I ?_
  · refine wpAny_mono core (fun f s' q => ?_) fun _ _ x => x
    cases f with
    | next =>
      obtain ⟨σ', H', I', a, o, kvs, h0, e, q⟩ := q
      exact ⟨σ', _, I'.thaw e h0, q⟩
    | cont => exact q
    | brk => exact q
    | ret v => exact q
  · refine ⟨_, h, fun v H1 ⟨a, kvs, e, ea, q⟩ => ⟨a, kvs, e, ea, fun o h0 => ?_⟩⟩
    obtain ⟨Pv, p0, pf, pt, pd⟩ := q o
    refine ⟨fun i m σ H => m = kvs.length - i ∧ i ≤ kvs.length ∧ Pv i σ H, ⟨kvs.length, by simp, Nat.zero_le _, p0⟩, ?_⟩
    rintro i m σ H ⟨rfl, hi, q⟩
    by_cases hlt : i < kvs.length
    · refine .inr ⟨⟨pf _ _ _ q, hlt⟩, Pv (i + 1), fun σ' H' z' => ⟨kvs.length - (i + 1), by omega, rfl, hlt, z'⟩, fun x H' yl => ?_⟩
      obtain ⟨rfl, k, v, hx, rfl⟩ := yl
      exact pt i k v σ _ _ hx (fun σ H e q => ⟨a, o, kvs, h0, e, q⟩) q
    · have e : i = kvs.length := by omega
      subst e
      exact .inl ⟨⟨pf _ _ _ q, Nat.le_refl _⟩, a, o, kvs, h0, pf _ _ _ q, pd σ H q⟩
end
end L2
namespace L2
open PySem PySem.Spec PyProof.Rows
section
variable {prog : Program} {w : World} {A : Around} {R : Result → Shared → Prop} {s : Shared}
end
section
variable {X : Cx} {tg a elt cnd : Expr} {te tl : TE} {tc : TT} {g : TG} {p pos pos' : Pos} {scope : Scope} {js : List (Option Nat)}
end
end L2
namespace L2
open PySem PySem.Spec PyProof.Rows
def dk (ps : List (Int × Int)) : List (Key × V) := ps.map fun p => (.inl p.1, .int p.2)
def pvI (ps : List (Int × Int)) (h : Int) : Option Int := (ps.find? fun p => decide (p.1 = h)).map (·.2)
def gv (ps : List (Int × Int)) (h : Int) : Int := (pvI ps h).getD 0
def putp (ps : List (Int × Int)) (h c : Int) : List (Int × Int) := if (ps.any fun p => decide (p.1 = h)) = true then ps.map (fun p => if p.1 = h then (p.1, c) else p) else ps ++ [(h, c)]
theorem inl_eq {a b : Int} : ((Sum.inl a : Key) = Sum.inl b) ↔ a = b := ⟨fun e => Sum.inl.inj e, fun e => by rw [e]⟩
theorem valV_dk (h : Int) : ∀ ps : List (Int × Int), valV (dk ps) (.inl h) = (pvI ps h).map V.int
  | [] => rfl
  | p :: r => by
    have ih := valV_dk h r
    show valV ((Sum.inl p.1, V.int p.2) :: dk r) (Sum.inl h) = _
    unfold pvI
    by_cases e : p.1 = h
    · rw [valV_pos (by rw [e])]; simp [List.find?_cons, e]
    · rw [valV_neg (fun z => e (inl_eq.mp z)), ih]; simp [pvI, List.find?_cons, e]
theorem dk_any (h : Int) : ∀ ps : List (Int × Int), ((dk ps).any fun kv => decide (kv.1 = (Sum.inl h : Key))) = ps.any fun p => decide (p.1 = h)
  | [] => rfl
  | p :: r => by
    have ih := dk_any h r
    show ((Sum.inl p.1, V.int p.2) :: dk r).any _ = _
    rw [List.any_cons, List.any_cons, ih]
    simp only [inl_eq]
theorem putK_dk (ps : List (Int × Int)) (h c : Int) : putK (dk ps) (.inl h) (.int c) = dk (putp ps h c) := by
  unfold putK putp
  rw [dk_any]
  split
  · unfold dk
    rw [List.map_map, List.map_map]
    refine List.map_congr_left fun p _ => ?_
    simp only [Function.comp]
    by_cases e : p.1 = h
    · simp [e]
    · rw [if_neg (fun z => e (inl_eq.mp z)), if_neg e]
  · simp [dk]
theorem pvI_put (ps : List (Int × Int)) (h c j : Int) : pvI (putp ps h c) j = if j = h then some c else pvI ps j := by
  have e := valV_put (dk ps) (Sum.inl h) (Sum.inl j) (V.int c)
  rw [putK_dk, valV_dk, valV_dk] at e
  by_cases z : j = h
  · subst z
    rw [if_pos rfl] at e ⊢
    cases q : pvI (putp ps j c) j with
    | none => rw [q] at e; cases e
    | some x => rw [q] at e; simp at e; rw [e]
  · rw [if_neg (fun y => z (inl_eq.mp y))] at e
    rw [if_neg z]
    cases q : pvI (putp ps h c) j with
    | none => rw [q] at e; cases q2 : pvI ps j with
      | none => rfl
      | some y => rw [q2] at e; cases e
    | some x => rw [q] at e; cases q2 : pvI ps j with
      | none => rw [q2] at e; cases e
      | some y => rw [q2] at e; simp at e; rw [e]
theorem gv_put (ps : List (Int × Int)) (h c j : Int) : gv (putp ps h c) j = if j = h then c else gv ps j := by
  unfold gv
  rw [pvI_put]
  split <;> rfl
theorem pvI_any (h : Int) : ∀ ps : List (Int × Int), (ps.any fun p => decide (p.1 = h)) = true ↔ h ∈ ps.map (·.1)
  | [] => by simp
  | p :: r => by
    rw [List.any_cons, Bool.or_eq_true, pvI_any h r, List.map_cons, List.mem_cons]
    simp [eq_comm]
theorem keys_put (ps : List (Int × Int)) (h c : Int) : (putp ps h c).map (·.1) = if h ∈ ps.map (·.1) then ps.map (·.1) else ps.map (·.1) ++ [h] := by
  unfold putp
  by_cases e : h ∈ ps.map (·.1)
  · rw [if_pos ((pvI_any h ps).mpr e), if_pos e, List.map_map]
    refine List.map_congr_left fun p _ => ?_
    simp only [Function.comp]
    split <;> rfl
  · rw [if_neg (fun z => e ((pvI_any h ps).mp z)), if_neg e]; simp
def Kin (N : Int) (ps : List (Int × Int)) : Prop := (ps.map (·.1)).Nodup ∧ ∀ k ∈ ps.map (·.1), 0 ≤ k ∧ k < N
theorem Kin.put {N h c : Int} {ps : List (Int × Int)} (k : Kin N ps) (h0 : 0 ≤ h) (h1 : h < N) : Kin N (putp ps h c) := by
  unfold Kin
  rw [keys_put]
  split
  · exact k
  · rename_i hn
    refine ⟨List.nodup_append.mpr ⟨k.1, by simp, fun a ha b hb => ?_⟩, fun x hx => ?_⟩
    · rw [List.mem_singleton.mp hb]; exact fun z => hn (z ▸ ha)
    · rcases List.mem_append.mp hx with hx | hx
      · exact k.2 x hx
      · rw [List.mem_singleton.mp hx]; exact ⟨h0, h1⟩
theorem nodup_le : ∀ (n : Nat) (l : List Int), l.Nodup → (∀ k ∈ l, 0 ≤ k ∧ k < n) → l.length ≤ n
  | 0, l, _, h => by
    cases l with
    | nil => simp
    | cons a r => have := h a (by simp); omega
  | n + 1, l, nd, h => by
    have ih := nodup_le n (l.erase (n : Int)) (nd.erase _) fun k hk => by
      have := (nd.mem_erase_iff).mp hk
      have := h k this.2
      omega
    have := List.length_erase (a := (n : Int)) (l := l)
    split at this <;> omega
theorem Kin.len {N : Nat} {ps : List (Int × Int)} (k : Kin N ps) : ps.length ≤ N := by
  have := nodup_le N _ k.1 k.2
  simpa using this
def wi (b : Option Int) (h : Int) : Bool := decide (0 ≤ h) && (match b with | none => true | some m => decide (h < m))
def add1 (b : Option Int) (e c : Int) (q : List (Int × Int)) (r : Int) : List (Int × Int) := if wi b (e - r) = true then putp q (e - r) (gv q (e - r) + c) else q
def rs3 : List Int := [-1, 0, 1]
def add3 (b : Option Int) (q : List (Int × Int)) (p : Int × Int) : List (Int × Int) := rs3.foldl (add1 b p.1 p.2) q
def one (b : Option Int) (ps : List (Int × Int)) : List (Int × Int) := ps.foldl (add3 b) []
def tg (b : Option Int) (last : Int) : Nat → List (Int × Int)
  | 0 => if wi b last = true then [(last, 1)] else []
  | n + 1 => one b (tg b last n)
def cnt (b : Option Int) (last : Int) : Nat → Int → Int
  | 0, h => if h = last ∧ wi b last = true then 1 else 0
  | n + 1, h => if wi b h = true then cnt b last n (h - 1) + cnt b last n h + cnt b last n (h + 1) else 0
theorem wi_nn {b : Option Int} {h : Int} (w : wi b h = true) : 0 ≤ h := by
  unfold wi at w
  rw [Bool.and_eq_true] at w
  exact of_decide_eq_true w.1
theorem Kin.add1 {N e c r : Int} {b : Option Int} {q : List (Int × Int)} (k : Kin N q) (he : e + 1 < N) (hr : r ∈ rs3) : Kin N (add1 b e c q r) := by
  unfold L2.add1
  split
  · rename_i w
    have := wi_nn w
    refine k.put this ?_
    simp only [rs3, List.mem_cons, List.not_mem_nil, or_false] at hr
    omega
  · exact k
theorem Kin.add1s {N e c : Int} {b : Option Int} : ∀ (rs : List Int) {q : List (Int × Int)}, Kin N q → e + 1 < N → (∀ r ∈ rs, r ∈ rs3) → Kin N (rs.foldl (L2.add1 b e c) q)
  | [], _, k, _, _ => k
  | r :: rs, _, k, he, hr => Kin.add1s rs (k.add1 he (hr r (by simp))) he fun x hx => hr x (by simp [hx])
theorem Kin.add3s {N : Int} {b : Option Int} : ∀ (ps : List (Int × Int)) {q : List (Int × Int)}, Kin N q → (∀ p ∈ ps, p.1 + 1 < N) → Kin N (ps.foldl (add3 b) q)
  | [], _, k, _ => k
  | p :: ps, _, k, h => Kin.add3s ps (Kin.add1s rs3 k (h p (by simp)) fun _ z => z) fun x hx => h x (by simp [hx])
theorem kin_nil (N : Int) : Kin N [] := ⟨by simp, by simp⟩
theorem kin_tg (b : Option Int) {last : Int} {M : Int} (hl : last < M) : ∀ n : Nat, Kin (M + n) (tg b last n)
  | 0 => by
    unfold tg
    split
    · rename_i w
      have := wi_nn w
      exact ⟨by simp, fun k hk => by simp at hk; subst hk; omega⟩
    · exact kin_nil _
  | n + 1 => by
    have ih := kin_tg b hl n
    refine Kin.add3s _ (kin_nil _) fun p hp => ?_
    have := ih.2 p.1 (List.mem_map.mpr ⟨p, hp, rfl⟩)
    omega
theorem gv_add1 (b : Option Int) (e c : Int) (q : List (Int × Int)) (r h : Int) : gv (add1 b e c q r) h = gv q h + if h = e - r ∧ wi b h = true then c else 0 := by
  unfold add1
  by_cases w : wi b (e - r) = true
  · rw [if_pos w, gv_put]
    by_cases z : h = e - r
    · subst z; rw [if_pos rfl, if_pos ⟨rfl, w⟩]
    · rw [if_neg z, if_neg (fun y => z y.1)]; omega
  · rw [if_neg w, if_neg (fun (y : h = e - r ∧ wi b h = true) => w (by rw [← y.1]; exact y.2))]; omega
theorem gv_add3 (b : Option Int) (q : List (Int × Int)) (p : Int × Int) (h : Int) : gv (add3 b q p) h = gv q h + if wi b h = true then (if p.1 = h - 1 then p.2 else 0) + (if p.1 = h then p.2 else 0) + (if p.1 = h + 1 then p.2 else 0) else 0 := by
  unfold add3 rs3
  simp only [List.foldl_cons, List.foldl_nil]
  rw [gv_add1, gv_add1, gv_add1]
  by_cases w : wi b h = true
  · simp only [w, and_true, if_true]
    have e1 : (h = p.1 - -1) ↔ p.1 = h - 1 := by omega
    have e2 : (h = p.1 - 0) ↔ p.1 = h := by omega
    have e3 : (h = p.1 - 1) ↔ p.1 = h + 1 := by omega
    simp only [e1, e2, e3]
    omega
  · simp [w]
def sm1 (ps : List (Int × Int)) (x : Int) : Int := (ps.map fun p => if p.1 = x then p.2 else 0).sum
theorem sm1_gv (x : Int) : ∀ ps : List (Int × Int), (ps.map (·.1)).Nodup → sm1 ps x = gv ps x
  | [], _ => rfl
  | p :: r, nd => by
    rw [List.map_cons] at nd
    obtain ⟨n1, n2⟩ := List.nodup_cons.mp nd
    have ih := sm1_gv x r n2
    unfold sm1 at ih ⊢
    rw [List.map_cons, List.sum_cons, ih]
    unfold gv pvI
    by_cases e : p.1 = x
    · have z : r.find? (fun p => decide (p.1 = x)) = none := by
        rw [List.find?_eq_none]
        intro q hq hx
        have hx : q.1 = x := by simpa using hx
        exact n1 (List.mem_map.mpr ⟨q, hq, by rw [hx, e]⟩)
      simp [List.find?_cons, e, z]
    · simp [List.find?_cons, e]
theorem gv_ones (b : Option Int) (h : Int) : ∀ (ps q : List (Int × Int)), gv (ps.foldl (add3 b) q) h = gv q h + if wi b h = true then sm1 ps (h - 1) + sm1 ps h + sm1 ps (h + 1) else 0
  | [], q => by simp [sm1]
  | p :: r, q => by
    rw [List.foldl_cons, gv_ones b h r, gv_add3]
    unfold sm1
    simp only [List.map_cons, List.sum_cons]
    split <;> omega
theorem gv_tg (b : Option Int) (last : Int) : ∀ (n : Nat) (h : Int), gv (tg b last n) h = cnt b last n h
  | 0, h => by
    unfold tg cnt
    by_cases w : wi b last = true
    · by_cases e : h = last
      · subst e; simp [w, gv, pvI]
      · have e' : ¬ last = h := fun z => e z.symm
        simp [w, gv, pvI, e, e']
    · simp [w, gv, pvI]
  | n + 1, h => by
    have nd := (kin_tg b (show last < last + 1 by omega) n).1
    show gv ((tg b last n).foldl (add3 b) []) h = _
    rw [gv_ones, sm1_gv _ _ nd, sm1_gv _ _ nd, sm1_gv _ _ nd, gv_tg b last n, gv_tg b last n, gv_tg b last n]
    show gv [] h + _ = cnt b last (n + 1) h
    rw [cnt]
    simp [gv, pvI]
theorem pvI_mem {ps : List (Int × Int)} (nd : (ps.map (·.1)).Nodup) : ∀ {i : Nat} {p : Int × Int}, ps[i]? = some p → pvI ps p.1 = some p.2 := by
  induction ps with
  | nil => intro i p h; simp at h
  | cons q r ih =>
    intro i p h
    rw [List.map_cons] at nd
    obtain ⟨n1, n2⟩ := List.nodup_cons.mp nd
    cases i with
    | zero => simp at h; subst h; simp [pvI]
    | succ i =>
      have h : r[i]? = some p := by simpa using h
      have ne : ¬ q.1 = p.1 := fun e => n1 (by rw [e]; exact List.mem_map.mpr ⟨p, List.mem_of_getElem? h, rfl⟩)
      have := ih n2 h
      unfold pvI at this ⊢
      rw [List.find?_cons]
      simp only [ne, decide_false]
      exact this
def bV : Option Int → V
  | none => .non
  | some m => .int m
theorem wi_none (h : Int) : wi none h = decide (0 ≤ h) := by simp [wi]
theorem wi_some (m h : Int) : wi (some m) h = (decide (0 ≤ h) && decide (h < m)) := rfl
theorem cnt_out {b : Option Int} {last : Int} {n : Nat} {h : Int} (w : wi b h = false) : cnt b last n h = 0 := by
  cases n with
  | zero =>
    unfold cnt
    rw [if_neg]
    rintro ⟨rfl, z⟩
    rw [w] at z; cases z
  | succ n => unfold cnt; rw [w]; simp
def DL (H : Hp) (b : Option Int) (last : Int) (n : Nat) (p : Addr) : Prop := ∃ as : List Addr, H p = some (.lst (as.map V.ref)) ∧ as.length = n + 1 ∧ ∀ (i : Nat) (a : Addr), as[i]? = some a → H a = some (.dK (dk (tg b last i)))
theorem get_dk {H : Hp} {a : Addr} {ps : List (Int × Int)} (e : H a = some (.dK (dk ps))) (h : Int) : DGet H a (.int h) ((pvI ps h).map V.int) := by
  have := DGet.k (k := .inl h) e
  rw [valV_dk] at this
  exact this
theorem getD_dk (ps : List (Int × Int)) (h : Int) : ((pvI ps h).map V.int).getD (.int 0) = .int (gv ps h) := by
  unfold gv
  cases pvI ps h <;> rfl
end L2
namespace L2
open PySem PySem.Spec PyProof.Rows
end L2
namespace L2
open PySem PySem.Spec PyProof.Rows
section
variable {X : Cx}
end
end L2
namespace L2
open PySem PySem.Spec PyProof.Rows
def ItrS (lo st : Int) (n : Nat) : It := ⟨fun i _ => i < n, fun i H x H' => H' = H ∧ x = .int (lo + i * st), fun i _ => n ≤ i⟩
theorem turn_rangeS {P : Program} {w : World} {K : PySem.W.Frag} {tg : Expr} (it : Addr) (lo c : Int) (n : Nat) : Turn P w K tg (ItrS lo c n) [it] it (fun i h => IsRangeIter h it (lo + (i : Nat) * c) ((n : Int) - (i : Nat)) c) where
  mem := by simp
  obj := fun i h st b hb => by
    have e : b = it := by simpa using hb
    subst e
    exact ⟨_, st, fun v z => by
      have z' : Data.fields _ = Data.cell v := z
      cases z'⟩
  keep := fun i h h' st k => k it (by simp) _ st
  item := by
    intro X hP hw hK hc i pins s σ H E I hf st hg
    subst hP hw hK
    obtain ⟨f0, f1, f2, f3, f4, f5⟩ := hf it (by simp)
    have W := Walks.range (prog := X.prog) (w := X.w) (I.ok.hd hc) it lo c n
    refine W.item i s _ _ hg st fun v h' tk hv st' kk => ?_
    obtain ⟨t, rfl⟩ := hv
    have I1 : Inv X pins σ H { s with heap := h', toks := tk } := I.turned (fun b o hb e => kk b o (by simpa using hb) e) f0 f1 f3 f4 f5
    exact ⟨_, rfl, go_of (s := { s with heap := h', toks := tk }) (n := "range_iterator") st' rfl rfl (by decide) ⟨.int (lo + i * c), H, I1, ⟨t, rfl⟩, ⟨rfl, rfl⟩, st', fun b hb => (hf b hb).1⟩⟩
  done := by
    intro X hP hw hK hc i pins s σ H E I hf st hg
    subst hP hw hK
    obtain ⟨f0, f1, f2, f3, f4, f5⟩ := hf it (by simp)
    exact wpAny_pyNext_range_end (I.ok.hd hc) st (by have : n ≤ i := hg; omega) fun h' eb => ⟨rfl, I.turned (t' := s.toks) (fun b o hb e => eb b o hb e) f0 f1 f3 f4 f5⟩
  self := fun _ _ _ _ _ st h => wpAny_pyIter_rangeiter st h
section
variable {X : Cx} {tg : Expr}
theorem range_itS {pins : List (Addr × Obj)} {σ : St} {H : Hp} {s : Shared} {R : It → Hp → Prop} {E : Value → Shared → Prop} {lo hi c : Int} {n : Nat} {t u v : Tok} {tk : Nat} (I : Inv X pins σ H s) (sm : Builtin.Range.small lo hi c = true) (hn : Builtin.Range.rangeSize lo hi c = n)
    (q : R (ItrS lo c n) H) : wpAny (model X.prog X.w) X.A (pyIter (.ref s.heap.objs.size)) (PIE X pins σ tg R) E { s with heap := s.heap.push { cls := .type "range", data := .fields #[.int lo t, .int hi u, .int c v] }, toks := tk } := by
  refine wpAny_pyIter_range (IsRange.new ..) sm ?_
  have I1 : Inv X pins σ H { s with heap := s.heap.push { cls := .type "range", data := .fields #[.int lo t, .int hi u, .int c v] }, toks := tk } := I.kept fun b o e => Heap.get?_push_of_some _ e
  refine ⟨(s.heap.push { cls := .type "range", data := .fields #[.int lo t, .int hi u, .int c v] }).objs.size, [(s.heap.push { cls := .type "range", data := .fields #[.int lo t, .int hi u, .int c v] }).objs.size], _, _, H, rfl,
    I1.kept (t' := tk) fun b o e => Heap.get?_push_of_some _ e, turn_rangeS _ lo c n, ?_, fun b hb => ?_, q⟩
  · have e1 : lo + ((0 : Nat) : Int) * c = lo := by simp
    have e2 : ((n : Nat) : Int) - ((0 : Nat) : Int) = Builtin.Range.rangeSize lo hi c := by rw [hn]; omega
    show IsRangeIter _ _ (lo + ((0 : Nat) : Int) * c) (((n : Nat) : Int) - ((0 : Nat) : Int)) c
    rw [e1, e2]
    exact Heap.get?_push_size _ rfl
  · have e : b = (s.heap.push { cls := .type "range", data := .fields #[.int lo t, .int hi u, .int c v] }).objs.size := by simpa using hb
    subst e
    exact I1.fpOk (Nat.le_refl _) (I1.hok.fresh (Nat.le_refl _))
def iRng3 (ta : TA) : TI := fun σ H R => ta σ H fun vs H1 => ∃ (i j c : Int) (n : Nat), vs = [.int i, .int j, .int c] ∧ c ≠ 0 ∧ Builtin.divisionGoesByPylong (j - i) c = false ∧ Builtin.Range.small i j c = true ∧ Builtin.Range.rangeSize i j c = n ∧ R (ItrS i c n) H1
theorem pi_range3 {a b c : Expr} {ta : TA} {p pos : Pos} (hg : Gl X "range") (hm : X.mg "range" = none) (ha : PA X [a, b, c] ta) (hs : starEach [a, b, c] X.env = (false, eval a X.env) :: starEach [b, c] X.env := by rfl) (hs2 : (backTo pos (starEach [b, c] X.env)).any (fun x => x.1) = false := by rfl) :
    PI X tg (.Call (.Name "range" p) [a, b, c] [] pos) (iRng3 ta) := by
  intro pins s σ H R I h
  refine Call_ (ld_blt I hg hm boot_range (PyProof.Rows.callWith_type1 (thn (ha pos pins s σ H _ I h) fun us s1 ⟨vs, H1, I1, r1, q1⟩ => ?_) hs hs2))
  obtain ⟨i, j, k, n, e, k0, pl, sm, sz, q⟩ := q1
  subst e
  cases r1 with
  | cons r rr =>
    cases rr with
    | cons r' rr =>
      cases rr with
      | cons r'' rr =>
        cases rr
        obtain ⟨t, rfl⟩ := r
        obtain ⟨t', rfl⟩ := r'
        obtain ⟨t'', rfl⟩ := r''
        exact call_range_3 k0 (range_itS I1 sm sz q) (.inl pl)
def FR3 (i c : Int) (n : Nat) (g : TG) (tb : TS) (D : Ends) (σ : St) (H : Hp) : Prop := ∃ Pv : Nat → St → Hp → Prop, Pv 0 σ H ∧ (∀ m σ H, m < n → Pv m σ H → g (.int (i + m * c)) σ H fun σ2 H2 => tb { D with nx := Pv (m + 1), ct := Pv (m + 1), bk := D.nx } σ2 H2) ∧ ∀ σ H, Pv n σ H → D.nx σ H
def tForR3 (te te2 te3 : TE) (g : TG) (tb : TS) : TS := fun D σ H => te σ H fun v H1 => te2 σ H1 fun v2 H2 => te3 σ H2 fun v3 H3 => ∃ i : Int, v = .int i ∧ ∃ j : Int, v2 = .int j ∧ ∃ c : Int, v3 = .int c ∧ c ≠ 0 ∧ Builtin.divisionGoesByPylong (j - i) c = false ∧ Builtin.Range.small i j c = true ∧ ∃ n : Nat, Builtin.Range.rangeSize i j c = n ∧ FR3 i c n g tb D σ H3
theorem ps_forR3 {a b c : Expr} {body : List Stmt} {te te2 te3 : TE} {g : TG} {tb : TS} {p pos pos' : Pos} (hc : X.calm = true) (hp : PassesOwn (model X.prog X.w) X.A X.env X.xe) (hm : X.mg "range" = none) (ha : PE X a te) (hb2 : PE X b te2) (hb3 : PE X c te3) (hgt : PG X tg g) (hb : PSs X body tb) (hg : Gl X "range" := by rfl)
    (hs : starEach [a, b, c] X.env = (false, eval a X.env) :: starEach [b, c] X.env := by rfl) (hs2 : starEach [b, c] X.env = (false, eval b X.env) :: starEach [c] X.env := by rfl) (hs3 : starEach [c] X.env = [(false, eval c X.env)] := by rfl) :
    PS X (.For tg (.Call (.Name "range" p) [a, b, c] [] pos') body [] pos) (tForR3 te te2 te3 g tb) := by
  intro pins s σ H D I h
  refine ps_for hp hc (pi_range3 hg hm (pa_cons ha.mo (pa_cons hb2.mo (pa_cons hb3.mo pa_nil (by rw [hs3]; rfl)) hs2) hs) hs (by rw [hs2, hs3]; rfl)) hgt hb (by intro _; rfl) pins s σ H D I ?_
  refine ⟨_, h, fun v H1 h2 => ⟨_, h2, fun v2 H2 h3 => ⟨_, h3, fun v3 H3 ⟨i, e1, j, e2, k, e3, k0, pl, sm, n, sz, Pv, p0, pt, pd⟩ => ⟨i, j, k, n, by rw [e1, e2, e3], k0, pl, sm, sz, ?_⟩⟩⟩⟩
  refine ⟨fun i' m σ H => m = n - i' ∧ i' ≤ n ∧ Pv i' σ H, ⟨n, by simp, Nat.zero_le _, p0⟩, ?_⟩
  rintro x m σ H ⟨rfl, hx, q⟩
  by_cases hlt : x < n
  · refine .inr ⟨hlt, Pv (x + 1), fun σ' H' p' => ⟨n - (x + 1), by omega, rfl, hlt, p'⟩, fun y H' yl => ?_⟩
    obtain ⟨rfl, rfl⟩ := yl
    exact pt x σ _ hlt q
  · have e : x = n := by omega
    subst e
    exact .inl ⟨Nat.le_refl _, pd σ H q⟩
end
end L2
namespace L2
open PySem PySem.Spec PyProof.Rows
theorem Same.seqL {K : PySem.W.Frag} {H H' : Hp} {a : Addr} {xs : List V} (e : Same H H') (h : SqL K H a xs) : SqL K H' a xs := by
  rcases h with h | h
  · rcases h with h | ⟨o, h⟩
    · exact .inl (.inl (e _ _ h))
    · exact .inl (.inr ⟨o, e _ _ h⟩)
  · exact .inr h
end L2
namespace L2
open PySem PySem.Spec PyProof.Rows
theorem cnt_bd (b : Option Int) (last : Int) : ∀ (n : Nat) (h : Int), 0 ≤ cnt b last n h ∧ cnt b last n h ≤ 3 ^ n
  | 0, h => by unfold cnt; split <;> simp
  | n + 1, h => by
    have a := cnt_bd b last n (h - 1)
    have c := cnt_bd b last n h
    have d := cnt_bd b last n (h + 1)
    have p : (3 : Int) ^ (n + 1) = 3 * 3 ^ n := by rw [Int.pow_succ]; omega
    have q : (0 : Int) ≤ 3 ^ n := Int.pow_nonneg (by decide)
    rw [cnt, p]
    generalize (3 : Int) ^ n = z at *
    split <;> omega
def sB (f : Nat → Int) : Nat → Int
  | 0 => 0
  | k + 1 => sB f k + f k
def motz : List Int := [1, 1, 2, 4, 9, 21, 51, 127, 323, 835, 2188, 5798, 15511, 41835, 113634, 310572]
theorem motz_is : ∀ n : Nat, n < 16 → motz[n]? = some (cnt none 0 n 0) := by
  intro n hn
  rw [← gv_tg]
  revert n
  decide +kernel
end L2
namespace L2
open PySem PySem.Spec PyProof.Rows
def ur (b : Option Int) (last : Int) : Nat → Int → Int → List Nat
  | 0, _, _ => []
  | m + 1, h, r => if r < cnt b last m (h - 1) then 100 :: ur b last m (h - 1) r else if r - cnt b last m (h - 1) < cnt b last m h then 108 :: ur b last m h (r - cnt b last m (h - 1)) else 117 :: ur b last m (h + 1) (r - cnt b last m (h - 1) - cnt b last m h)
theorem ur_len (b : Option Int) (last : Int) : ∀ (m : Nat) (h r : Int), (ur b last m h r).length = m
  | 0, _, _ => rfl
  | m + 1, h, r => by
    unfold ur
    split
    · rw [List.length_cons, ur_len]
    · split <;> rw [List.length_cons, ur_len]
def pr3 (b : Option Int) (last : Int) (m : Nat) (h r : Int) : Nat → Int
  | 0 => r
  | 1 => r - cnt b last m (h - 1)
  | 2 => r - cnt b last m (h - 1) - cnt b last m h
  | _ => r - cnt b last m (h - 1) - cnt b last m h - cnt b last m (h + 1)
def codes3 : List Nat := [100, 108, 117]
theorem ur_step {b : Option Int} {last : Int} {m : Nat} {h r : Int} {j c : Nat} {k : Int} (hc : codes3[j]? = some c) (hk : rs3[j]? = some k) (hp : ∀ t, t ≤ j → 0 ≤ pr3 b last m h r t) (lt : pr3 b last m h r j < cnt b last m (h + k)) :
    ur b last (m + 1) h r = c :: ur b last m (h + k) (pr3 b last m h r j) := by
  have hj : j < 3 := (List.getElem?_eq_some_iff.mp hc).1
  rcases (show j = 0 ∨ j = 1 ∨ j = 2 by omega) with rfl | rfl | rfl
  · cases hc; cases hk
    rw [show h + -1 = h - 1 by omega] at lt ⊢
    simp only [pr3] at lt ⊢
    rw [ur, if_pos lt]
  · cases hc; cases hk
    rw [Int.add_zero] at lt ⊢
    have h1 := hp 1 (by omega)
    simp only [pr3] at lt h1 ⊢
    rw [ur, if_neg (by omega), if_pos lt]
  · cases hc; cases hk
    have h1 := hp 1 (by omega)
    have h2 := hp 2 (by omega)
    simp only [pr3] at lt h1 h2 ⊢
    rw [ur, if_neg (by omega), if_neg (by omega)]
theorem pr3_succ {b : Option Int} {last : Int} {m : Nat} {h r : Int} {j : Nat} {k : Int} (hk : rs3[j]? = some k) : pr3 b last m h r (j + 1) = pr3 b last m h r j - cnt b last m (h + k) := by
  have hj : j < 3 := (List.getElem?_eq_some_iff.mp hk).1
  rcases (show j = 0 ∨ j = 1 ∨ j = 2 by omega) with rfl | rfl | rfl
  · cases hk; rw [show h + -1 = h - 1 by omega]; rfl
  · cases hk; rw [Int.add_zero]; rfl
  · cases hk; rfl
theorem pr3_end {b : Option Int} {last : Int} {m : Nat} {h r : Int} (lt : r < cnt b last (m + 1) h) (h0 : 0 ≤ r) : pr3 b last m h r 3 < 0 := by
  rw [cnt] at lt
  split at lt
  · simp only [pr3]; omega
  · omega
theorem cnt_pos_wi {b : Option Int} {last : Int} {m : Nat} {h r : Int} (h0 : 0 ≤ r) (lt : r < cnt b last m h) : wi b h = true := by
  cases w : wi b h with
  | true => rfl
  | false => rw [cnt_out w] at lt; omega
end L2
namespace L2
open PySem PySem.Spec PyProof.Rows
def rsC (c : Nat) : Option Int := if c = 100 then some (-1) else if c = 108 then some 0 else if c = 117 then some 1 else none
def okW (b : Option Int) (last : Int) : List Nat → Int → Prop
  | [], h => h = last ∧ wi b h = true
  | c :: cs, h => wi b h = true ∧ ∃ r, rsC c = some r ∧ okW b last cs (h + r)
theorem cnt_nn (b : Option Int) (last : Int) (n : Nat) (h : Int) : 0 ≤ cnt b last n h := (cnt_bd b last n h).1
theorem ur_ok (b : Option Int) (last : Int) : ∀ (n : Nat) (h r : Int), 0 ≤ r → r < cnt b last n h → okW b last (ur b last n h r) h
  | 0, h, r, h0, lt => by
    have w := cnt_pos_wi h0 lt
    unfold cnt at lt
    split at lt
    · rename_i z; exact ⟨z.1, w⟩
    · omega
  | n + 1, h, r, h0, lt => by
    have w := cnt_pos_wi h0 lt
    have lt : r < cnt b last n (h - 1) + cnt b last n h + cnt b last n (h + 1) := by rw [cnt, if_pos w] at lt; exact lt
    unfold ur
    split
    · rename_i z
      exact ⟨w, -1, rfl, by rw [show h + -1 = h - 1 by omega]; exact ur_ok b last n (h - 1) r h0 z⟩
    · split
      · rename_i z y
        exact ⟨w, 0, rfl, by rw [Int.add_zero]; exact ur_ok b last n h _ (by omega) y⟩
      · rename_i z y
        exact ⟨w, 1, rfl, ur_ok b last n (h + 1) _ (by omega) (by omega)⟩
def lower (b : Option Int) (last : Int) (m : Nat) (c : Nat) (h : Int) : Int := if c = 100 then 0 else if c = 108 then cnt b last m (h - 1) else cnt b last m (h - 1) + cnt b last m h
def rk (b : Option Int) (last : Int) : List Nat → Int → Int
  | [], _ => 0
  | c :: cs, h => lower b last cs.length c h + rk b last cs (h + (rsC c).getD 0)
theorem okW_mem {b : Option Int} {last : Int} : ∀ {cs : List Nat} {h : Int}, okW b last cs h → ∀ c ∈ cs, c = 100 ∨ c = 108 ∨ c = 117
  | c :: cs, h, ok, x, hx => by
    obtain ⟨w, r, hr, ok⟩ := ok
    rcases List.mem_cons.mp hx with rfl | hx
    · unfold rsC at hr
      by_cases e1 : x = 100
      · exact .inl e1
      · rw [if_neg e1] at hr
        by_cases e2 : x = 108
        · exact .inr (.inl e2)
        · rw [if_neg e2] at hr
          by_cases e3 : x = 117
          · exact .inr (.inr e3)
          · rw [if_neg e3] at hr; cases hr
    · exact okW_mem ok x hx
def hgt (cs : List Nat) (h : Int) : Nat → Int
  | 0 => h
  | k + 1 => hgt cs h k + (rsC ((cs[k]?).getD 0)).getD 0
theorem hgt_cons (c : Nat) (cs : List Nat) (h : Int) : ∀ k, hgt (c :: cs) h (k + 1) = hgt cs (h + (rsC c).getD 0) k
  | 0 => rfl
  | k + 1 => by
    rw [hgt, hgt_cons c cs h k]
    show _ + (rsC (((c :: cs)[k + 1]?).getD 0)).getD 0 = _
    rw [List.getElem?_cons_succ]
    rfl
theorem okW_hgt {b : Option Int} {last : Int} : ∀ {cs : List Nat} {h : Int}, okW b last cs h → ∀ k, k ≤ cs.length → wi b (hgt cs h k) = true
  | [], h, ok, k, hk => by
    obtain rfl : k = 0 := by simpa using hk
    exact ok.2
  | c :: cs, h, ok, k, hk => by
    obtain ⟨w, r, hr, ok⟩ := ok
    cases k with
    | zero => exact w
    | succ k =>
      rw [hgt_cons, hr]
      exact okW_hgt ok k (by simpa using hk)
end L2
namespace L2
open PySem PySem.Spec PyProof.Rows
def sg (L D : Nat → Rat) (c : Nat) (h : Int) : Rat := if c = 117 then 1 else if c = 108 then L h.toNat else D (h.toNat - 1)
def wtL (L D : Nat → Rat) : List Nat → Int → Rat
  | [], _ => 1
  | c :: cs, h => sg L D c h * wtL L D cs (h + (rsC c).getD 0)
def ws (L D : Nat → Rat) (b : Option Int) (last : Int) : Nat → Int → Rat
  | 0, h => if h = last ∧ wi b last = true then 1 else 0
  | n + 1, h => if wi b h = true then D (h.toNat - 1) * ws L D b last n (h - 1) + L h.toNat * ws L D b last n h + ws L D b last n (h + 1) else 0
section
variable {L D : Nat → Rat} {b : Option Int} {last : Int}
theorem ws_out {n : Nat} {h : Int} (w : wi b h = false) : ws L D b last n h = 0 := by
  cases n with
  | zero =>
    unfold ws
    rw [if_neg]
    rintro ⟨rfl, z⟩
    rw [w] at z; cases z
  | succ n => unfold ws; rw [w]; simp
theorem Su_split (f : Nat → Rat) (a : Nat) : ∀ m, Mt.Su f (a + m) = Mt.Su f a + Mt.Su (fun r => f (a + r)) m
  | 0 => by simp only [Mt.Su, Nat.add_zero]; grind
  | m + 1 => by rw [← Nat.add_assoc, Mt.Su, Mt.Su, Su_split f a m]; grind
theorem sum_ur : ∀ (n : Nat) (h : Int), Mt.Su (fun r => wtL L D (ur b last n h r) h) (cnt b last n h).toNat = ws L D b last n h
  | 0, h => by
    unfold cnt ws
    split
    · simp only [Mt.Su, show (1 : Int).toNat = 1 from rfl]
      simp only [ur, wtL]
      grind
    · rfl
  | n + 1, h => by
    by_cases w : wi b h = true
    · have n1 := cnt_nn b last n (h - 1)
      have n2 := cnt_nn b last n h
      have n3 := cnt_nn b last n (h + 1)
      rw [cnt, if_pos w, ws, if_pos w, ← sum_ur n (h - 1), ← sum_ur n h, ← sum_ur n (h + 1)]
      rw [show (cnt b last n (h - 1) + cnt b last n h + cnt b last n (h + 1)).toNat = (cnt b last n (h - 1)).toNat + (cnt b last n h).toNat + (cnt b last n (h + 1)).toNat by omega, Su_split, Su_split]
      have e1 : Mt.Su (fun r => wtL L D (ur b last (n + 1) h r) h) (cnt b last n (h - 1)).toNat = D (h.toNat - 1) * Mt.Su (fun r => wtL L D (ur b last n (h - 1) r) (h - 1)) (cnt b last n (h - 1)).toNat := by
        rw [Rat.mul_comm, ← Mt.Su_mul]
        refine Mt.Su_congr fun r hr => ?_
        rw [ur, if_pos (by omega)]
        show sg L D 100 h * wtL L D (ur b last n (h - 1) r) (h + -1) = _
        rw [show h + -1 = h - 1 by omega, Rat.mul_comm]
        rfl
      have e2 : Mt.Su (fun r => wtL L D (ur b last (n + 1) h (((cnt b last n (h - 1)).toNat + r : Nat) : Int)) h) (cnt b last n h).toNat = L h.toNat * Mt.Su (fun r => wtL L D (ur b last n h r) h) (cnt b last n h).toNat := by
        rw [Rat.mul_comm, ← Mt.Su_mul]
        refine Mt.Su_congr fun r hr => ?_
        rw [ur, if_neg (by omega), if_pos (by omega), show (((cnt b last n (h - 1)).toNat + r : Nat) : Int) - cnt b last n (h - 1) = r by omega]
        show sg L D 108 h * wtL L D (ur b last n h r) (h + 0) = _
        rw [Int.add_zero, Rat.mul_comm]
        rfl
      have e3 : Mt.Su (fun r => wtL L D (ur b last (n + 1) h (((cnt b last n (h - 1)).toNat + (cnt b last n h).toNat + r : Nat) : Int)) h) (cnt b last n (h + 1)).toNat = Mt.Su (fun r => wtL L D (ur b last n (h + 1) r) (h + 1)) (cnt b last n (h + 1)).toNat := by
        refine Mt.Su_congr fun r hr => ?_
        rw [ur, if_neg (by omega), if_neg (by omega), show (((cnt b last n (h - 1)).toNat + (cnt b last n h).toNat + r : Nat) : Int) - cnt b last n (h - 1) - cnt b last n h = r by omega]
        show sg L D 117 h * wtL L D (ur b last n (h + 1) r) (h + 1) = _
        rw [show sg L D 117 h = 1 from rfl, Rat.one_mul]
      rw [e1, e2, e3]
    · have w' : wi b h = false := by simpa using w
      rw [cnt_out w', ws_out w']
      rfl
theorem ws_far : ∀ (n : Nat) (h : Int), n < h - last → ws L D b last n h = 0
  | 0, h, z => by unfold ws; rw [if_neg (fun y => by omega)]
  | n + 1, h, z => by
    rw [ws, ws_far n (h - 1) (by omega), ws_far n h (by omega), ws_far n (h + 1) (by omega)]
    split
    · grind
    · rfl
theorem ws_free {B : Int} (hb : ∀ h, h < B → wi b h = wi (some B) h) : ∀ (n : Nat) (h : Int), n + h + last < 2 * B → ws L D b last n h = ws L D (some B) last n h
  | 0, h, z => by
    unfold ws
    by_cases e : h = last
    · subst e
      rw [hb h (by omega)]
    · simp [e]
  | n + 1, h, z => by
    by_cases lt : h < B
    · rw [ws, ws, ws_free hb n (h - 1) (by omega), ws_free hb n h (by omega), ws_free hb n (h + 1) (by omega), hb h lt]
    · rw [ws_far _ h (by omega), ws_far _ h (by omega)]
end
section
variable {L D : Nat → Rat} {top : Nat}
theorem Su_pick (f : Nat → Rat) (j : Nat) : ∀ m, j < m → Mt.Su (fun x => if x = j then f x else 0) m = f j
  | m + 1, h => by
    rw [Mt.Su]
    by_cases e : m = j
    · subst e
      rw [Mt.Su_congr (g := fun _ => 0) (fun x hx => if_neg (by omega)), Mt.Su_zero, if_pos rfl]; grind
    · rw [Su_pick f j m (by omega), if_neg e]; grind
theorem Su_nopick (f : Nat → Rat) (j : Nat) : ∀ m, m ≤ j → Mt.Su (fun x => if x = j then f x else 0) m = 0
  | 0, _ => rfl
  | m + 1, h => by
    rw [Mt.Su, Su_nopick f j m (by omega), if_neg (by omega)]; grind
theorem sm_first {h j : Nat} (n : Nat) (hh : h < top) : Mt.sm L D top h (n + 1) j = (if 0 < h then D (h - 1) * Mt.sm L D top (h - 1) n j else 0) + L h * Mt.sm L D top h n j + (if h + 1 < top then Mt.sm L D top (h + 1) n j else 0) := by
  have c := Mt.comp (L := L) (D := D) (top := top) h 1 j n top (Nat.le_refl _)
  rw [show n + 1 = 1 + n by omega, ← c]
  have e : ∀ x, x < top → Mt.sm L D top h 1 x * Mt.sm L D top x n j = (if x = h then L x * Mt.sm L D top x n j else 0) + (if x = h + 1 then Mt.sm L D top x n j else 0) + (if x = h - 1 then (if 0 < h then D x * Mt.sm L D top x n j else 0) else 0) := by
    intro x hx
    rw [Mt.sm_succ hx]
    unfold Mt.wk
    rw [Mt.sm_zero hx]
    by_cases e1 : x = h
    · subst e1
      have a : (if 0 < x then Mt.sm L D top x 0 (x - 1) else 0) = 0 := by
        split
        · rw [Mt.sm_zero (by omega), if_neg (by omega)]
        · rfl
      have d : (if x + 1 < top then Mt.sm L D top x 0 (x + 1) * D x else 0) = 0 := by
        split
        · rw [Mt.sm_zero (by omega), if_neg (by omega)]; grind
        · rfl
      rw [a, d, if_pos rfl, if_pos rfl, if_neg (by omega)]
      by_cases z : x = x - 1
      · rw [if_pos z, if_neg (by omega)]; grind
      · rw [if_neg z]; grind
    · rw [if_neg e1, if_neg e1]
      by_cases e2 : x = h + 1
      · subst e2
        have d : (if h + 1 + 1 < top then Mt.sm L D top h 0 (h + 1 + 1) * D (h + 1) else 0) = 0 := by
          split
          · rw [Mt.sm_zero (by omega), if_neg (by omega)]; grind
          · rfl
        rw [d, if_pos (by omega), if_pos rfl, if_neg (by omega), show h + 1 - 1 = h by omega, Mt.sm_zero (by omega), if_pos rfl]
        grind
      · rw [if_neg e2]
        have a : (if 0 < x then Mt.sm L D top h 0 (x - 1) else 0) = 0 := by
          split
          · rw [Mt.sm_zero (by omega), if_neg (by omega)]
          · rfl
        rw [a]
        by_cases e3 : x = h - 1
        · rw [if_pos e3, if_pos (by omega), if_pos (by omega), Mt.sm_zero (by omega), if_pos (by omega)]
          grind
        · rw [if_neg e3]
          have d : (if x + 1 < top then Mt.sm L D top h 0 (x + 1) * D x else 0) = 0 := by
            split
            · rw [Mt.sm_zero (by omega), if_neg (by omega)]; grind
            · rfl
          rw [d]; grind
  rw [Mt.Su_congr e, Mt.Su_add, Mt.Su_add, Su_pick _ h top hh]
  have p2 : Mt.Su (fun x => if x = h + 1 then Mt.sm L D top x n j else 0) top = if h + 1 < top then Mt.sm L D top (h + 1) n j else 0 := by
    split
    · rename_i z; exact Su_pick (fun x => Mt.sm L D top x n j) (h + 1) top z
    · exact Su_nopick _ _ _ (by omega)
  have p3 : Mt.Su (fun x => if x = h - 1 then (if 0 < h then D x * Mt.sm L D top x n j else 0) else 0) top = if 0 < h then D (h - 1) * Mt.sm L D top (h - 1) n j else 0 := Su_pick (fun x => if 0 < h then D x * Mt.sm L D top x n j else 0) (h - 1) top (by omega)
  rw [p2, p3]
  grind
theorem ws_sm (j : Nat) : ∀ (n h : Nat), h < top → ws L D (some (top : Int)) (j : Int) n (h : Int) = Mt.sm L D top h n j
  | 0, h, hh => by
    unfold ws
    by_cases hj : j < top
    · have w : wi (some (top : Int)) (j : Int) = true := by simp [wi]; omega
      rw [Mt.sm_zero hj, w]
      by_cases e : j = h
      · subst e; simp
      · have e' : ¬ (h : Int) = j := by omega
        simp [e, e']
    · have w : wi (some (top : Int)) (j : Int) = false := by simp [wi]; omega
      rw [Mt.sm_ge (by omega), w]; simp
  | n + 1, h, hh => by
    have w : wi (some (top : Int)) (h : Int) = true := by simp [wi]; omega
    rw [ws, if_pos w, sm_first n hh, ws_sm j n h hh, show ((h : Int)).toNat = h by omega]
    have a : D (h - 1) * ws L D (some (top : Int)) (j : Int) n ((h : Int) - 1) = if 0 < h then D (h - 1) * Mt.sm L D top (h - 1) n j else 0 := by
      split
      · rw [show (h : Int) - 1 = ((h - 1 : Nat) : Int) by omega, ws_sm j n (h - 1) (by omega)]
      · rw [ws_out (by simp [wi]; omega)]; grind
    have c : ws L D (some (top : Int)) (j : Int) n ((h : Int) + 1) = if h + 1 < top then Mt.sm L D top (h + 1) n j else 0 := by
      split
      · rw [show (h : Int) + 1 = ((h + 1 : Nat) : Int) by omega, ws_sm j n (h + 1) (by omega)]
      · rw [ws_out (by simp [wi]; omega)]
    rw [a, c]
end
theorem rs_le (c : Nat) : (rsC c).getD 0 ≤ 1 ∧ -1 ≤ (rsC c).getD 0 := by
  unfold rsC
  split
  · decide
  · split
    · decide
    · split <;> decide
theorem hgt_up (cs : List Nat) (h : Int) : ∀ j, hgt cs h j ≤ h + j
  | 0 => by simp [hgt]
  | j + 1 => by
    have := hgt_up cs h j
    have := rs_le ((cs[j]?).getD 0)
    rw [hgt]; omega
theorem hgt_down {b : Option Int} {last : Int} : ∀ {cs : List Nat} {h : Int}, okW b last cs h → ∀ j, j ≤ cs.length → hgt cs h j ≤ last + (cs.length - j : Nat)
  | [], h, ok, j, hj => by
    obtain rfl : j = 0 := by simpa using hj
    have := ok.1
    simp [hgt]; omega
  | c :: cs, h, ok, j, hj => by
    obtain ⟨w, r, hr, ok⟩ := ok
    cases j with
    | zero =>
      have := hgt_down ok 0 (Nat.zero_le _)
      have e := rs_le c
      rw [hr] at e
      simp [hgt] at this e ⊢
      omega
    | succ j =>
      have := hgt_down ok j (by simpa using hj)
      rw [hgt_cons, hr]
      simp at this ⊢
      exact this
end L2
namespace K51
open PySem L2
theorem cx_K {CX : CXT} {P : Program} {w : World} {K : PySem.W.Frag} {mg : Str → Option Value} {base : Heap} {N : List Str} {qual : Str} {scope : Scope} {f : Addr} {cd : Value} {A : Around} {outer : List Env} {s : Shared} {H : Hp} {E : XK} : (cxOf CX P w K mg base N qual scope f cd A outer s H E).K = K := rfl
theorem cxU_K {CX : CXT} {P : Program} {w : World} {K : PySem.W.Frag} {mg : Str → Option Value} {base : Heap} {N : List Str} {qual : Str} {scope : Scope} {f : Addr} {cd : Value} {A : Around} {outer : List Env} {s : Shared} {H : Hp} {E : XK} : (cxU CX P w K mg base N qual scope f cd A outer s H E).K = K := rfl
local macro_rules | `(tactic| walk_at "rd") => `(tactic| simp [tSeq, tIfS, tTest, tB, tOp, rI, rI0, rEq, rNe, scal, tVar, tC, tCB, tCons, tNil, tNext, tRet, L2.start, rIxL, rIxT, rFqI, tAsg, gName, tUn, rU, tNot, tAnd, tOr, tAndV, tOrV, tIf, tTup, tLst, tCall, tDrop, tForR, tForL, tForE, gTup, gCons, gNil, gSub, rSetL, tRaise, Ends.gone, cσ, CPow, tCoR, tCoL, tCoT, tExcInit, tFs, sXset, tRaiseI, tChain, cx_K, cxU_K, tSl, tNoPart, tPart, rAppend, tBM, tForR2, rKIx, rKIn, tKIx, tForES, tDGet, tListRev, tForVL, tForK, tForD, sDPut, tDGet2, tDNewK, tDisp, tPairs, ipI, tBreak, tForR3])
def top (i : Nat) : Stmt := PySem.Challenge.pw_heightfractions_k51_whole_four_roads.main.body.getD i (.Pass ⟨0, 0, 0, 0⟩)
structure Tx (w : World) (K : PySem.W.Frag) (mg : Str → Option Value) (C_HeightError : Addr) (C_NOUGHT : Addr) (C_NoFraction : Addr) (C_NoSeries : Addr) (C_NoWay : Addr) (C_NoWeights : Addr) (C_ONE : Addr) (C_RISES : Addr) (C_TooFar : Addr) (C_TooHigh : Addr) (C_TooMany : Addr) : Prop where
  b_abs : mg "abs" = none
  b_enumerate : mg "enumerate" = none
  b_len : mg "len" = none
  b_list : mg "list" = none
  b_max : mg "max" = none
  b_min : mg "min" = none
  b_range : mg "range" = none
  b_reversed : mg "reversed" = none
  b_tuple : mg "tuple" = none
  m_HeightError : mg "HeightError" = some (.ref C_HeightError)
  m_NOUGHT : mg "NOUGHT" = some (.ref C_NOUGHT)
  m_NoFraction : mg "NoFraction" = some (.ref C_NoFraction)
  m_NoSeries : mg "NoSeries" = some (.ref C_NoSeries)
  m_NoWay : mg "NoWay" = some (.ref C_NoWay)
  m_NoWeights : mg "NoWeights" = some (.ref C_NoWeights)
  m_ONE : mg "ONE" = some (.ref C_ONE)
  m_RISES : mg "RISES" = some (.ref C_RISES)
  m_TooFar : mg "TooFar" = some (.ref C_TooFar)
  m_TooHigh : mg "TooHigh" = some (.ref C_TooHigh)
  m_TooMany : mg "TooMany" = some (.ref C_TooMany)
  rises : KD w K C_RISES rises
  i_HeightError : initOf K C_HeightError = true
  y_NoWay : XAtt K C_NoWay "at"
  j_NoWay : ∃ fI, excInit K C_NoWay fI = true
  x_TooMany : ExcC K C_TooMany
  g_MOST_L : ∃ t, mg "MOST_LISTED" = some (.int 400 t)
  nought : ∀ H, Fq K H C_NOUGHT 0
  one : ∀ H, Fq K H C_ONE 1
  x_NoWeights : ExcC K C_NoWeights
  x_TooFar : ExcC K C_TooFar
  g_MOST : ∃ t, mg "MOST_LEVELS" = some (.int 8 t)
  y_TooHigh : XAtt K C_TooHigh "height"
  j_TooHigh : ∃ fI, excInit K C_TooHigh fI = true
  x_NoFraction : ExcC K C_NoFraction
  x_NoSeries : ExcC K C_NoSeries
def spGcd : Sp := fun vs H Q _ => ∃ (a b : Int), vs = [.int a, .int b] ∧ Q (.int (Int.gcd a b : Nat)) H
def spLow : Sp := fun vs H Q _ => ∃ (t b : Int), vs = [.int t, .int b] ∧ 0 < b ∧ Bd 9000 b ∧ ∀ p, H p = none → Q (.ref p) (upd H p (frO (Rat.divInt t b)))
def spBin (K : PySem.W.Frag) (f : Rat → Rat → Rat) : Sp := fun vs H Q _ => ∃ (p q : Addr) (a b : Rat), vs = [.ref p, .ref q] ∧ Fq K H p a ∧ Fq K H q b ∧ Sz 4000 a ∧ Sz 4000 b ∧ ∀ r H', Same H H' → H r = none → H' r = some (frO (f a b)) → Q (.ref r) H'
def spOver (K : PySem.W.Frag) (C : Addr) : Sp := fun vs H Q E => ∃ (p q : Addr) (a b : Rat), vs = [.ref p, .ref q] ∧ Fq K H p a ∧ Fq K H q b ∧ Sz 4000 a ∧ Sz 4000 b ∧ (b = 0 → E (.ref C) none H) ∧ (b ≠ 0 → ∀ r H', Same H H' → H r = none → H' r = some (frO (a / b)) → Q (.ref r) H')
def spPolyOf (K : PySem.W.Frag) : Sp := fun vs H Q _ => ∃ (a : Addr) (xs : List V) (f : List Rat), vs = [.ref a] ∧ (SqL K H a xs ∨ SqT K H a xs) ∧ Frs K H f xs ∧ f.length ≤ 900 ∧ ∀ p H', Same H H' → Pl K H' p (Mt.trim f) → Q (.ref p) H'
def spNumAt (K : PySem.W.Frag) : Sp := fun vs H Q _ => ∃ (p : Addr) (f : List Rat) (n : Nat), vs = [.ref p, .int n] ∧ Pl K H p f ∧ ∀ r, Fq K H r (Mt.cf f n) → Q (.ref r) H
def spPP (K : PySem.W.Frag) (op : List Rat → List Rat → List Rat) : Sp := fun vs H Q _ => ∃ (p q : Addr) (f g : List Rat), vs = [.ref p, .ref q] ∧ Pl K H p f ∧ Pl K H q g ∧ f.length ≤ 400 ∧ g.length ≤ 400 ∧ (∀ n, Sz 3990 (Mt.cf f n)) ∧ (∀ n, Sz 3990 (Mt.cf g n)) ∧ ∀ r H', Same H H' → Pl K H' r (op f g) → Q (.ref r) H'
def spScaled (K : PySem.W.Frag) : Sp := fun vs H Q _ => ∃ (p q : Addr) (f : List Rat) (a : Rat), vs = [.ref p, .ref q] ∧ Pl K H p f ∧ Fq K H q a ∧ f.length ≤ 400 ∧ (∀ n, Sz 4000 (Mt.cf f n)) ∧ Sz 4000 a ∧ ∀ r H', Same H H' → Pl K H' r (Mt.pscale f a) → Q (.ref r) H'
def spDeg (K : PySem.W.Frag) : Sp := fun vs H Q _ => ∃ (p : Addr) (f : List Rat), vs = [.ref p] ∧ Pl K H p f ∧ Q (.int ((f.length : Int) - 1)) H
def Wt (K : PySem.W.Frag) (H : Hp) (p : Addr) (L D : List Rat) : Prop := ∃ a b, SqT K H p [.ref a, .ref b] ∧ Pl K H a L ∧ Pl K H b D
theorem Wt.same {K : PySem.W.Frag} {H H' : Hp} {p : Addr} {L D : List Rat} (h : Wt K H p L D) (s : Same H H') : Wt K H' p L D := let ⟨a, b, h0, h1, h2⟩ := h; ⟨a, b, s.seqT h0, h1.same s, h2.same s⟩
structure Ws (L D : List Rat) : Prop where
  l : ∀ q ∈ L, Mt.Wg q
  d : ∀ q ∈ D, Mt.Wg q
  n : L.length = D.length + 1
  m : D.length ≤ 7
theorem lat_sz {D N m : Nat} {q : Rat} (h : Mt.Lat D N q) (hD : 0 < D) (h1 : D < 2 ^ m) (h2 : N < 2 ^ m) : Sz m q := by
  have e := h.dvd (by omega)
  have l := Nat.le_of_dvd hD e.1
  exact ⟨show (_ : Nat) < _ by omega, show (_ : Nat) < _ by show ((q.den : Int)).natAbs < _; omega⟩
theorem gd_le {n : Nat} (h : n ≤ 32) : Mt.B0 ^ n < 2 ^ 1200 ∧ 8 * (Mt.W0 ^ n * Mt.B0 ^ n) < 2 ^ 1200 := by
  have a : Mt.B0 ^ n ≤ Mt.B0 ^ 32 := Nat.pow_le_pow_right (by decide) h
  have b : Mt.W0 ^ n ≤ Mt.W0 ^ 32 := Nat.pow_le_pow_right (by decide) h
  have c : Mt.B0 ^ 32 < 2 ^ 1200 := by decide +kernel
  have d : 8 * (Mt.W0 ^ 32 * Mt.B0 ^ 32) < 2 ^ 1200 := by decide +kernel
  exact ⟨Nat.lt_of_le_of_lt a c, Nat.lt_of_le_of_lt (Nat.mul_le_mul_left _ (Nat.mul_le_mul b a)) d⟩
theorem gd_sz {n : Nat} {q : Rat} (h : Mt.Gd n q) (hn : n ≤ 32) : Sz 1300 q := (lat_sz (m := 1200) h (Nat.pow_pos (by decide)) (gd_le hn).1 (by have := (gd_le hn).2; omega)).mono (by decide)
theorem wg_sz {q : Rat} (h : Mt.Wg q) : Sz 1300 q := (lat_sz (m := 100) h (by decide) (by decide) (by decide)).mono (by decide)
theorem Ws.sL {L D : List Rat} (h : Ws L D) (n : Nat) : Sz 1300 (Mt.cf L n) := wg_sz (Mt.wg_cf h.l n)
theorem Ws.sD {L D : List Rat} (h : Ws L D) (n : Nat) : Sz 1300 (Mt.cf D n) := wg_sz (Mt.wg_cf h.d n)
theorem Ws.sm {L D : List Rat} (h : Ws L D) {n : Nat} (hn : n ≤ 32) (top i j : Nat) : Sz 1300 (Mt.sm (Mt.cf L) (Mt.cf D) top i n j) := gd_sz (Mt.gd_sm (Mt.wg_cf h.l) (Mt.wg_cf h.d) n j) hn
def bdOf (k : Nat) : V → Nat
  | .int b => min (k + 1) b.toNat
  | _ => k + 1
def lowOf (k : Nat) : V → Bool
  | .int b => decide (b ≤ (k : Int) + 1)
  | _ => false
def tooFar (k n i j : Nat) (bl : V) : Bool := !lowOf k bl && decide (2 * k + 1 < n + i + j)
def okB (bl : V) : Prop := bl = .non ∨ ∃ b : Nat, bl = .int b
def spStir2 (K : PySem.W.Frag) : Sp := fun vs H Q _ => ∃ (a : Addr) (ns : List Int) (k : Int), vs = [.ref a, .int k] ∧ SqL K H a (ns.map V.int) ∧ 0 ≤ k ∧ k ≤ 1000 ∧ ∀ d : Int, 0 ≤ d → d < 1000000007 → Q (.int d) H
def spRow (K : PySem.W.Frag) : Sp := fun vs H Q _ => ∃ (a : Addr) (ns : List Int) (k many size : Int), vs = [.ref a, .int k, .int many, .int size] ∧ SqL K H a (ns.map V.int) ∧ 0 ≤ k ∧ k ≤ 100 ∧ 0 ≤ many ∧ many ≤ 20 ∧ 0 < size ∧ size < 1000000000 ∧
  ∀ D H' (cs : List Int), Same H H' → H D = none → H' D = some (.lst (cs.map V.int)) → cs.length = many.toNat → (∀ c ∈ cs, 0 ≤ c ∧ c < size) → Q (.ref D) H'
def spWby : Sp := fun vs H Q _ => ∃ (c : Int), vs = [.int c] ∧ 0 ≤ c ∧ ∀ p q, H p = none → Mt.Wg q → Q (.ref p) (upd H p (frO q))
def spWeights (K : PySem.W.Frag) : Sp := fun vs H Q _ => ∃ (a : Addr) (ns : List Int) (b : Int) (k : Nat), vs = [.ref a, .int b, .int k] ∧ SqL K H a (ns.map V.int) ∧ 0 ≤ b ∧ b ≤ 50 ∧ k ≤ 7 ∧
  ∀ P D1 D2 H' x1 x2 f1 f2, Same H H' → H D1 = none → H D2 = none → D1 ≠ D2 → H' P = some (.tup [.ref D1, .ref D2]) → H' D1 = some (.lst x1) → H' D2 = some (.lst x2) → Frs K H' f1 x1 → Frs K H' f2 x2 → Ws f1 f2 → f2.length = k → Q (.ref P) H'
def spWof (K : PySem.W.Frag) (C : Addr) : Sp := fun vs H Q E => ∃ (D1 D2 : Addr) (x1 x2 : List V) (f1 f2 : List Rat), vs = [.ref D1, .ref D2] ∧ H D1 = some (.lst x1) ∧ H D2 = some (.lst x2) ∧ Frs K H f1 x1 ∧ Frs K H f2 x2 ∧
  (¬ (f1.length = f2.length + 1 ∧ f1.length ≤ 8) → E (.ref C) none H) ∧ (f1.length = f2.length + 1 → f1.length ≤ 8 → ∀ w H', Same H H' → Wt K H' w f1 f2 → Q (.ref w) H')
def spHof (K : PySem.W.Frag) : Sp := fun vs H Q _ => ∃ (w : Addr) (L D : List Rat), vs = [.ref w] ∧ Wt K H w L D ∧ Q (.int D.length) H
def spReach (K : PySem.W.Frag) (C : Addr) : Sp := fun vs H Q E => ∃ (w : Addr) (L D : List Rat) (n i j : Nat) (bl : V), vs = [.ref w, .int n, .int i, .int j, bl] ∧ Wt K H w L D ∧ okB bl ∧ (tooFar D.length n i j bl = true → E (.ref C) none H) ∧ (tooFar D.length n i j bl = false → Q .non H)
def spStepOn (K : PySem.W.Frag) : Sp := fun vs H Q _ => ∃ (w S : Addr) (L D f : List Rat) (xs : List V), vs = [.ref w, .ref S] ∧ Wt K H w L D ∧ H S = some (.lst xs) ∧ Frs K H f xs ∧ f.length ≤ L.length ∧ f.length ≤ D.length + 1 ∧ f.length ≤ 100 ∧
  (∀ h, Sz 1300 (Mt.cf f h)) ∧ (∀ h, Sz 1300 (Mt.cf L h)) ∧ (∀ h, Sz 1300 (Mt.cf D h)) ∧
  ∀ S' H' ys, Same H H' → H S' = none → H' S' = some (.lst ys) → Frs K H' ((List.range f.length).map fun h => Mt.wk (Mt.cf L) (Mt.cf D) (Mt.cf f) f.length h) ys → Q (.ref S') H'
def spStepped (K : PySem.W.Frag) : Sp := fun vs H Q _ => ∃ (w : Addr) (L D : List Rat) (n i j : Nat) (bl : V), vs = [.ref w, .int n, .int i, .int j, bl] ∧ Wt K H w L D ∧ Ws L D ∧ okB bl ∧ n ≤ 31 ∧ tooFar D.length n i j bl = false ∧
  (∀ r H', Same H H' → Fq K H' r (Mt.sm (Mt.cf L) (Mt.cf D) (bdOf D.length bl) i n j) → Q (.ref r) H')
def spMulP (K : PySem.W.Frag) : Sp := fun vs H Q _ => ∃ (p q : Addr) (f g : List Rat) (b c : Nat), vs = [.ref p, .ref q] ∧ Pl K H p f ∧ Pl K H q g ∧ f.length ≤ 64 ∧ g.length ≤ 64 ∧ Mt.Ln b b f ∧ Mt.Ln c c g ∧ b + c + 20 ≤ 3990 ∧ ∀ r H', Same H H' → Pl K H' r (Mt.pmul f g) → Q (.ref r) H'
def spOneLess (K : PySem.W.Frag) : Sp := fun vs H Q _ => ∃ (p : Addr) (a : Rat), vs = [.ref p] ∧ Fq K H p a ∧ Sz 4000 a ∧ ∀ r H', Same H H' → Pl K H' r (Mt.l1 a) → Q (.ref r) H'
def spOneBelow (K : PySem.W.Frag) : Sp := fun vs H Q _ => ∃ (w pf pg : Addr) (h : Nat) (L D f g : List Rat), vs = [.ref w, .int h, .ref pf, .ref pg] ∧ Wt K H w L D ∧ Ws L D ∧ 1 ≤ h ∧ h < L.length ∧ Pl K H pf f ∧ Pl K H pg g ∧ f.length ≤ 30 ∧ g.length ≤ 30 ∧ Mt.Ln 320 320 f ∧ Mt.Ln 320 320 g ∧
  ∀ r H', Same H H' → Pl K H' r (Mt.nxt (Mt.cf L h) (Mt.cf D (h - 1)) f g) → Q (.ref r) H'
def spEndOf (K : PySem.W.Frag) (C : Addr) : Sp := fun vs H Q E => ∃ (w : Addr) (h : Nat) (L D : List Rat), vs = [.ref w, .int h] ∧ Wt K H w L D ∧ Ws L D ∧ (D.length + 1 < h → E (.ref C) none H) ∧ (h ≤ D.length + 1 → ∀ r H', Same H H' → Wt K H' r (Mt.tp L D h) (Mt.bt L D h) → Q (.ref r) H')
theorem gp_tp {L D : List Rat} (h : Ws L D) (n : Nat) : Mt.Gp n (Mt.tp L D n) := Mt.gp_en Mt.Gp.nil Mt.gp_one1 (Mt.wg_cf h.l) (Mt.wg_cf h.d) n
theorem gp_bt {L D : List Rat} (h : Ws L D) (n : Nat) : Mt.Gp n (Mt.bt L D n) := Mt.gp_en Mt.gp_one (Mt.gp_l1 (Mt.wg_cf h.l 0)) (Mt.wg_cf h.l) (Mt.wg_cf h.d) n
theorem tp_succ (L D : List Rat) {n : Nat} (h : 1 ≤ n) : Mt.tp L D (n + 1) = Mt.nxt (Mt.cf L n) (Mt.cf D (n - 1)) (Mt.tp L D n) (Mt.tp L D (n - 1)) := by
  obtain ⟨m, rfl⟩ : ∃ m, n = m + 1 := ⟨n - 1, by omega⟩
  rfl
theorem bt_succ (L D : List Rat) {n : Nat} (h : 1 ≤ n) : Mt.bt L D (n + 1) = Mt.nxt (Mt.cf L n) (Mt.cf D (n - 1)) (Mt.bt L D n) (Mt.bt L D (n - 1)) := by
  obtain ⟨m, rfl⟩ : ∃ m, n = m + 1 := ⟨n - 1, by omega⟩
  rfl
theorem len_pmul (f g : List Rat) : (Mt.pmul f g).length ≤ f.length + g.length := Nat.le_trans (Mt.trim_len _) (by rw [Mt.prodIn_len]; omega)
def stp (c : Nat) (h : Int) : Option Int := if c = 100 then (if h - 1 < 0 then none else some (h - 1)) else if c = 108 then some h else if c = 117 then some (h + 1) else none
def riseOf (c : Nat) : Option Int := if c = 100 then some (-1) else if c = 108 then some 0 else if c = 117 then some 1 else none
def ht (x : Str) (h0 : Int) : Nat → Option Int
  | 0 => some h0
  | k + 1 => (ht x h0 k).bind fun h => (x.cps[k]?).bind fun c => stp c h
theorem ht_nn {x : Str} {h0 : Int} (h : 0 ≤ h0) : ∀ k v, ht x h0 k = some v → 0 ≤ v
  | 0, v, e => by cases e; exact h
  | k + 1, v, e => by
    unfold ht at e
    obtain ⟨a, ea, e⟩ := Option.bind_eq_some_iff.mp e
    obtain ⟨c, ec, e⟩ := Option.bind_eq_some_iff.mp e
    have := ht_nn h k a ea
    unfold stp at e
    split at e
    · split at e
      · cases e
      · cases e; omega
    · split at e
      · cases e; exact this
      · split at e
        · cases e; omega
        · cases e
theorem stp_rise {c : Nat} {h : Int} (hh : 0 ≤ h) : stp c h = (riseOf c).bind fun r => if h + r < 0 then none else some (h + r) := by
  unfold stp riseOf
  by_cases a : c = 100
  · rw [if_pos a, if_pos a]; simp only [Option.bind_some]; rw [show h + -1 = h - 1 by omega]
  · rw [if_neg a, if_neg a]
    by_cases b : c = 108
    · rw [if_pos b, if_pos b]; simp only [Option.bind_some]; rw [if_neg (by omega), Int.add_zero]
    · rw [if_neg b, if_neg b]
      by_cases d : c = 117
      · rw [if_pos d, if_pos d]; simp only [Option.bind_some]; rw [if_neg (by omega)]
      · rw [if_neg d, if_neg d]; rfl
theorem one_eq (c : Nat) (y : Str) (h : y.cps.toList = [d]) : ((⟨#[c]⟩ : Str) = y) ↔ c = d := by
  constructor
  · intro e; rw [← e] at h; simpa using h
  · intro e
    subst e
    refine PySem.Str.ext' (Array.ext' ?_)
    rw [h]
theorem rises_at (c : Nat) : valV rises (.inr (⟨#[c]⟩ : Str)) = (riseOf c).map V.int := by
  have hd : ((⟨#[c]⟩ : Str) = Str.ofString "d") ↔ c = 100 := one_eq c _ (by decide)
  have hl : ((⟨#[c]⟩ : Str) = Str.ofString "l") ↔ c = 108 := one_eq c _ (by decide)
  have hu : ((⟨#[c]⟩ : Str) = Str.ofString "u") ↔ c = 117 := one_eq c _ (by decide)
  unfold rises valV riseOf
  by_cases a : c = 100
  · rw [if_pos a, hd.mpr a]; rfl
  · rw [if_neg a]
    by_cases b : c = 108
    · rw [if_pos b, hl.mpr b]; decide
    · rw [if_neg b]
      by_cases d : c = 117
      · rw [if_pos d, hu.mpr d]; decide
      · rw [if_neg d]
        have n1 : ¬ ((Sum.inr (Str.ofString "d") : Key) = Sum.inr (⟨#[c]⟩ : Str)) := fun e => a (hd.mp (Sum.inr.inj e).symm)
        have n2 : ¬ ((Sum.inr (Str.ofString "l") : Key) = Sum.inr (⟨#[c]⟩ : Str)) := fun e => b (hl.mp (Sum.inr.inj e).symm)
        have n3 : ¬ ((Sum.inr (Str.ofString "u") : Key) = Sum.inr (⟨#[c]⟩ : Str)) := fun e => d (hu.mp (Sum.inr.inj e).symm)
        simp [n1, n2, n3]
def htL (x : Str) (h0 : Int) (k : Nat) : List V := (List.range (k + 1)).map fun j => .int ((ht x h0 j).getD 0)
theorem htL_len (x : Str) (h0 : Int) (k : Nat) : (htL x h0 k).length = k + 1 := by simp [htL]
theorem htL_at {x : Str} {h0 : Int} {k j : Nat} (h : j ≤ k) : (htL x h0 k)[j]? = some (.int ((ht x h0 j).getD 0)) := by simp [htL, show j < k + 1 by omega]
theorem htL_succ (x : Str) (h0 : Int) (k : Nat) : htL x h0 (k + 1) = htL x h0 k ++ [.int ((ht x h0 (k + 1)).getD 0)] := by simp [htL, List.range_succ]
def spInit (C : Addr) (f : Str) : Sp := fun vs H Q _ => ∃ (e : Addr) (n : Int), vs = [.ref e, .int n] ∧ H e = some (rawX e (.ref C) none) ∧ 0 ≤ n ∧ n < 1000 ∧ ∀ d, H d = none → d ≠ e → Q .non (upd (upd H e (rawX e (.ref C) (some d))) d (.xd [(f, .int n)]))
theorem raiseN {C : Addr} {E : XK} {H H1 : Hp} {f : Str} {n : Int} (h0 : 0 ≤ n) (h1 : n < 1000) (sm : Same H H1) (no : ∀ d H', Same H H' → H d = none → H' d = some (.xd [(f, .int n)]) → E (.ref C) (some d) H') :
    ∀ e, H1 e = none → spInit C f [.ref e, .int n] (upd H1 e (rawX e (.ref C) none)) (fun r H2 => r = .non ∧ ∃ dv, H2 e = some (rawX e (.ref C) dv) ∧ E (.ref C) dv (era H2 e)) E0 := fun e he =>
  ⟨e, n, rfl, upd_same, h0, h1, fun d hd nd => ⟨rfl, some d, by rw [upd_ne (Ne.symm nd), upd_same], no d _ (fun b o z => by
      have z1 := sm b o z
      have n1 := ne_of_none z1 he
      have hd1 : H1 d = none := by rw [upd_ne nd] at hd; exact hd
      rw [era_ne n1, upd_ne (ne_of_none z1 hd1), upd_ne n1, upd_ne n1]
      exact z1) (sm.free (by rw [upd_ne nd] at hd; exact hd)) (by rw [era_ne nd, upd_same])⟩⟩
def asc (x : Str) : Prop := x.cps.all (· < 128) = true
theorem asc_iff (x : Str) : asc x ↔ ∀ c ∈ x.cps.toList, c < 128 := by
  unfold asc
  rw [← Array.all_toList, List.all_eq_true]
  simp
def spAlong (K : PySem.W.Frag) (C : Addr) : Sp := fun vs H Q E => ∃ (x : Str) (h0 : Int), vs = [.str x, .int h0] ∧ 0 ≤ h0 ∧ x.cps.size ≤ 100 ∧ asc x ∧
  (∀ k, k < x.cps.size → (∀ j, j ≤ k → (ht x h0 j).isSome = true) → ht x h0 (k + 1) = none → ∀ d H', Same H H' → H d = none → H' d = some (.xd [("at", .int k)]) → E (.ref C) (some d) H') ∧
  ((∀ j, j ≤ x.cps.size → (ht x h0 j).isSome = true) → ∀ p H', Same H H' → H' p = some (.tup (htL x h0 x.cps.size)) → Q (.ref p) H')
theorem kd_rises {w : World} {K : PySem.W.Frag} {R : Addr} {h1 h2 h3 : Int} {t1 t2 t3 u1 u2 u3 : Tok} {ep : Nat}
    (l : K.lookup R = some ⟨.type "dict", none, .dict #[⟨h1, .str "d" t1, .int (-1) u1⟩, ⟨h2, .str "l" t2, .int 0 u2⟩, ⟨h3, .str "u" t3, .int 1 u3⟩] ep, #[]⟩)
    (e1 : h1 = hashStr w "d") (e2 : h2 = hashStr w "l") (e3 : h3 = hashStr w "u") (sm : (R == sysModules) = false) : KD w K R rises := by
  subst e1 e2 e3
  refine ⟨⟨_, _, ep, [(.inr (Str.ofString "d"), .int (-1) u1), (.inr (Str.ofString "l"), .int 0 u2), (.inr (Str.ofString "u"), .int 1 u3)], l, ⟨rfl, rfl, rfl⟩, rfl, fun P e he => ?_, fun P => .cons (keyIs_str _ t1) rfl (.cons (keyIs_str _ t2) rfl (.cons (keyIs_str _ t3) rfl .nil)), (show ([Sum.inr (Str.ofString "d"), Sum.inr (Str.ofString "l"), Sum.inr (Str.ofString "u")] : List Key).Nodup by decide), .cons ⟨rfl, ⟨_, rfl⟩⟩ (.cons ⟨rfl, ⟨_, rfl⟩⟩ (.cons ⟨rfl, ⟨_, rfl⟩⟩ .nil))⟩, sm⟩
  have he : e ∈ [(⟨hashStr w "d", .str "d" t1, .int (-1) u1⟩ : DictEntry), ⟨hashStr w "l", .str "l" t2, .int 0 u2⟩, ⟨hashStr w "u", .str "u" t3, .int 1 u3⟩] := Array.mem_toList_iff.mpr he
  rcases List.mem_cons.mp he with rfl | he
  · exact ⟨.inr "d", keyIs_str _ t1, rfl⟩
  rcases List.mem_cons.mp he with rfl | he
  · exact ⟨.inr "l", keyIs_str _ t2, rfl⟩
  rcases List.mem_cons.mp he with rfl | he
  · exact ⟨.inr "u", keyIs_str _ t3, rfl⟩
  exact nomatch he
def spWithin : Sp := fun vs H Q _ => ∃ (h : Int) (b : Option Int), vs = [.int h, bV b] ∧ Q (.bl (wi b h)) H
def spOneStep : Sp := fun vs H Q _ => ∃ (a : Addr) (ps : List (Int × Int)) (b : Option Int) (N : Nat), vs = [.ref a, bV b] ∧ H a = some (.dK (dk ps)) ∧ Kin N ps ∧ N ≤ 800 ∧
  ∀ p H', Same H H' → H p = none → H' p = some (.dK (dk (one b ps))) → Q (.ref p) H'
def spToGo : Sp := fun vs H Q _ => ∃ (n : Nat) (last : Int) (b : Option Int), vs = [.int n, .int last, bV b] ∧ n ≤ 400 ∧ last < 100 ∧ ∀ p H', Same H H' → H p = none → DL H' b last n p → Q (.ref p) H'
def spCounted : Sp := fun vs H Q _ => ∃ (n : Nat) (first last : Int) (b : Option Int), vs = [.int n, .int first, .int last, bV b] ∧ n ≤ 400 ∧ last < 100 ∧ ∀ H', Same H H' → Q (.int (cnt b last n first)) H'
theorem rises_i {i : Nat} {k : Key} {v : V} (h : rises[i]? = some (k, v)) : ∃ r, rs3[i]? = some r ∧ v = .int r ∧ valV rises k = some (.int r) := by
  have hi : i < 3 := (List.getElem?_eq_some_iff.mp h).1
  rcases (show i = 0 ∨ i = 1 ∨ i = 2 by omega) with rfl | rfl | rfl
  · cases h; exact ⟨_, rfl, rfl, by decide⟩
  · cases h; exact ⟨_, rfl, rfl, by decide⟩
  · cases h; exact ⟨_, rfl, rfl, by decide⟩
theorem take_foldl {α β : Type} {f : β → α → β} {l : List α} {i : Nat} {x : α} (h : l[i]? = some x) (q : β) : (l.take (i + 1)).foldl f q = f ((l.take i).foldl f q) x := by
  rw [List.take_add_one, h]
  simp
theorem dk_len (ps : List (Int × Int)) : (dk ps).length = ps.length := by simp [dk]
theorem dk_i {ps : List (Int × Int)} {i : Nat} {k : Key} {v : V} (h : (dk ps)[i]? = some (k, v)) : ∃ p, ps[i]? = some p ∧ k = .inl p.1 ∧ v = .int p.2 := by
  unfold dk at h
  rw [List.getElem?_map] at h
  cases q : ps[i]? with
  | none => rw [q] at h; cases h
  | some p => rw [q] at h; cases h; exact ⟨p, rfl, rfl, rfl⟩
def spWayAt (K : PySem.W.Frag) : Sp := fun vs H Q _ => ∃ (p : Addr) (b : Option Int) (last first r : Int) (n : Nat), vs = [.ref p, .int first, .int r] ∧ DL H b last n p ∧ n ≤ 100 ∧ 0 ≤ r ∧ r < cnt b last n first ∧ ∀ H', Same H H' → Q (.str ⟨(ur b last n first r).toArray⟩) H'
theorem cutV_lst (xs : List V) (n : Nat) (h : xs.length = n + 1) : cutV xs none (some (-1)) = xs.take n := by
  unfold cutV
  simp [HT.sIx, h]
  omega
theorem rises_c {i : Nat} {k : Key} {v : V} (h : rises[i]? = some (k, v)) : ∃ (r : Int) (c : Nat), rs3[i]? = some r ∧ codes3[i]? = some c ∧ v = .int r ∧ valV rises k = some (.int r) ∧ kV k = .str ⟨#[c]⟩ := by
  have hi : i < 3 := (List.getElem?_eq_some_iff.mp h).1
  rcases (show i = 0 ∨ i = 1 ∨ i = 2 by omega) with rfl | rfl | rfl
  · cases h; exact ⟨_, _, rfl, rfl, rfl, by decide, rfl⟩
  · cases h; exact ⟨_, _, rfl, rfl, rfl, by decide, rfl⟩
  · cases h; exact ⟨_, _, rfl, rfl, rfl, by decide, rfl⟩
def wl (b : Option Int) (last : Int) (n : Nat) (first : Int) : List V := (List.range (cnt b last n first).toNat).map fun (r : Nat) => .str ⟨(ur b last n first r).toArray⟩
def spListed (K : PySem.W.Frag) (C : Addr) : Sp := fun vs H Q E => ∃ (n : Nat) (first last : Int) (b : Option Int), vs = [.int n, .int first, .int last, bV b] ∧ n ≤ 40 ∧ last < 100 ∧
  (400 < cnt b last n first → ∀ H', Same H H' → E (.ref C) none H') ∧ (cnt b last n first ≤ 400 → ∀ D H', Same H H' → H D = none → H' D = some (.lst (wl b last n first)) → Q (.ref D) H')
def sw (L D : List Rat) (c : Nat) (h : Int) : Rat := if c = 117 then 1 else if c = 108 then Mt.cf L h.toNat else Mt.cf D (h.toNat - 1)
def pw (L D : List Rat) (x : Str) (h0 : Int) : Nat → Rat
  | 0 => 1
  | j + 1 => pw L D x h0 j * sw L D ((x.cps[j]?).getD 0) ((ht x h0 j).getD 0)
def hi (k : Nat) (x : Str) (h0 : Int) (j : Nat) : Prop := (x.cps[j]?).getD 0 ≠ 117 ∧ (k : Int) < (ht x h0 j).getD 0
theorem wg_one : Mt.Wg 1 := ⟨Mt.B0, by rw [Rat.one_mul], by decide⟩
theorem sw_wg {L D : List Rat} (h : Ws L D) (c : Nat) (v : Int) : Mt.Wg (sw L D c v) := by
  unfold sw
  split
  · exact wg_one
  · split
    · exact Mt.wg_cf h.l _
    · exact Mt.wg_cf h.d _
theorem pw_gd {L D : List Rat} (h : Ws L D) (x : Str) (h0 : Int) : ∀ n, Mt.Gd n (pw L D x h0 n)
  | 0 => Mt.Gd.one
  | n + 1 => Mt.gd_mul (pw_gd h x h0 n) (Mt.wg_gd (sw_wg h _ _))
def spStepW (K : PySem.W.Frag) (C : Addr) : Sp := fun vs H Q E => ∃ (w : Addr) (L D : List Rat) (c : Nat) (h : Int), vs = [.ref w, .str ⟨#[c]⟩, .int h] ∧ Wt K H w L D ∧ L.length = D.length + 1 ∧ 0 ≤ h ∧ h < 900 ∧ (c = 100 → 0 < h) ∧ (c = 100 ∨ c = 108 ∨ c = 117) ∧
  (c ≠ 117 → (D.length : Int) < h → ∀ d H', Same H H' → H d = none → H' d = some (.xd [("height", .int h)]) → E (.ref C) (some d) H') ∧
  (¬ (c ≠ 117 ∧ (D.length : Int) < h) → ∀ r, Fq K H r (sw L D c h) → Q (.ref r) H)
def spWow (K : PySem.W.Frag) (C C2 : Addr) : Sp := fun vs H Q E => ∃ (w : Addr) (L D : List Rat) (x : Str) (h0 : Int), vs = [.ref w, .str x, .int h0] ∧ Wt K H w L D ∧ Ws L D ∧ 0 ≤ h0 ∧ h0 ≤ 8 ∧ x.cps.size ≤ 31 ∧ asc x ∧
  (∀ k, k < x.cps.size → (∀ j, j ≤ k → (ht x h0 j).isSome = true) → ht x h0 (k + 1) = none → ∀ d H', Same H H' → H d = none → H' d = some (.xd [("at", .int k)]) → E (.ref C) (some d) H') ∧
  ((∀ j, j ≤ x.cps.size → (ht x h0 j).isSome = true) → ∀ j, j < x.cps.size → (∀ i, i < j → ¬ hi D.length x h0 i) → hi D.length x h0 j → ∀ d H', Same H H' → H d = none → H' d = some (.xd [("height", .int ((ht x h0 j).getD 0))]) → E (.ref C2) (some d) H') ∧
  ((∀ j, j ≤ x.cps.size → (ht x h0 j).isSome = true) → (∀ j, j < x.cps.size → ¬ hi D.length x h0 j) → ∀ r H', Same H H' → Fq K H' r (pw L D x h0 x.cps.size) → Q (.ref r) H')
theorem ht_le {x : Str} {h0 : Int} : ∀ k v, ht x h0 k = some v → v ≤ h0 + k
  | 0, v, e => by cases e; omega
  | k + 1, v, e => by
    unfold ht at e
    obtain ⟨a, ea, e⟩ := Option.bind_eq_some_iff.mp e
    obtain ⟨c, ec, e⟩ := Option.bind_eq_some_iff.mp e
    have := ht_le k a ea
    unfold stp at e
    split at e
    · split at e
      · cases e
      · cases e; omega
    · split at e
      · cases e; omega
      · split at e
        · cases e; omega
        · cases e
theorem ht_sign {x : Str} {h0 : Int} {k : Nat} {v : Int} (h : ht x h0 k = some v) (g : (ht x h0 (k + 1)).isSome = true) : ∃ c, x.cps[k]? = some c ∧ (c = 100 ∨ c = 108 ∨ c = 117) ∧ (c = 100 → 0 < v) := by
  obtain ⟨u, hu⟩ := Option.isSome_iff_exists.mp g
  unfold ht at hu
  rw [h] at hu
  obtain ⟨c, ec, e⟩ := Option.bind_eq_some_iff.mp (show (x.cps[k]?).bind _ = _ from hu)
  refine ⟨c, ec, ?_, ?_⟩
  · unfold stp at e
    by_cases a : c = 100
    · exact .inl a
    · rw [if_neg a] at e
      by_cases b : c = 108
      · exact .inr (.inl b)
      · rw [if_neg b] at e
        by_cases d : c = 117
        · exact .inr (.inr d)
        · rw [if_neg d] at e; cases e
  · rintro rfl
    unfold stp at e
    rw [if_pos rfl] at e
    split at e
    · cases e
    · omega
def bO : V → Option Int
  | .int m => some m
  | _ => none
theorem bV_bO {bl : V} (h : okB bl) : bV (bO bl) = bl := by
  rcases h with rfl | ⟨b, rfl⟩ <;> rfl
theorem ws_bd {L D : Nat → Rat} {k n i j : Nat} {bl : V} (hb : okB bl) (ok : tooFar k n i j bl = false) : ws L D (bO bl) j n i = Mt.sm L D (bdOf k bl) i n j := by
  have core : ∀ top : Nat, ws L D (some (top : Int)) j n i = Mt.sm L D top i n j := fun top => by
    by_cases h : i < top
    · exact ws_sm j n i h
    · rw [ws_out (by simp [wi]; omega), Mt.sm_out (by omega)]
  rcases hb with rfl | ⟨b, rfl⟩
  · have ok : n + i + j ≤ 2 * k + 1 := by simpa [tooFar, lowOf] using ok
    have f := ws_free (L := L) (D := D) (b := none) (last := (j : Int)) (B := ((k + 1 : Nat) : Int)) (fun h hh => by simp [wi]; omega) n i (by omega)
    show ws L D none j n i = Mt.sm L D (k + 1) i n j
    rw [f, core]
  · show ws L D (some (b : Int)) j n i = Mt.sm L D (min (k + 1) (b : Int).toNat) i n j
    by_cases le : b ≤ k + 1
    · rw [show min (k + 1) (b : Int).toNat = b by omega, core]
    · have ok : n + i + j ≤ 2 * k + 1 := by
        simp [tooFar, lowOf] at ok
        omega
      have f := ws_free (L := L) (D := D) (b := some (b : Int)) (last := (j : Int)) (B := ((k + 1 : Nat) : Int)) (fun h hh => by rw [wi_some, wi_some, decide_eq_true hh, decide_eq_true (show h < (b : Int) by omega)]) n i (by omega)
      rw [show min (k + 1) (b : Int).toNat = k + 1 by omega, f, core]
theorem okW_htG {b : Option Int} {last h0 : Int} : ∀ (j : Nat) (x : Str), okW b last x.cps.toList h0 → j ≤ x.cps.size → ht x h0 j = some (hgt x.cps.toList h0 j)
  | 0, x, _, _ => rfl
  | j + 1, x, ok, hj => by
    have ih := okW_htG j x ok (by omega)
    have w := wi_nn (okW_hgt ok (j + 1) (by simpa using hj))
    have w0 := wi_nn (okW_hgt ok j (by simp; omega))
    have hc : x.cps[j]? = some x.cps[j] := Array.getElem?_eq_getElem (by omega)
    have hcl : x.cps.toList[j]? = some x.cps[j] := by rw [Array.getElem?_toList]; exact hc
    have cc := okW_mem ok x.cps[j] (List.mem_of_getElem? hcl)
    generalize x.cps[j] = c at *
    rw [ht, ih]
    show (x.cps[j]?).bind _ = _
    rw [hc]
    show stp c _ = _
    rw [stp_rise w0]
    rw [hgt, hcl, Option.getD_some] at w ⊢
    obtain ⟨r, er⟩ : ∃ r, rsC c = some r := by rcases cc with rfl | rfl | rfl <;> exact ⟨_, rfl⟩
    have e2 : riseOf c = rsC c := rfl
    rw [e2, er]
    rw [er] at w
    simp only [Option.bind_some, Option.getD_some] at w ⊢
    rw [if_neg (by omega)]
theorem pw_wtL {L D : List Rat} {b : Option Int} {last h0 : Int} (x : Str) (ok : okW b last x.cps.toList h0) : ∀ k, k ≤ x.cps.size → pw L D x h0 k * wtL (Mt.cf L) (Mt.cf D) (x.cps.toList.drop k) (hgt x.cps.toList h0 k) = wtL (Mt.cf L) (Mt.cf D) x.cps.toList h0
  | 0, _ => by simp only [pw, List.drop_zero, hgt]; rw [Rat.one_mul]
  | k + 1, hk => by
    have ih := pw_wtL (L := L) (D := D) x ok k (by omega)
    rw [← ih, pw, okW_htG k x ok (by omega)]
    have hc : x.cps[k]? = some x.cps[k] := Array.getElem?_eq_getElem (by omega)
    have hcl : x.cps.toList[k]? = some x.cps[k] := by rw [Array.getElem?_toList]; exact hc
    have lcs : x.cps.toList.length = x.cps.size := by simp
    have dr : x.cps.toList.drop k = x.cps[k] :: x.cps.toList.drop (k + 1) := by
      rw [List.drop_eq_getElem_cons (by omega)]
      have : x.cps.toList[k]'(by omega) = x.cps[k] := by simp
      rw [this]
    rw [dr, wtL, hc, Option.getD_some, Option.getD_some]
    rw [show hgt x.cps.toList h0 (k + 1) = hgt x.cps.toList h0 k + (rsC x.cps[k]).getD 0 by rw [hgt, hcl, Option.getD_some]]
    rw [show sw L D x.cps[k] (hgt x.cps.toList h0 k) = sg (Mt.cf L) (Mt.cf D) x.cps[k] (hgt x.cps.toList h0 k) from rfl, Rat.mul_assoc]
theorem wtL_gd {L D : List Rat} (h : Ws L D) : ∀ (cs : List Nat) (v : Int), Mt.Gd cs.length (wtL (Mt.cf L) (Mt.cf D) cs v)
  | [], _ => Mt.Gd.one
  | c :: cs, v => by
    have := Mt.gd_mul (Mt.wg_gd (sw_wg h c v)) (wtL_gd h cs (v + (rsC c).getD 0))
    rw [Nat.add_comm] at this
    exact this
theorem suL_sz {L D : List Rat} (h : Ws L D) {b : Option Int} {last first : Int} {n m : Nat} (hn : n ≤ 15) (hm : m ≤ 401) : Sz 1300 (Mt.Su (fun r => wtL (Mt.cf L) (Mt.cf D) (ur b last n first r) first) m) := by
  have g := Mt.gd_Su (n := n) (f := fun r => wtL (Mt.cf L) (Mt.cf D) (ur b last n first r) first) (fun r => by have := wtL_gd h (ur b last n first r) first; rw [ur_len] at this; exact this) m
  have a : Mt.B0 ^ n ≤ Mt.B0 ^ 15 := Nat.pow_le_pow_right (by decide) hn
  have c : Mt.W0 ^ n ≤ Mt.W0 ^ 15 := Nat.pow_le_pow_right (by decide) hn
  have d : Mt.B0 ^ 15 < 2 ^ 1200 := by decide +kernel
  have e : 401 * (Mt.W0 ^ 15 * Mt.B0 ^ 15) < 2 ^ 1200 := by decide +kernel
  exact (lat_sz (m := 1200) g (Nat.pow_pos (by decide)) (Nat.lt_of_le_of_lt a d) (Nat.lt_of_le_of_lt (Nat.mul_le_mul hm (Nat.mul_le_mul c a)) e)).mono (by decide)
theorem nohi {k n i j : Nat} {bl : V} (hb : okB bl) (ok : tooFar k n i j bl = false) {cs : List Nat} (okw : okW (bO bl) j cs i) (ln : cs.length = n) : ∀ t, t < n → hgt cs i t ≤ k := by
  intro t ht
  have w := okW_hgt okw t (by omega)
  have d := hgt_down okw t (by omega)
  have u := hgt_up cs i t
  rcases hb with rfl | ⟨b, rfl⟩
  · have ok : n + i + j ≤ 2 * k + 1 := by simpa [tooFar, lowOf] using ok
    omega
  · by_cases le : b ≤ k + 1
    · have w : 0 ≤ hgt cs i t ∧ hgt cs i t < b := by simpa [wi, bO] using w
      omega
    · have ok : n + i + j ≤ 2 * k + 1 := by
        simp [tooFar, lowOf] at ok
        omega
      omega
def spSumL (K : PySem.W.Frag) (C C2 : Addr) : Sp := fun vs H Q E => ∃ (w : Addr) (L D : List Rat) (n i j : Nat) (bl : V), vs = [.ref w, .int n, .int i, .int j, bl] ∧ Wt K H w L D ∧ Ws L D ∧ okB bl ∧ n ≤ 15 ∧ i ≤ 8 ∧ j ≤ 8 ∧
  (tooFar D.length n i j bl = true → ∀ H', Same H H' → E (.ref C) none H') ∧ (tooFar D.length n i j bl = false → 400 < cnt (bO bl) j n i → ∀ H', Same H H' → E (.ref C2) none H') ∧
  (tooFar D.length n i j bl = false → cnt (bO bl) j n i ≤ 400 → ∀ r H', Same H H' → Fq K H' r (Mt.sm (Mt.cf L) (Mt.cf D) (bdOf D.length bl) i n j) → Q (.ref r) H')
def spSeries (K : PySem.W.Frag) (C : Addr) : Sp := fun vs H Q E => ∃ (pt pb : Addr) (t b : List Rat) (many : Nat), vs = [.ref pt, .ref pb, .int many] ∧ Pl K H pt t ∧ Pl K H pb b ∧ many ≤ 100 ∧ b.length ≤ 100 ∧ (∀ k, Sz 1900 (Mt.cf b k)) ∧ (Mt.cf b 0 ≠ 0 → ∀ i, i < many → Sz 1900 (Mt.sn t b i)) ∧ (Mt.cf b 0 ≠ 0 → ∀ n j, n < many → j ≤ n → Sz 3900 (Mt.part t b (Mt.sl t b n) n j)) ∧
  (Mt.cf b 0 = 0 → E (.ref C) none H) ∧ (Mt.cf b 0 ≠ 0 → ∀ D H' xs, Same H H' → H D = none → H' D = some (.lst xs) → Frs K H' (Mt.sl t b many) xs → Q (.ref D) H')
theorem cutV_to' (xs : List V) (k : Nat) : cutV xs none (some (k : Int)) = xs.take k := by
  unfold cutV
  rw [HT.sIx_none, HT.sIx_nat]
  simp
theorem lst_take {K : PySem.W.Frag} {H : Hp} {f : List Rat} {xs : List V} (h : Frs K H f xs) (k : Nat) : Frs K H (f.take k) (cutV xs none (some (k : Int))) := by rw [cutV_to']; exact h.take k
theorem part_sz {L D : List Rat} (ws : Ws L D) {h n j : Nat} (hh : h ≤ 8) (hn : n ≤ 20) (hj : j ≤ n) : Sz 1300 (Mt.part (Mt.tp L D h) (Mt.bt L D h) (Mt.sl (Mt.tp L D h) (Mt.bt L D h) n) n j) := by
  refine (lat_sz (m := 1200) (Mt.lat_part_ends (Mt.wg_cf ws.l) (Mt.wg_cf ws.d) (gp_tp ws h) (gp_bt ws h) j hj) (Nat.pow_pos (by decide)) ?_ ?_).mono (by decide)
  · exact Nat.lt_of_le_of_lt (Nat.pow_le_pow_right (by decide) (show h + n ≤ 28 by omega)) (by decide +kernel)
  · have a : Mt.A0 ^ h ≤ Mt.A0 ^ 8 := Nat.pow_le_pow_right (by decide) hh
    have b : Mt.W0 ^ n * Mt.B0 ^ n ≤ Mt.W0 ^ 20 * Mt.B0 ^ 20 := Nat.mul_le_mul (Nat.pow_le_pow_right (by decide) hn) (Nat.pow_le_pow_right (by decide) hn)
    exact Nat.lt_of_le_of_lt (Nat.mul_le_mul (show j + 1 ≤ 21 by omega) (Nat.mul_le_mul a b)) (by decide +kernel)
theorem sn_sz {L D : List Rat} (ws : Ws L D) {h n : Nat} (hn : n ≤ 20) : Sz 1300 (Mt.sn (Mt.tp L D h) (Mt.bt L D h) n) := by
  rcases Nat.eq_zero_or_pos h with z | z
  · subst z; rw [Mt.sn_none]; exact Sz.zero (by decide)
  · rw [Mt.sn_ends L D z]; exact ws.sm (by omega) _ _ _
def spFurther (K : PySem.W.Frag) : Sp := fun vs H Q _ => ∃ (pl pn pd pb : Addr) (l d : Rat) (f g : List Rat), vs = [.ref pl, .ref pn, .ref pd, .ref pb] ∧ Fq K H pl l ∧ Pl K H pn f ∧ Fq K H pd d ∧ Pl K H pb g ∧ Mt.Wg l ∧ Mt.Wg d ∧ f.length ≤ 30 ∧ g.length ≤ 30 ∧ Mt.Ln 320 320 f ∧ Mt.Ln 320 320 g ∧ ∀ r H', Same H H' → Pl K H' r (Mt.nx2 l d f g) → Q (.ref r) H'
def spRowOf (K : PySem.W.Frag) : Sp := fun vs H Q _ => ∃ (w : Addr) (L D : List Rat), vs = [.ref w] ∧ Wt K H w L D ∧ Ws L D ∧ ∀ R H' xs, Same H H' → H R = none → H' R = some (.lst xs) → Pls K H' ((List.range (L.length + 1)).map (Mt.rp L D)) xs → Q (.ref R) H'
theorem rp_ln {L D : List Rat} (h : Ws L D) {n : Nat} (hn : n ≤ 9) : Mt.Ln 320 320 (Mt.rp L D n) := (Mt.gp_rp (Mt.wg_cf h.l) (Mt.wg_cf h.d) n).ln hn
theorem Frs.reverse {K : PySem.W.Frag} {H : Hp} : ∀ {f : List Rat} {xs : List V}, L2.Frs K H f xs → L2.Frs K H f.reverse xs.reverse
  | [], xs, h => by
    have := h.len
    cases xs with
    | nil => exact L2.Frs.nil
    | cons _ _ => simp at this
  | q :: f, xs, h => by
    obtain ⟨p, ys, rfl, hq, hf⟩ := h.uncons
    rw [List.reverse_cons, List.reverse_cons]
    exact L2.Frs.snoc (Frs.reverse hf) hq
theorem rp_succ (L D : List Rat) {n : Nat} (h : 1 ≤ n) : Mt.rp L D (n + 1) = Mt.nx2 (Mt.cf L n) (Mt.cf D (n - 1)) (Mt.rp L D n) (Mt.rp L D (n - 1)) := by
  obtain ⟨m, rfl⟩ : ∃ m, n = m + 1 := ⟨n - 1, by omega⟩
  rfl
def momL (L D : List Rat) : List Rat := (List.range (2 * D.length + 2)).map fun n => Mt.sm (Mt.cf L) (Mt.cf D) (D.length + 1) 0 n 0
theorem momL_len (L D : List Rat) : (momL L D).length = 2 * D.length + 2 := by simp [momL]
theorem momL_at {L D : List Rat} {n : Nat} (h : n < 2 * D.length + 2) : Mt.cf (momL L D) n = Mt.sm (Mt.cf L) (Mt.cf D) (D.length + 1) 0 n 0 := by rw [momL, Mt.cf_map_range, if_pos h]
def spMoments (K : PySem.W.Frag) : Sp := fun vs H Q _ => ∃ (w : Addr) (L D : List Rat), vs = [.ref w] ∧ Wt K H w L D ∧ Ws L D ∧ ∀ S H' ys, Same H H' → H S = none → H' S = some (.lst ys) → Frs K H' (momL L D) ys → Q (.ref S) H'
def spRuledG (K : PySem.W.Frag) (C : Addr) : Sp := fun vs H Q E => ∃ (m p : Addr) (xs : List V) (ms f : List Rat), vs = [.ref m, .ref p] ∧ SqL K H m xs ∧ Frs K H ms xs ∧ Pl K H p f ∧ f.length ≤ 40 ∧ (∀ n, Sz 1300 (Mt.cf ms n)) ∧ (∀ n, Sz 1300 (Mt.cf f n)) ∧ (∀ i, i ≤ f.length → Sz 3900 (Mt.Su (fun n => Mt.cf f n * Mt.cf ms n) i)) ∧ (ms.length < f.length → E (.ref C) none H) ∧ (f.length ≤ ms.length → ∀ r H', Same H H' → Fq K H' r (Mt.dot ms f) → Q (.ref r) H')
abbrev nbs (L D f : List Rat) : List Rat := (List.range (D.length + 2)).map (Mt.nb L D (D.length + 1) f)
def spInRow (K : PySem.W.Frag) (C : Addr) : Sp := fun vs H Q E => ∃ (w p : Addr) (L D f : List Rat), vs = [.ref w, .ref p] ∧ Wt K H w L D ∧ Ws L D ∧ Pl K H p f ∧ (D.length + 2 < f.length → E (.ref C) none H) ∧
  (f.length ≤ D.length + 2 → Mt.NZ f ∧ Mt.Gp 1 f ∧ ∀ R H' xs, Same H H' → H R = none → H' R = some (.lst xs) → Frs K H' (nbs L D f) xs → Q (.ref R) H')
theorem dn_sz {L D f : List Rat} (ws : Ws L D) (hf : Mt.Gp 1 f) {j : Nat} (hj : j ≤ 9) (k : Nat) : Sz 1700 (Mt.cf (Mt.dn L D (D.length + 1) f j) k) := by
  have g := Mt.gp_dn (T := D.length + 1) (Mt.wg_cf ws.l) (Mt.wg_cf ws.d) hf j k
  have m := ws.m
  have e := Mt.eb_le (D.length + 1) (by omega) j hj
  refine lat_sz g (Nat.pow_pos (by decide)) ?_ ?_
  · exact Nat.lt_of_le_of_lt (Nat.pow_le_pow_right (by decide) e) (by decide +kernel)
  · exact Nat.lt_of_le_of_lt (Nat.pow_le_pow_right (by decide) e) (by decide +kernel)
theorem rev_map (F : Nat → Rat) (n : Nat) : ((List.range (n + 1)).map fun j => F (n - j)).reverse = (List.range (n + 1)).map F := by
  refine List.ext_getElem (by simp) fun i h1 h2 => ?_
  simp only [List.length_map, List.length_range] at h2
  simp
  congr 1
  omega
theorem gp_xn (n : Nat) : Mt.Gp 1 (Mt.xn n) := fun k => by
  obtain ⟨E, N, h1, h2, h3, h4⟩ := (Mt.ln_xn n).ex
  obtain rfl : E = 1 := by simp at h2; omega
  have a : Mt.Lat (1 * Mt.B0) (N * Mt.B0) (Mt.cf (Mt.xn n) k) := (h4 k).up
  rw [Nat.one_mul] at a
  rw [Nat.pow_one, Nat.pow_one]
  exact a.mono (Nat.mul_le_mul_right _ (by simp at h3; omega))
theorem sm_low {L D : Nat → Rat} {h T n : Nat} (hT : h ≤ T) (hn : n < 2 * h) : Mt.sm L D h 0 n 0 = Mt.sm L D T 0 n 0 := by
  have e := ws_free (L := L) (D := D) (b := some (T : Int)) (last := 0) (B := (h : Int)) (fun x hx => by rw [wi_some, wi_some, decide_eq_true hx, decide_eq_true (show x < (T : Int) by omega)]) n 0 (by omega)
  have a := ws_sm (L := L) (D := D) (top := h) 0 n 0 (by omega)
  have b := ws_sm (L := L) (D := D) (top := T) 0 n 0 (by omega)
  rw [← a, ← b]
  exact e.symm
theorem sl_ends (L D : List Rat) (h N : Nat) : Mt.sl (Mt.tp L D h) (Mt.bt L D h) N = (List.range N).map fun n => Mt.sm (Mt.cf L) (Mt.cf D) h 0 n 0 := by
  refine Mt.sl_is _ _ _ N fun k hk => ?_
  rcases Nat.eq_zero_or_pos h with z | z
  · subst z; rw [Mt.sn_none, Mt.sm_ge (Nat.le_refl _)]
  · exact Mt.sn_ends L D z k
theorem ends_take {L D : List Rat} (ws : Ws L D) {h : Nat} (hh : h ≤ D.length + 1) : (Mt.sl (Mt.tp L D h) (Mt.bt L D h) 16).take (2 * h) = ((momL L D).take (2 * h)).take 16 := by
  have wm := ws.m
  rw [sl_ends, List.take_take, Nat.min_eq_right (show 2 * h ≤ 16 by omega)]
  refine List.ext_getElem (by simp [momL]; omega) fun i h1 h2 => ?_
  simp only [List.length_take, List.length_map, List.length_range] at h1
  simp only [List.getElem_take, List.getElem_map, List.getElem_range, momL]
  exact sm_low hh (by omega)
theorem few7 : ∀ n : Nat, n < 8 → cnt none 0 n 0 ≤ 400 := fun n hn => by
  have := motz_is n (by omega)
  have l : n < motz.length := by have : motz.length = 16 := rfl
                                 omega
  rw [List.getElem?_eq_getElem l] at this
  have e := Option.some.inj this
  rw [← e]
  revert n
  decide
theorem cf_xn (j k : Nat) : Mt.cf (Mt.xn j) k = if k = j then 1 else 0 := by
  unfold Mt.cf Mt.xn
  rw [List.getD_eq_getElem?_getD]
  by_cases lt : k < j
  · rw [List.getElem?_append_left (by simpa using lt), List.getElem?_replicate, if_pos lt, if_neg (by omega)]; rfl
  · rw [List.getElem?_append_right (by simp; omega)]
    by_cases e : k = j
    · subst e; simp
    · rw [if_neg e, List.getElem?_eq_none (by simp; omega)]; rfl
theorem Su_xn (ms : List Rat) (j i : Nat) : Mt.Su (fun n => Mt.cf (Mt.xn j) n * Mt.cf ms n) i = if j < i then Mt.cf ms j else 0 := by
  rw [Mt.Su_congr (g := fun n => if n = j then Mt.cf ms n else 0) fun n _ => by rw [cf_xn]; split <;> grind]
  split
  · rename_i lt; exact Su_pick _ j i lt
  · exact Su_nopick _ j i (by omega)
theorem dot_xj (ms : List Rat) (j : Nat) : Mt.dot ms (Mt.xn j) = Mt.cf ms j := by
  rw [Mt.dot, Su_xn, if_pos (by simp [Mt.xn])]
theorem mom_sz {L D : List Rat} (ws : Ws L D) (n : Nat) : Sz 1300 (Mt.cf (momL L D) n) := by
  have wm := ws.m
  by_cases lt : n < 2 * D.length + 2
  · rw [momL_at lt]; exact ws.sm (by omega) _ _ _
  · rw [Mt.cf_ge (by rw [momL_len]; omega)]; exact Sz.zero (by decide)
def spPower (K : PySem.W.Frag) : Sp := fun vs H Q _ => ∃ (n : Nat), vs = [.int n] ∧ n ≤ 40 ∧ ∀ p H', Same H H' → Pl K H' p (Mt.xn n) → Q (.ref p) H'
def spByRow (K : PySem.W.Frag) : Sp := fun vs H Q _ => ∃ (w : Addr) (L D : List Rat) (n m : Nat), vs = [.ref w, .int n, .int m] ∧ Wt K H w L D ∧ Ws L D ∧ n ≤ D.length ∧ m ≤ D.length ∧ ∀ r H', Same H H' → Fq K H' r (Mt.sm (Mt.cf L) (Mt.cf D) (D.length + 1) 0 (n + m) 0) → Q (.ref r) H'
def spEndsR (K : PySem.W.Frag) : Sp := fun vs H Q _ => ∃ (w S : Addr) (L D : List Rat) (xs : List V) (h f : Nat), vs = [.ref w, .ref S, .int h, .int f] ∧ Wt K H w L D ∧ Ws L D ∧ H S = some (.lst xs) ∧ Frs K H (momL L D) xs ∧ h ≤ D.length + 1 ∧ f < 3 ∧ ∀ H', Same H H' → Q (.bl true) H'
def spLaw (K : PySem.W.Frag) : Sp := fun vs H Q _ => ∃ (a : Addr) (ns : List Int), vs = [.ref a] ∧ SqL K H a (ns.map V.int) ∧ ns.length ≤ 63 ∧ ∀ H', Q (.bl true) H'
section
variable {P : Program} {w : World} {K : PySem.W.Frag} {mg : Str → Option Value} {base : Heap} {C_HeightError : Addr} {C_NOUGHT : Addr} {C_NoFraction : Addr} {C_NoSeries : Addr} {C_NoWay : Addr} {C_NoWeights : Addr} {C_ONE : Addr} {C_RISES : Addr} {C_TooFar : Addr} {C_TooHigh : Addr} {C_TooMany : Addr}
abbrev s_shared_part : Stmt := top 12
theorem sc_shared_part : FnScope ["a", "b", "larger", "lesser", "rest"] ["a", "b"] (defScope s_shared_part) := ⟨rfl, rfl, rfl, by decide +kernel, rfl, by decide +kernel, by decide +kernel⟩
theorem ok_shared_part {f : Addr} {fd : FuncData} (F : Fun K "shared_part" "shared_part" s_shared_part f fd) (m : mg "shared_part" = some (.ref f)) (T : Tx w K mg C_HeightError C_NOUGHT C_NoFraction C_NoSeries C_NoWay C_NoWeights C_ONE C_RISES C_TooFar C_TooHigh C_TooMany) : Callee P w K mg base 1 "shared_part" ["a", "b"] (spGcd) := by
  refine ⟨f, fd, ?_, m, F.kp, F.binds fun _ _ _ _ _ _ us hl => match us, hl with | [_, _], _ => rfl⟩
  refine F.okE sc_shared_part (fun vs H Q E h => ?_) (fun cdv A outer s H vs Q E hr h => ?_)
  · obtain ⟨_, _, rfl, _⟩ := h
    rfl
  · obtain ⟨a, b, rfl, hq⟩ := h
    refine ⟨_, (pss_cons (ps_set (i := 2) sc_shared_part.nd rfl (Or.inl rfl) (pe_callB call_abs (by rfl) T.b_abs (by decide +kernel) (pa_cons (pv 0) pa_nil))) (pss_cons (ps_set (i := 3) sc_shared_part.nd rfl (Or.inl rfl) (pe_callB call_abs (by rfl) T.b_abs (by decide +kernel) (pa_cons (pv 1) pa_nil))) (pss_cons (ps_wh PassesOwn.never (pt_cmpR op_ne (pv 3) pe_int (nomark _)) (pss_cons (ps_set (i := 4) sc_shared_part.nd rfl (Or.inl rfl) (pe_op op_mod (pv 2) (pv 3))) (pss_cons (ps_set (i := 2) sc_shared_part.nd rfl (Or.inl rfl) (pv 3)) (pss_one (ps_set (i := 3) sc_shared_part.nd rfl (Or.inl rfl) (pv 4)))))) (pss_one (ps_ret (pv 2)))))), ?_⟩
    walk_at "rd"
    refine ⟨fun σ H' => ∃ (x y : Int) (r : Option V), σ = [some (.int a), some (.int b), some (.int x), some (.int y), r] ∧ H' = H ∧ 0 ≤ x ∧ 0 ≤ y ∧ Int.gcd x y = Int.gcd a b, fun σ _ => match σ with | [_, _, _, some (.int y), _] => y.toNat | _ => 0, ⟨_, _, none, rfl, rfl, ?_, ?_, gcd_abs a b⟩, ?_⟩
    · split <;> omega
    · split <;> omega
    rintro σ H' ⟨x, y, r, rfl, rfl, hx, hy, hg⟩
    by_cases hy0 : y = 0
    · subst hy0
      walk_at "rd"
      rw [← hg, gcd_end hx] at hq
      exact hq
    · have h1 := Int.emod_nonneg x hy0
      have h2 := Int.emod_lt_of_pos x (show 0 < y by omega)
      have h3 := gcd_step hx (show 0 < y by omega)
      walk_at "rd"
      exact .inr ⟨hy0, by omega, ⟨y, x % y, ⟨rfl, rfl⟩, hy, h1, h3.trans hg⟩, by omega⟩
abbrev s_plus : Stmt := top 13
theorem sc_plus : FnScope ["a", "b", "part", "top", "rest"] ["a", "b"] (defScope s_plus) := ⟨rfl, rfl, rfl, by decide +kernel, rfl, by decide +kernel, by decide +kernel⟩
theorem ok_plus {f : Addr} {fd : FuncData} (F : Fun K "plus" "plus" s_plus f fd) (m : mg "plus" = some (.ref f)) (T : Tx w K mg C_HeightError C_NOUGHT C_NoFraction C_NoSeries C_NoWay C_NoWeights C_ONE C_RISES C_TooFar C_TooHigh C_TooMany) (c_shared_part : Callee P w K mg base 1 "shared_part" ["a", "b"] (spGcd)) : Callee P w K mg base 2 "plus" ["a", "b"] (spBin K (fun a b => a + b)) := by
  refine ⟨f, fd, ?_, m, F.kp, F.binds fun _ _ _ _ _ _ us hl => match us, hl with | [_, _], _ => rfl⟩
  refine F.okE sc_plus (fun vs H Q E h => ?_) (fun cdv A outer s H vs Q E hr h => ?_)
  · obtain ⟨_, _, _, _, rfl, _⟩ := h
    rfl
  · obtain ⟨pa, pb, a, b, rfl, ha, hb, sa, sb, hq⟩ := h
    refine ⟨_, (pss_cons (ps_set (i := 2) sc_plus.nd rfl (Or.inl rfl) (pe_c c_shared_part (hr.mono (by decide)) np (pa_cons (pe_ix ix_fq (pv 0) pe_int (fun _ _ => rfl)) (pa_cons (pe_ix ix_fq (pv 1) pe_int (fun _ _ => rfl)) pa_nil)))) (pss_cons (ps_set (i := 3) sc_plus.nd rfl (Or.inl rfl) (pe_op op_add (pe_op op_mulB (pe_ix ix_fq (pv 0) pe_int (fun _ _ => rfl)) (pe_op op_fdivB (pe_ix ix_fq (pv 1) pe_int (fun _ _ => rfl)) (pv 2))) (pe_op op_mulB (pe_ix ix_fq (pv 1) pe_int (fun _ _ => rfl)) (pe_op op_fdivB (pe_ix ix_fq (pv 0) pe_int (fun _ _ => rfl)) (pv 2))))) (pss_cons (ps_set (i := 4) sc_plus.nd rfl (Or.inl rfl) (pe_c c_shared_part (hr.mono (by decide)) np (pa_cons (pv 3) (pa_cons (pv 2) pa_nil)))) (pss_one (ps_ret (pe_tup (pa_cons (pe_op op_fdivB (pv 3) (pv 4)) (pa_cons (pe_op op_mulB (pe_op op_fdivB (pe_ix ix_fq (pv 0) pe_int (fun _ _ => rfl)) (pv 2)) (pe_op op_fdivB (pe_ix ix_fq (pv 1) pe_int (fun _ _ => rfl)) (pv 4))) pa_nil)))))))), ?_⟩
    have h := Mt.plus_rat a b
    dsimp only at h hq
    refine tSeq_step fun N hN => ?_
    walk_at "rd"
    refine ⟨a, ha, b, hb, _, _, rfl, hN _ _ ?_⟩
    clear hN N
    generalize ((Int.gcd (a.den : Int) (b.den : Int) : Nat) : Int) = g at h ⊢
    refine tSeq_step fun N hN => ?_
    walk_at "rd"
    have p0 := h.2.1
    have pb := h.2.2.2.2.1
    have bg : Bd 4000 g := sb.b.le (by omega)
    have l1 := h.2.2.2.2.2.2.1
    have l2 := h.2.2.2.2.2.2.2.1
    refine ⟨a, ha, b, hb, bg.dv (by omega), sa.t.mu (sb.b.le l1), b, hb, a, ha, bg.dv (by omega), sb.t.mu (sa.b.le l2), hN _ _ ?_⟩
    clear hN N
    generalize a.num * (b.den : Int).fdiv g + b.num * (a.den : Int).fdiv g = t at h ⊢
    refine tSeq_step fun N hN => ?_
    walk_at "rd"
    refine ⟨_, _, rfl, hN _ _ ?_⟩
    clear hN N
    generalize ((Int.gcd t g : Nat) : Int) = r at h ⊢
    walk_at "rd"
    obtain ⟨⟨e1, e2⟩, _, r0, _, _, rp, _, _, l3⟩ := h
    have br : Bd 4000 r := bg.le (by omega)
    refine ⟨br.dv (by omega), a, ha, bg.dv (by omega), b, hb, br.dv (by omega), (sa.b.le l2).mu (sb.b.le l3), sz_le 2 (by decide), fun p hp => ?_⟩
    rw [e1, e2]
    exact hq p _ (same_upd hp) hp upd_same
abbrev s_minus : Stmt := top 14
theorem sc_minus : FnScope ["a", "b"] ["a", "b"] (defScope s_minus) := ⟨rfl, rfl, rfl, by decide +kernel, rfl, by decide +kernel, by decide +kernel⟩
theorem ok_minus {f : Addr} {fd : FuncData} (F : Fun K "minus" "minus" s_minus f fd) (m : mg "minus" = some (.ref f)) (T : Tx w K mg C_HeightError C_NOUGHT C_NoFraction C_NoSeries C_NoWay C_NoWeights C_ONE C_RISES C_TooFar C_TooHigh C_TooMany) (c_plus : Callee P w K mg base 2 "plus" ["a", "b"] (spBin K (fun a b => a + b))) : Callee P w K mg base 3 "minus" ["a", "b"] (spBin K (fun a b => a - b)) := by
  refine ⟨f, fd, ?_, m, F.kp, F.binds fun _ _ _ _ _ _ us hl => match us, hl with | [_, _], _ => rfl⟩
  refine F.okE sc_minus (fun vs H Q E h => ?_) (fun cdv A outer s H vs Q E hr h => ?_)
  · obtain ⟨_, _, _, _, rfl, _⟩ := h
    rfl
  · obtain ⟨pa, pb, a, b, rfl, ha, hb, sa, sb, hq⟩ := h
    refine ⟨_, (pss_one (ps_ret (pe_c c_plus (hr.mono (by decide)) np (pa_cons (pv 0) (pa_cons (pe_tup (pa_cons (pe_un un_neg (pe_ix ix_fq (pv 1) pe_int (fun _ _ => rfl))) (pa_cons (pe_ix ix_fq (pv 1) pe_int (fun _ _ => rfl)) pa_nil))) pa_nil))))), ?_⟩
    dsimp only at hq
    walk_at "rd"
    refine ⟨b, hb, b, hb, sz_le 2 (by decide), fun p hp => ⟨pa, p, a, -b, rfl, ha.same (same_upd hp), Fq.of (by rw [frO, Rat.neg_num, Rat.neg_den]; exact upd_same), sa, sb.neg, fun r H' sm hr h => hq r H' ((same_upd hp).trans sm) ((same_upd hp).free hr) (by rw [Rat.sub_eq_add_neg]; exact h)⟩⟩
abbrev s_times : Stmt := top 15
theorem sc_times : FnScope ["a", "b", "first", "second"] ["a", "b"] (defScope s_times) := ⟨rfl, rfl, rfl, by decide +kernel, rfl, by decide +kernel, by decide +kernel⟩
theorem ok_times {f : Addr} {fd : FuncData} (F : Fun K "times" "times" s_times f fd) (m : mg "times" = some (.ref f)) (T : Tx w K mg C_HeightError C_NOUGHT C_NoFraction C_NoSeries C_NoWay C_NoWeights C_ONE C_RISES C_TooFar C_TooHigh C_TooMany) (c_shared_part : Callee P w K mg base 1 "shared_part" ["a", "b"] (spGcd)) : Callee P w K mg base 2 "times" ["a", "b"] (spBin K (fun a b => a * b)) := by
  refine ⟨f, fd, ?_, m, F.kp, F.binds fun _ _ _ _ _ _ us hl => match us, hl with | [_, _], _ => rfl⟩
  refine F.okE sc_times (fun vs H Q E h => ?_) (fun cdv A outer s H vs Q E hr h => ?_)
  · obtain ⟨_, _, _, _, rfl, _⟩ := h
    rfl
  · obtain ⟨pa, pb, a, b, rfl, ha, hb, sa, sb, hq⟩ := h
    refine ⟨_, (pss_cons (ps_set (i := 2) sc_times.nd rfl (Or.inl rfl) (pe_c c_shared_part (hr.mono (by decide)) np (pa_cons (pe_ix ix_fq (pv 0) pe_int (fun _ _ => rfl)) (pa_cons (pe_ix ix_fq (pv 1) pe_int (fun _ _ => rfl)) pa_nil)))) (pss_cons (ps_set (i := 3) sc_times.nd rfl (Or.inl rfl) (pe_c c_shared_part (hr.mono (by decide)) np (pa_cons (pe_ix ix_fq (pv 1) pe_int (fun _ _ => rfl)) (pa_cons (pe_ix ix_fq (pv 0) pe_int (fun _ _ => rfl)) pa_nil)))) (pss_one (ps_ret (pe_tup (pa_cons (pe_op op_mulB (pe_op op_fdivB (pe_ix ix_fq (pv 0) pe_int (fun _ _ => rfl)) (pv 2)) (pe_op op_fdivB (pe_ix ix_fq (pv 1) pe_int (fun _ _ => rfl)) (pv 3))) (pa_cons (pe_op op_mulB (pe_op op_fdivB (pe_ix ix_fq (pv 0) pe_int (fun _ _ => rfl)) (pv 3)) (pe_op op_fdivB (pe_ix ix_fq (pv 1) pe_int (fun _ _ => rfl)) (pv 2))) pa_nil))))))), ?_⟩
    have h := Mt.times_rat a b
    dsimp only at h hq
    refine tSeq_step fun N hN => ?_
    walk_at "rd"
    refine ⟨a, ha, b, hb, _, _, rfl, hN _ _ ?_⟩
    clear hN N
    generalize ((Int.gcd a.num (b.den : Int) : Nat) : Int) = f at h ⊢
    refine tSeq_step fun N hN => ?_
    walk_at "rd"
    refine ⟨b, hb, a, ha, _, _, rfl, hN _ _ ?_⟩
    clear hN N
    generalize ((Int.gcd b.num (a.den : Int) : Nat) : Int) = s at h ⊢
    walk_at "rd"
    obtain ⟨⟨e1, e2⟩, f0, s0, fb, sc, l1, l2, l3, l4⟩ := h
    have bf : Bd 4000 f := sb.b.le (by omega)
    have bs : Bd 4000 s := sa.b.le (by omega)
    refine ⟨a, ha, bf.dv (by omega), b, hb, bs.dv (by omega), (sa.t.le l1).mu (sb.t.le l2), a, ha, bs.dv (by omega), b, hb, bf.dv (by omega), (sa.b.le l3).mu (sb.b.le l4), sz_le 2 (by decide), fun p hp => ?_⟩
    rw [e1, e2]
    exact hq p _ (same_upd hp) hp upd_same
abbrev s_over : Stmt := top 16
theorem sc_over : FnScope ["a", "b"] ["a", "b"] (defScope s_over) := ⟨rfl, rfl, rfl, by decide +kernel, rfl, by decide +kernel, by decide +kernel⟩
theorem ok_over {f : Addr} {fd : FuncData} (F : Fun K "over" "over" s_over f fd) (m : mg "over" = some (.ref f)) (T : Tx w K mg C_HeightError C_NOUGHT C_NoFraction C_NoSeries C_NoWay C_NoWeights C_ONE C_RISES C_TooFar C_TooHigh C_TooMany) (c_times : Callee P w K mg base 2 "times" ["a", "b"] (spBin K (fun a b => a * b))) : Callee P w K mg base 3 "over" ["a", "b"] (spOver K C_NoFraction) := by
  refine ⟨f, fd, ?_, m, F.kp, F.binds fun _ _ _ _ _ _ us hl => match us, hl with | [_, _], _ => rfl⟩
  refine F.okX sc_over (fun vs H Q E h => ?_) (fun cdv A outer s H vs Q E hr h => ?_)
  · obtain ⟨_, _, _, _, rfl, _⟩ := h
    rfl
  · obtain ⟨pa, pb, a, b, rfl, ha, hb, sa, sb, h0, h1⟩ := h
    refine ⟨_, (pss_cons (ps_if (pt_cmpR op_eq (pe_ix ix_fq (pv 1) pe_int (fun _ _ => rfl)) pe_int (nomark _)) (pss_one (ps_raise raises_cx rfl rfl T.m_NoFraction T.x_NoFraction (pa_cons pe_str pa_nil))) pss_nil) (pss_cons (ps_if (pt_cmpR op_lt (pe_ix ix_fq (pv 1) pe_int (fun _ _ => rfl)) pe_int (nomark _)) (pss_one (ps_ret (pe_c c_times (hr.mono (by decide)) pass_cx (pa_cons (pv 0) (pa_cons (pe_tup (pa_cons (pe_un un_neg (pe_ix ix_fq (pv 1) pe_int (fun _ _ => rfl))) (pa_cons (pe_un un_neg (pe_ix ix_fq (pv 1) pe_int (fun _ _ => rfl))) pa_nil))) pa_nil))))) pss_nil) (pss_one (ps_ret (pe_c c_times (hr.mono (by decide)) pass_cx (pa_cons (pv 0) (pa_cons (pe_tup (pa_cons (pe_ix ix_fq (pv 1) pe_int (fun _ _ => rfl)) (pa_cons (pe_ix ix_fq (pv 1) pe_int (fun _ _ => rfl)) pa_nil))) pa_nil))))))), ?_⟩
    walk_at "rd"
    refine ⟨b, hb, ?_⟩
    split
    · rename_i z
      exact ⟨sz_le 1 (by decide), h0 z⟩
    rename_i z
    have nz := Mt.num_ne z
    refine ⟨b, hb, ?_⟩
    split
    · rename_i y
      have e := Mt.inv_neg y
      refine ⟨b, hb, b, hb, sz_le 2 (by decide), fun p hp => ⟨pa, p, a, b⁻¹, rfl, ha.same (same_upd hp), Fq.of ?_, sa, ⟨?_, ?_⟩, fun r H' sm hr h => h1 z r H' ((same_upd hp).trans sm) ((same_upd hp).free hr) (by rw [Rat.div_def]; exact h)⟩⟩
      · rw [frO, ← e.1, ← e.2]; exact upd_same
      · rw [← e.1]; exact sb.b.neg
      · rw [← e.2]; exact sb.t.neg
    · rename_i y
      have e := Mt.inv_pos (b := b) (by omega)
      refine ⟨b, hb, b, hb, sz_le 2 (by decide), fun p hp => ⟨pa, p, a, b⁻¹, rfl, ha.same (same_upd hp), Fq.of ?_, sa, ⟨?_, ?_⟩, fun r H' sm hr h => h1 z r H' ((same_upd hp).trans sm) ((same_upd hp).free hr) (by rw [Rat.div_def]; exact h)⟩⟩
      · rw [frO, ← e.1, ← e.2]; exact upd_same
      · rw [← e.1]; exact sb.b
      · rw [← e.2]; exact sb.t
abbrev s_poly_of : Stmt := top 18
theorem sc_poly_of : FnScope ["numbers", "many"] ["numbers"] (defScope s_poly_of) := ⟨rfl, rfl, rfl, by decide +kernel, rfl, by decide +kernel, by decide +kernel⟩
theorem ok_poly_of {f : Addr} {fd : FuncData} (F : Fun K "poly_of" "poly_of" s_poly_of f fd) (m : mg "poly_of" = some (.ref f)) (T : Tx w K mg C_HeightError C_NOUGHT C_NoFraction C_NoSeries C_NoWay C_NoWeights C_ONE C_RISES C_TooFar C_TooHigh C_TooMany) : Callee P w K mg base 1 "poly_of" ["numbers"] (spPolyOf K) := by
  refine ⟨f, fd, ?_, m, F.kp, F.binds fun _ _ _ _ _ _ us hl => match us, hl with | [_], _ => rfl⟩
  refine F.okE sc_poly_of (fun vs H Q E h => ?_) (fun cdv A outer s H vs Q E hr h => ?_)
  · obtain ⟨_, _, _, rfl, _⟩ := h
    rfl
  · obtain ⟨a, xs, f, rfl, hs, hf, hl, hq⟩ := h
    refine ⟨_, (pss_cons (ps_set (i := 1) sc_poly_of.nd rfl (Or.inl rfl) (pe_callB call_len_seq (by rfl) T.b_len PySem.boot_len (pa_cons (pv 0) pa_nil))) (pss_cons (ps_wh PassesOwn.never (PW.pt (pw_and (pt_cmpR op_gt (pv 1) pe_int (nomark _)) (pw_and1 (pt_cmpR (op_eqD hr.units) (pe_ix ix_seq (pv 0) (pe_op op_sub (pv 1) pe_int) (fun _ _ => rfl)) (pe_glob (v := .ref C_NOUGHT) rfl T.m_NOUGHT rfl) (nomark _))))) (pss_one (ps_set (i := 1) sc_poly_of.nd rfl (Or.inl rfl) (pe_op op_sub (pv 1) pe_int)))) (pss_one (ps_ret (pe_callTy call_tuple_of (by rfl) T.b_tuple (by decide +kernel) (pa_cons (pe_slice (sl_list.or sl_tupA) (pv 0) po_none (po_some (pv 1))) pa_nil)))))), ?_⟩
    have hlen := hf.len
    refine tSeq_step fun N hN => ?_
    walk_at "rd"
    refine ⟨xs, hs, hN _ _ ?_⟩
    clear hN N
    refine tSeq_step fun N hN => ?_
    walk_at "rd"
    refine ⟨fun σ H' => ∃ k : Nat, σ = [some (.ref a), some (.int k)] ∧ H' = H ∧ k ≤ f.length ∧ ∀ i, k ≤ i → Mt.cf f i = 0, fun σ _ => match σ with | [_, some (.int y)] => y.toNat | _ => 0, ⟨xs.length, rfl, rfl, by omega, fun i hi => Mt.cf_ge (by omega)⟩, ?_⟩
    rintro σ H' ⟨k, rfl, rfl, hk, hz⟩
    have fin : (k = 0 ∨ Mt.cf f (k - 1) ≠ 0) → N [some (.ref a), some (.int k)] H' := fun h1 => by
      have e := Mt.take_trim hk hz h1
      have ef : Frs K H' (Mt.trim f) (cutV xs none (some (k : Int))) := by rw [cutV_to _ _ (by omega), ← e]; exact hf.take k
      refine hN _ _ ?_
      walk_at "rd"
      rcases hs with h | h
      · exact .inl ⟨a, xs, rfl, h, fun p hp => ⟨p, rfl, _, .inl ⟨SqL.of upd_same, fun l hl => hq l _ ((same_upd hp).trans (same_upd hl)) ⟨_, SqT.of upd_same, ef.same ((same_upd hp).trans (same_upd hl))⟩⟩⟩⟩
      · exact .inr ⟨a, xs, rfl, h, fun p H1 s1 h1 => ⟨p, rfl, _, .inr ⟨h1, hq p H1 s1 ⟨_, h1, ef.same s1⟩⟩⟩⟩
    clear hN
    by_cases k0 : k = 0
    · subst k0
      walk_at "rd"
      exact fin (.inl rfl)
    obtain ⟨r, e, fr⟩ := hf.at (j := k - 1) (by omega)
    have ek : ((k : Int) - 1) = ((k - 1 : Nat) : Int) := by omega
    have at1 := atI_nat e
    rw [← ek] at at1
    have k1 : (0 : Int) < k := by omega
    walk_at "rd"
    rw [if_pos (by omega)]
    have both : rEqD K false (.ref r) (.ref C_NOUGHT) H' fun x H'_1 => x = V.bl false ∧ N [some (V.ref a), some (V.int ↑k)] H'_1 ∨ x = V.bl true ∧ (∃ k_1 : Nat, (k : Int) - 1 = ↑k_1 ∧ H'_1 = H' ∧ k_1 ≤ f.length ∧ ∀ (i : Nat), k_1 ≤ i → Mt.cf f i = 0) ∧ k - 1 < k := by
      refine fr_cmp (rep_fr fr) (rep_fr (T.nought H')) ?_
      by_cases z : Mt.cf f (k - 1) = 0
      · refine .inr ⟨by simp [z], ⟨k - 1, ek, rfl, by omega, fun i hi => ?_⟩, by omega⟩
        by_cases e2 : i = k - 1
        · rw [e2]; exact z
        · exact hz i (by omega)
      · exact .inl ⟨by simp [z], fin (.inr z)⟩
    rcases hs with h | h
    · exact .inl ⟨a, xs, _, _, rfl, rfl, h, at1, both⟩
    · exact .inr (.inl ⟨a, xs, _, _, rfl, rfl, h, at1, both⟩)
abbrev s_number_at : Stmt := top 19
theorem sc_number_at : FnScope ["f", "power"] ["f", "power"] (defScope s_number_at) := ⟨rfl, rfl, rfl, by decide +kernel, rfl, by decide +kernel, by decide +kernel⟩
theorem ok_number_at {f : Addr} {fd : FuncData} (F : Fun K "number_at" "number_at" s_number_at f fd) (m : mg "number_at" = some (.ref f)) (T : Tx w K mg C_HeightError C_NOUGHT C_NoFraction C_NoSeries C_NoWay C_NoWeights C_ONE C_RISES C_TooFar C_TooHigh C_TooMany) : Callee P w K mg base 1 "number_at" ["f", "power"] (spNumAt K) := by
  refine ⟨f, fd, ?_, m, F.kp, F.binds fun _ _ _ _ _ _ us hl => match us, hl with | [_, _], _ => rfl⟩
  refine F.okE sc_number_at (fun vs H Q E h => ?_) (fun cdv A outer s H vs Q E hr h => ?_)
  · obtain ⟨_, _, _, rfl, _⟩ := h
    rfl
  · obtain ⟨p, f, n, rfl, hp, hq⟩ := h
    refine ⟨_, (pss_one (ps_ret (pe_ifExp (pt_cmpR op_lt (pv 1) (pe_callB call_len_seq (by rfl) T.b_len PySem.boot_len (pa_cons (pv 0) pa_nil)) (nomark _)) (pe_ix ix_tup (pv 0) (pv 1) (fun _ _ => rfl)) (pe_glob (v := .ref C_NOUGHT) rfl T.m_NOUGHT rfl)))), ?_⟩
    obtain ⟨xs, hx, hf⟩ := hp
    have hlen := hf.len
    walk_at "rd"
    refine ⟨xs, .inr hx, ?_⟩
    split
    · rename_i h
      obtain ⟨r, e, fr⟩ := hf.at (j := n) (by omega)
      exact ⟨xs, hx, _, atI_nat e, hq r fr⟩
    · rename_i h
      refine hq _ ?_
      rw [Mt.cf_ge (by omega)]
      exact T.nought H
abbrev s_poly_plus : Stmt := top 20
theorem sc_poly_plus : FnScope ["f", "g"] ["f", "g"] (defScope s_poly_plus) := ⟨rfl, rfl, rfl, by decide +kernel, rfl, by decide +kernel, by decide +kernel⟩
theorem ok_poly_plus {f : Addr} {fd : FuncData} (F : Fun K "poly_plus" "poly_plus" s_poly_plus f fd) (m : mg "poly_plus" = some (.ref f)) (T : Tx w K mg C_HeightError C_NOUGHT C_NoFraction C_NoSeries C_NoWay C_NoWeights C_ONE C_RISES C_TooFar C_TooHigh C_TooMany) (c_number_at : Callee P w K mg base 1 "number_at" ["f", "power"] (spNumAt K)) (c_plus : Callee P w K mg base 2 "plus" ["a", "b"] (spBin K (fun a b => a + b))) (c_poly_of : Callee P w K mg base 1 "poly_of" ["numbers"] (spPolyOf K)) : Callee P w K mg base 3 "poly_plus" ["f", "g"] (spPP K Mt.padd) := by
  refine ⟨f, fd, ?_, m, F.kp, F.binds fun _ _ _ _ _ _ us hl => match us, hl with | [_, _], _ => rfl⟩
  refine F.okE sc_poly_plus (fun vs H Q E h => ?_) (fun cdv A outer s H vs Q E hr h => ?_)
  · obtain ⟨_, _, _, _, rfl, _⟩ := h
    rfl
  · obtain ⟨pf, pg, f, g, rfl, hf, hg, lf, lg, sf, sg, hq⟩ := h
    refine ⟨_, (pss_one (ps_ret (pe_c c_poly_of (hr.mono (by decide)) np (pa_cons (PCo.pe (coR T.b_range (pe_callB (call_max2 rfl) (by rfl) T.b_max (by decide +kernel) (pa_cons (pe_callB call_len_seq (by rfl) T.b_len PySem.boot_len (pa_cons (pv 0) pa_nil)) (pa_cons (pe_callB call_len_seq (by rfl) T.b_len PySem.boot_len (pa_cons (pv 1) pa_nil)) pa_nil))) (fun _ hpi => pe_comp2 ["n"] "g" 1 "f" 0 rfl hpi (fun _ _ _ _ _ => (pg_name (i := 0) (show List.Nodup [("n" : Str), ("g" : Str), ("f" : Str)] by decide +kernel) rfl (Or.inl rfl) (Or.inr rfl)).mo) (fun _ _ _ _ _ => PE.mo (pe_c c_plus (hr.mono (by decide)) np (pa_cons (pe_c c_number_at (hr.mono (by decide)) np (pa_cons (pv 2) (pa_cons (pv 0) pa_nil))) (pa_cons (pe_c c_number_at (hr.mono (by decide)) np (pa_cons (pv 1) (pa_cons (pv 0) pa_nil))) pa_nil)))) rfl rfl rfl rfl rfl rfl rfl rfl rfl))) pa_nil)))), ?_⟩
    obtain ⟨xs, hx, fx⟩ := id hf
    obtain ⟨ys, hy, fy⟩ := id hg
    have l1 := fx.len
    have l2 := fy.len
    walk_at "rd"
    refine ⟨xs, .inr hx, ys, .inr hy, ?_⟩
    have e : (if (xs.length : Int) < ys.length then (ys.length : Int) else xs.length).toNat = max f.length g.length := by split <;> omega
    refine ⟨_, _, ⟨rfl, rfl⟩, by split <;> omega, by split <;> omega, ?_⟩
    rw [e]
    refine CO.frs (K := K) (fun n => Mt.cf f n + Mt.cf g n) (by omega) (fun _ _ => trivial) (fun i H' x R hi sm hx' k => ?_) fun D H' zs sm nD hD hfr => ?_
    · subst hx'
      walk_at "rd"
      exact ⟨pf, f, i, rfl, hf.same sm, fun r1 h1 => ⟨pg, g, i, rfl, hg.same sm, fun r2 h2 => ⟨r1, r2, _, _, rfl, h1, h2, (sf i).mono (by decide), (sg i).mono (by decide), fun r H3 s3 _ h3 => k r H3 s3 (Fq.of h3)⟩⟩⟩
    · exact ⟨D, zs, _, rfl, .inl (SqL.of hD), hfr, by simp; omega, fun p H2 s2 h2 => hq p H2 (sm.trans s2) h2⟩
abbrev s_poly_scaled : Stmt := top 23
theorem sc_poly_scaled : FnScope ["f", "a"] ["f", "a"] (defScope s_poly_scaled) := ⟨rfl, rfl, rfl, by decide +kernel, rfl, by decide +kernel, by decide +kernel⟩
theorem ok_poly_scaled {f : Addr} {fd : FuncData} (F : Fun K "poly_scaled" "poly_scaled" s_poly_scaled f fd) (m : mg "poly_scaled" = some (.ref f)) (T : Tx w K mg C_HeightError C_NOUGHT C_NoFraction C_NoSeries C_NoWay C_NoWeights C_ONE C_RISES C_TooFar C_TooHigh C_TooMany) (c_poly_of : Callee P w K mg base 1 "poly_of" ["numbers"] (spPolyOf K)) (c_times : Callee P w K mg base 2 "times" ["a", "b"] (spBin K (fun a b => a * b))) : Callee P w K mg base 3 "poly_scaled" ["f", "a"] (spScaled K) := by
  refine ⟨f, fd, ?_, m, F.kp, F.binds fun _ _ _ _ _ _ us hl => match us, hl with | [_, _], _ => rfl⟩
  refine F.okE sc_poly_scaled (fun vs H Q E h => ?_) (fun cdv A outer s H vs Q E hr h => ?_)
  · obtain ⟨_, _, _, _, rfl, _⟩ := h
    rfl
  · obtain ⟨pf, pa, f, a, rfl, hf, ha, lf, sf, sa, hq⟩ := h
    refine ⟨_, (pss_one (ps_ret (pe_c c_poly_of (hr.mono (by decide)) np (pa_cons (PCo.pe (coT (pv 0) (fun _ hpi => pe_comp1 ["number"] "a" 1 rfl hpi (fun _ _ _ _ _ => (pg_name (i := 0) (show List.Nodup [("number" : Str), ("a" : Str)] by decide +kernel) rfl (Or.inl rfl) (Or.inr rfl)).mo) (fun _ _ _ _ _ => PE.mo (pe_c c_times (hr.mono (by decide)) np (pa_cons (pv 0) (pa_cons (pv 1) pa_nil)))) rfl rfl rfl rfl rfl))) pa_nil)))), ?_⟩
    obtain ⟨xs, hx, fx⟩ := id hf
    have l1 := fx.len
    walk_at "rd"
    refine ⟨xs, hx, CO.frs (K := K) (fun i => Mt.cf f i * a) (by omega) (fun H' s => s.seqT hx) (fun i H' x R hi sm hx' k => ?_) fun D H' ys sm nD hD hfr => ?_⟩
    · obtain ⟨p, e, fq⟩ := fx.at (j := i) (by omega)
      cases e.symm.trans hx'
      walk_at "rd"
      exact ⟨p, pa, _, a, rfl, fq.same sm, ha.same sm, sf i, sa, fun r H3 s3 _ h3 => k r H3 s3 (Fq.of h3)⟩
    · refine ⟨D, ys, _, rfl, .inl (SqL.of hD), hfr, by simp; omega, fun p H2 s2 h2 => hq p H2 (sm.trans s2) ?_⟩
      rw [← l1, Mt.map_cf (fun x => x * a)] at h2
      exact h2
abbrev s_poly_minus : Stmt := top 21
theorem sc_poly_minus : FnScope ["f", "g"] ["f", "g"] (defScope s_poly_minus) := ⟨rfl, rfl, rfl, by decide +kernel, rfl, by decide +kernel, by decide +kernel⟩
theorem ok_poly_minus {f : Addr} {fd : FuncData} (F : Fun K "poly_minus" "poly_minus" s_poly_minus f fd) (m : mg "poly_minus" = some (.ref f)) (T : Tx w K mg C_HeightError C_NOUGHT C_NoFraction C_NoSeries C_NoWay C_NoWeights C_ONE C_RISES C_TooFar C_TooHigh C_TooMany) (c_poly_plus : Callee P w K mg base 3 "poly_plus" ["f", "g"] (spPP K Mt.padd)) (c_poly_scaled : Callee P w K mg base 3 "poly_scaled" ["f", "a"] (spScaled K)) : Callee P w K mg base 4 "poly_minus" ["f", "g"] (spPP K Mt.psub) := by
  refine ⟨f, fd, ?_, m, F.kp, F.binds fun _ _ _ _ _ _ us hl => match us, hl with | [_, _], _ => rfl⟩
  refine F.okE sc_poly_minus (fun vs H Q E h => ?_) (fun cdv A outer s H vs Q E hr h => ?_)
  · obtain ⟨_, _, _, _, rfl, _⟩ := h
    rfl
  · obtain ⟨pf, pg, f, g, rfl, hf, hg, lf, lg, sf, sg, hq⟩ := h
    refine ⟨_, (pss_one (ps_ret (pe_c c_poly_plus (hr.mono (by decide)) np (pa_cons (pv 0) (pa_cons (pe_c c_poly_scaled (hr.mono (by decide)) np (pa_cons (pv 1) (pa_cons (pe_tup (pa_cons (pe_un un_neg pe_int) (pa_cons pe_int pa_nil))) pa_nil))) pa_nil))))), ?_⟩
    walk_at "rd"
    refine ⟨sz_le 2 (by decide), fun p hp => ⟨pg, p, g, -1, rfl, hg.same (same_upd hp), Fq.of upd_same, lg, fun n => (sg n).mono (by decide), ⟨by show (_ : Nat) < _; decide, by show (_ : Nat) < _; decide⟩, fun r H1 s1 h1 => ?_⟩⟩
    have s01 := (same_upd hp).trans s1
    refine ⟨pf, r, f, _, rfl, hf.same s01, h1, lf, Nat.le_trans (Mt.trim_len _) (by simpa using lg), sf, fun n => ?_, fun r2 H2 s2 h2 => hq r2 H2 (s01.trans s2) h2⟩
    rw [Mt.cf_pscale, show Mt.cf g n * -1 = -Mt.cf g n by grind]
    exact (sg n).neg
abbrev s_poly_times : Stmt := top 22
theorem sc_poly_times : FnScope ["f", "g", "sums", "i", "a", "j", "b"] ["f", "g"] (defScope s_poly_times) := ⟨rfl, rfl, rfl, by decide +kernel, rfl, by decide +kernel, by decide +kernel⟩
theorem ok_poly_times {f : Addr} {fd : FuncData} (F : Fun K "poly_times" "poly_times" s_poly_times f fd) (m : mg "poly_times" = some (.ref f)) (T : Tx w K mg C_HeightError C_NOUGHT C_NoFraction C_NoSeries C_NoWay C_NoWeights C_ONE C_RISES C_TooFar C_TooHigh C_TooMany) (c_plus : Callee P w K mg base 2 "plus" ["a", "b"] (spBin K (fun a b => a + b))) (c_poly_of : Callee P w K mg base 1 "poly_of" ["numbers"] (spPolyOf K)) (c_times : Callee P w K mg base 2 "times" ["a", "b"] (spBin K (fun a b => a * b))) : Callee P w K mg base 3 "poly_times" ["f", "g"] (spMulP K) := by
  refine ⟨f, fd, ?_, m, F.kp, F.binds fun _ _ _ _ _ _ us hl => match us, hl with | [_, _], _ => rfl⟩
  refine F.okE sc_poly_times (fun vs H Q E h => ?_) (fun cdv A outer s H vs Q E hr h => ?_)
  · obtain ⟨_, _, _, _, _, _, rfl, _⟩ := h
    rfl
  · obtain ⟨pf, pg, f, g, b, c, rfl, hf, hg, lf, lg, bf, bg, hbc, hq⟩ := h
    refine ⟨_, (pss_cons (PCo.ps (i := 2) (coR T.b_range (pe_op op_add (pe_callB call_len_seq (by rfl) T.b_len PySem.boot_len (pa_cons (pv 0) pa_nil)) (pe_callB call_len_seq (by rfl) T.b_len PySem.boot_len (pa_cons (pv 1) pa_nil))) (fun _ hpi => pe_comp0 ["place"] rfl hpi (fun _ _ _ _ _ => (pg_name (i := 0) (show List.Nodup [("place" : Str)] by decide +kernel) rfl (Or.inl rfl) (Or.inr rfl)).mo) (fun _ _ _ _ _ => PE.mo (pe_glob (v := .ref C_NOUGHT) rfl T.m_NOUGHT rfl)))) sc_poly_times.nd rfl (Or.inl rfl)) (pss_cons (ps_forE rfl PassesOwn.never T.b_enumerate (pv 0) (pg_tup rfl (pgs_cons (pg_name (i := 3) sc_poly_times.nd rfl (Or.inl rfl)) (pgs_cons (pg_name (i := 4) sc_poly_times.nd rfl (Or.inl rfl)) pgs_nil))) (pss_one (ps_forE rfl PassesOwn.never T.b_enumerate (pv 1) (pg_tup rfl (pgs_cons (pg_name (i := 5) sc_poly_times.nd rfl (Or.inl rfl)) (pgs_cons (pg_name (i := 6) sc_poly_times.nd rfl (Or.inl rfl)) pgs_nil))) (pss_one (ps_asg (pe_c c_plus (hr.mono (by decide)) np (pa_cons (pe_ix ix_list (pv 2) (pe_op op_add (pv 3) (pv 5)) (fun _ _ => rfl)) (pa_cons (pe_c c_times (hr.mono (by decide)) np (pa_cons (pv 4) (pa_cons (pv 6) pa_nil))) pa_nil))) (pg_sub (pv 2) (pe_op op_add (pv 3) (pv 5)) set_list)))))) (pss_one (ps_ret (pe_c c_poly_of (hr.mono (by decide)) np (pa_cons (pv 2) pa_nil)))))), ?_⟩
    obtain ⟨xs, hx, fx⟩ := id hf
    obtain ⟨ys, hy, fy⟩ := id hg
    have l1 := fx.len
    have l2 := fy.len
    refine tSeq_step fun N hN => ?_
    walk_at "rd"
    have en : (((xs.length : Int) + (ys.length : Int)).toNat) = f.length + g.length := by omega
    refine ⟨xs, .inr hx, ys, .inr hy, by omega, by omega, ?_⟩
    rw [en]
    refine CO.frs (K := K) (fun _ => 0) (by omega) (fun _ _ => trivial) (fun i H' x R hi sm hx' k => k _ _ (Same.refl _) (T.nought _)) fun D H1 zs s1 nD hD hfr => hN _ _ ?_
    clear hN N
    have e0 : (List.range (f.length + g.length)).map (fun _ => (0 : Rat)) = Mt.prodIn f g 0 := by rw [Mt.prodIn_zero, List.map_const', List.length_range]
    rw [e0] at hfr
    refine tSeq_step fun N hN => ?_
    walk_at "rd"
    refine ⟨xs, s1.seqT hx, fun i σ H' => ∃ r3 r4 r5 r6 zs, σ = [some (.ref pf), some (.ref pg), some (.ref D), r3, r4, r5, r6] ∧ Same H H' ∧ H' D = some (.lst zs) ∧ Frs K H' (Mt.prodIn f g i) zs, ⟨none, none, none, none, zs, rfl, s1, hD, hfr⟩, ?_, ?_, ?_⟩
    · rintro i σ H' _ ⟨_, _, _, _, _, _, sm, _⟩
      exact sm.seqT hx
    · rintro i x σ H' p hxi ⟨r3, r4, r5, r6, zs, rfl, sm, hd, hz⟩ hp
      have hi : i < f.length := by rw [l1]; exact (List.getElem?_eq_some_iff.mp hxi).1
      obtain ⟨ra, ea, fa⟩ := fx.at hi
      cases ea.symm.trans hxi
      have w1 := same_upd (o := .tup [.int i, .ref ra]) hp
      have sm1 := sm.trans w1
      have hz1 := hz.same w1
      have hd1 := w1 _ _ hd
      have et : SqT K (upd H' p (.tup [.int i, .ref ra])) p [.int i, .ref ra] := SqT.of upd_same
      generalize upd H' p (.tup [.int i, .ref ra]) = G1 at sm1 hz1 hd1 et ⊢
      walk_at "rd"
      refine ⟨_, et, rfl, _, _, rfl, _, _, rfl, rfl, ys, sm1.seqT hy, ?_⟩
      refine ⟨fun j σ H' => ∃ r5 r6 zs, σ = [some (.ref pf), some (.ref pg), some (.ref D), some (.int i), some (.ref ra), r5, r6] ∧ Same H H' ∧ H' D = some (.lst zs) ∧ Frs K H' (Mt.rowIn (Mt.prodIn f g i) i (Mt.cf f i) g j) zs, ⟨r5, r6, zs, rfl, sm1, hd1, hz1⟩, ?_, ?_, ?_⟩
      · rintro j σ H' _ ⟨_, _, _, _, sm, _⟩
        exact sm.seqT hy
      · rintro j y σ H2 p2 hyj ⟨r5, r6, zs2, rfl, sm2, hd2, hz2⟩ hp2
        have hj : j < g.length := by rw [l2]; exact (List.getElem?_eq_some_iff.mp hyj).1
        obtain ⟨rb, eb, fb⟩ := fy.at hj
        cases eb.symm.trans hyj
        have w2 := same_upd (o := .tup [.int j, .ref rb]) hp2
        replace sm2 := sm2.trans w2
        replace hz2 := hz2.same w2
        replace hd2 := w2 _ _ hd2
        have et2 : SqT K (upd H2 p2 (.tup [.int j, .ref rb])) p2 [.int j, .ref rb] := SqT.of upd_same
        generalize upd H2 p2 (.tup [.int j, .ref rb]) = G2 at sm2 hz2 hd2 et2 ⊢
        have hk : i + j < (Mt.rowIn (Mt.prodIn f g i) i (Mt.cf f i) g j).length := by rw [Mt.rowIn_len, Mt.prodIn_len]; omega
        obtain ⟨rs, es, fs⟩ := hz2.at hk
        have lz := hz2.len
        have at1 : atI zs2 ((i : Int) + (j : Int)) = some (.ref rs) := by
          have := atI_nat es
          rwa [show ((i + j : Nat) : Int) = (i : Int) + (j : Int) by omega] at this
        have ix1 : ixN zs2.length ((i : Int) + (j : Int)) = some (i + j) := by
          have := ixN_nat (n := zs2.length) (k := i + j) (by omega)
          rwa [show ((i + j : Nat) : Int) = (i : Int) + (j : Int) by omega] at this
        have s1 := Ln.sz bf i
        have s2 := Ln.sz bg j
        have s3 := Ln.sz (bf.rowB bg lf hi (j := j) (by omega)) (i + j)
        walk_at "rd"
        refine ⟨_, et2, rfl, _, _, rfl, _, _, rfl, rfl, ?_⟩
        walk_at "rd"
        refine ⟨zs2, SqL.of hd2, _, at1, ra, rb, _, _, rfl, fa.same sm2, fb.same sm2, s1.mono (by omega), s2.mono (by omega), fun r1 G3 t1 _ q1 => ⟨rs, r1, _, _, rfl, fs.same t1, Fq.of q1, s3.mono (by omega), (s1.mul s2).mono (by omega), fun r2 G4 t2 _ q2 => ?_⟩⟩
        have t12 := t1.trans t2
        have hd4 := t12 _ _ hd2
        refine ⟨zs2, hd4, _, ix1, (sm2.trans t12).updL nD, _, upd_same, ?_⟩
        rw [Mt.rowIn_succ]
        exact Frs.set (i + j) (Frs.updL hd4 (hz2.same t12)) (SqT.updL hd4 (Fq.of q2))
      · rintro σ H2 ⟨r5, r6, zs2, rfl, sm2, hd2, hz2⟩
        rw [← l2, ← Mt.prodIn_succ] at hz2
        exact ⟨⟨_, _, _, _, rfl⟩, sm2, _, hd2, hz2⟩
    · rintro σ H' ⟨r3, r4, r5, r6, zs, rfl, sm, hd, hz⟩
      refine hN _ _ ?_
      clear hN N
      have lz := hz.len
      rw [Mt.prodIn_len] at lz
      walk_at "rd"
      refine ⟨D, zs, _, rfl, .inl (SqL.of hd), hz, by rw [Mt.prodIn_len]; omega, fun p H2 s2 h2 => hq p H2 (sm.trans s2) ?_⟩
      rw [← l1] at h2
      exact h2
abbrev s_degree_of : Stmt := top 24
theorem sc_degree_of : FnScope ["f"] ["f"] (defScope s_degree_of) := ⟨rfl, rfl, rfl, by decide +kernel, rfl, by decide +kernel, by decide +kernel⟩
theorem ok_degree_of {f : Addr} {fd : FuncData} (F : Fun K "degree_of" "degree_of" s_degree_of f fd) (m : mg "degree_of" = some (.ref f)) (T : Tx w K mg C_HeightError C_NOUGHT C_NoFraction C_NoSeries C_NoWay C_NoWeights C_ONE C_RISES C_TooFar C_TooHigh C_TooMany) : Callee P w K mg base 1 "degree_of" ["f"] (spDeg K) := by
  refine ⟨f, fd, ?_, m, F.kp, F.binds fun _ _ _ _ _ _ us hl => match us, hl with | [_], _ => rfl⟩
  refine F.okE sc_degree_of (fun vs H Q E h => ?_) (fun cdv A outer s H vs Q E hr h => ?_)
  · obtain ⟨_, _, rfl, _⟩ := h
    rfl
  · obtain ⟨p, f, rfl, hp, hq⟩ := h
    refine ⟨_, (pss_one (ps_ret (pe_op op_sub (pe_callB call_len_seq (by rfl) T.b_len PySem.boot_len (pa_cons (pv 0) pa_nil)) pe_int))), ?_⟩
    obtain ⟨xs, hx, fx⟩ := hp
    have l1 := fx.len
    walk_at "rd"
    refine ⟨xs, .inr hx, ?_⟩
    rw [← l1]
    exact hq
abbrev s_NoWay_init : Stmt := methOf (top 7) 0
theorem sc_NoWay_init : FnScope ["self", "at"] ["self", "at"] (defScope s_NoWay_init) := ⟨rfl, rfl, rfl, by decide +kernel, rfl, by decide +kernel, by decide +kernel⟩
theorem ok_NoWay_init {f : Addr} {fd : FuncData} (F : Fun K "__init__" "NoWay.__init__" s_NoWay_init f fd) (y : excInit K C_NoWay f = true) (kc : PySem.W.keepIn K (.ref C_NoWay) = true) (T : Tx w K mg C_HeightError C_NOUGHT C_NoFraction C_NoSeries C_NoWay C_NoWeights C_ONE C_RISES C_TooFar C_TooHigh C_TooMany) : CalleeI P w K mg base 1 C_NoWay ["self", "at"] (spInit C_NoWay "at") := by
  refine ⟨f, fd, ?_, y, kc, F.binds fun _ _ _ _ _ _ us hl => match us, hl with | [_, _], _ => rfl⟩
  refine F.okE sc_NoWay_init (fun vs H Q E h => ?_) (fun cdv A outer s H vs Q E hr h => ?_)
  · obtain ⟨_, _, rfl, _⟩ := h
    rfl
  · obtain ⟨e, n, rfl, he, h0, h1, hq⟩ := h
    refine ⟨_, (pss_cons (ps_expr (pe_excInit rfl T.m_HeightError T.i_HeightError (pa_cons (pv 0) (pa_cons (pe_fs (by decide) (pv 1)) pa_nil)))) (pss_one (ps_xset (pv 0) (pv 1) rfl))), ?_⟩
    walk_at "rd"
    have hl := PySem.W.KT.len_num h0 (show n < 10 ^ 10 by omega)
    refine ⟨?_, ?_, C_NoWay, ⟨none, he⟩, T.j_NoWay, C_NoWay, he, T.y_NoWay, fun d hd nd => hq d hd nd⟩
    · rcases Nat.eq_zero_or_pos n.natAbs with z | z
      · rw [z]; decide
      · exact (Nat.log2_lt (by omega)).mpr (Nat.lt_of_lt_of_le (show n.natAbs < 2 ^ 10 by omega) (Nat.pow_le_pow_right (by decide) (by decide)))
    · rw [strLen_append, sizeLine_eq]
      have e : (Str.ofString "no way at place ").length = 16 := by decide
      rw [e]
      have hl : (Str.ofString n.repr).length ≤ 10 := hl
      omega
abbrev s_heights_along : Stmt := top 28
theorem sc_heights_along : FnScope ["way", "first", "heights", "at", "sign", "height"] ["way", "first"] (defScope s_heights_along) := ⟨rfl, rfl, rfl, by decide +kernel, rfl, by decide +kernel, by decide +kernel⟩
theorem ok_heights_along {f : Addr} {fd : FuncData} (F : Fun K "heights_along" "heights_along" s_heights_along f fd) (m : mg "heights_along" = some (.ref f)) (T : Tx w K mg C_HeightError C_NOUGHT C_NoFraction C_NoSeries C_NoWay C_NoWeights C_ONE C_RISES C_TooFar C_TooHigh C_TooMany) (c_NoWay_init : CalleeI P w K mg base 1 C_NoWay ["self", "at"] (spInit C_NoWay "at")) : Callee P w K mg base 3 "heights_along" ["way", "first"] (spAlong K C_NoWay) := by
  refine ⟨f, fd, ?_, m, F.kp, F.binds fun _ _ _ _ _ _ us hl => match us, hl with | [_, _], _ => rfl⟩
  refine F.okX sc_heights_along (fun vs H Q E h => ?_) (fun cdv A outer s H vs Q E hr h => ?_)
  · obtain ⟨_, _, rfl, _⟩ := h
    rfl
  · obtain ⟨x, h0, rfl, n0, nx, ax, no, ok⟩ := h
    refine ⟨_, (pss_cons (ps_set (i := 2) sc_heights_along.nd rfl (Or.inl rfl) (pe_lst (pa_cons (pv 1) pa_nil))) (pss_cons (ps_forES rfl PassesOwn.leaving T.b_enumerate (pv 0) (pg_tup rfl (pgs_cons (pg_name (i := 3) sc_heights_along.nd rfl (Or.inl rfl)) (pgs_cons (pg_name (i := 4) sc_heights_along.nd rfl (Or.inl rfl)) pgs_nil))) (pss_cons (ps_if (pt_cmpR (op_notInK T.rises) (pv 4) (pe_glob (v := .ref C_RISES) rfl T.m_RISES rfl) rfl) (pss_one (ps_rI c_NoWay_init (hr.mono (by decide)) raisesD_cx T.m_NoWay (pa_cons (pv 3) pa_nil))) pss_nil) (pss_cons (ps_set (i := 5) sc_heights_along.nd rfl (Or.inl rfl) (pe_op op_add (pe_ix ix_list (pv 2) (pv 3) (fun _ _ => rfl)) (pe_kix T.rises (pe_glob (v := .ref C_RISES) rfl T.m_RISES rfl) (pv 4) (fun _ _ => rfl)))) (pss_cons (ps_if (pt_cmpR op_lt (pv 5) pe_int (nomark _)) (pss_one (ps_rI c_NoWay_init (hr.mono (by decide)) raisesD_cx T.m_NoWay (pa_cons (pv 3) pa_nil))) pss_nil) (pss_one (ps_expr (pe_bm PySem.F.plainAttrs_list PySem.F.slot_list_append PySem.F.type_list_append mt_append (pv 2) (pa_cons (pv 5) pa_nil)))))))) (pss_one (ps_ret (pe_callTy call_tuple_of (by rfl) T.b_tuple (by decide +kernel) (pa_cons (pv 2) pa_nil)))))), ?_⟩
    refine tSeq_step fun N hN => ?_
    walk_at "rd"
    refine ⟨sz_le 1 (by decide), fun D nD => hN _ _ ?_⟩
    clear hN N
    have uD := same_upd (o := .lst [.int h0]) nD
    refine tSeq_step fun N hN => ?_
    walk_at "rd"
    refine ⟨by simpa [asc] using ax, fun k σ H' => ∃ r3 r4 r5, σ = [some (.str x), some (.int h0), some (.ref D), r3, r4, r5] ∧ Same H H' ∧ H' D = some (.lst (htL x h0 k)) ∧ ∀ j, j ≤ k → (ht x h0 j).isSome = true, ⟨none, none, none, rfl, uD, upd_same, fun j hj => ?_⟩, ?_, ?_⟩
    · obtain rfl : j = 0 := by omega
      rfl
    · rintro k c σ H1 p hc ⟨r3, r4, r5, rfl, sm, hD, hok⟩ np
      have hk : k < x.cps.size := (Array.getElem?_eq_some_iff.mp hc).1
      obtain ⟨v, hv⟩ := Option.isSome_iff_exists.mp (hok k (Nat.le_refl _))
      have v0 := ht_nn n0 k v hv
      have hs : ht x h0 (k + 1) = stp c v := by
        show (ht x h0 k).bind _ = _
        rw [hv]
        show (x.cps[k]?).bind _ = _
        rw [hc]
        rfl
      rw [stp_rise v0] at hs
      have at0 : atI (htL x h0 k) (k : Int) = some (.int v) := by
        have := atI_nat (htL_at (x := x) (h0 := h0) (Nat.le_refl k))
        rw [hv] at this
        exact this
      have up := same_upd (o := .tup [.int k, .str ⟨#[c]⟩]) np
      have sp' := sm.trans up
      have hD2 := up _ _ hD
      walk_at "rd"
      refine ⟨_, SqT.of upd_same, rfl, _, _, rfl, _, _, rfl, rfl, .inr ⟨#[c]⟩, rfl, ?_⟩
      rw [rises_at]
      cases hr2 : riseOf c with
      | none =>
        rw [hr2] at hs
        rw [if_pos (show Option.map V.int none = none from rfl)]
        exact ⟨sz_le 1 (by decide), raiseN (by omega) (by omega) sp' (no k hk hok hs)⟩
      | some r =>
        rw [hr2] at hs
        rw [if_neg (by simp)]
        refine ⟨_, _, rfl, SqL.of hD2, _, at0, .inr ⟨#[c]⟩, rfl, .int r, by rw [rises_at, hr2]; rfl, v, rfl, r, rfl, ?_⟩
        simp only [Option.bind_some] at hs
        by_cases z : v + r < 0
        · rw [if_pos z] at hs
          rw [if_pos z]
          exact ⟨sz_le 1 (by decide), raiseN (by omega) (by omega) sp' (no k hk hok hs)⟩
        · rw [if_neg z] at hs
          rw [if_neg z]
          refine ⟨.inl ⟨rfl, _, SqL.of hD2⟩, _, hD2, small1000 (by rw [htL_len]; omega), sp'.updL nD, ?_, ?_⟩
          · rw [upd_same, htL_succ, hs]
            rfl
          · intro j hj
            by_cases e : j = k + 1
            · subst e; rw [hs]; rfl
            · exact hok j (by omega)
    · rintro σ H1 ⟨r3, r4, r5, rfl, sm, hD, hok⟩
      refine hN _ _ ?_
      walk_at "rd"
      exact ⟨_, .inl ⟨SqL.of hD, fun p np => ok hok p _ (sm.trans (same_upd np)) upd_same⟩⟩
abbrev s_is_within : Stmt := top 29
theorem sc_is_within : FnScope ["height", "below"] ["height", "below"] (defScope s_is_within) := ⟨rfl, rfl, rfl, by decide +kernel, rfl, by decide +kernel, by decide +kernel⟩
theorem ok_is_within {f : Addr} {fd : FuncData} (F : Fun K "is_within" "is_within" s_is_within f fd) (m : mg "is_within" = some (.ref f)) (T : Tx w K mg C_HeightError C_NOUGHT C_NoFraction C_NoSeries C_NoWay C_NoWeights C_ONE C_RISES C_TooFar C_TooHigh C_TooMany) : Callee P w K mg base 1 "is_within" ["height", "below"] (spWithin) := by
  refine ⟨f, fd, ?_, m, F.kp, F.binds fun _ _ _ _ _ _ us hl => match us, hl with | [_, _], _ => rfl⟩
  refine F.okE sc_is_within (fun vs H Q E h => ?_) (fun cdv A outer s H vs Q E hr h => ?_)
  · obtain ⟨_, _, rfl, _⟩ := h
    rfl
  · obtain ⟨h, b, rfl, hq⟩ := h
    refine ⟨_, (pss_one (ps_ret (pe_and (pe_cmpR op_ge (pv 0) pe_int (nomark _)) (pe_one (pe_or (pe_cmpR op_isN (pv 1) pe_non (nomark _)) (pe_one (pe_cmpR op_lt (pv 0) (pv 1) (nomark _)))))))), ?_⟩
    walk_at "rd"
    by_cases h0 : 0 ≤ h
    · rw [if_pos h0]
      cases b with
      | none =>
        rw [if_pos (show bV none = V.non from rfl)]
        rw [wi_none, decide_eq_true h0] at hq
        exact hq
      | some m =>
        rw [if_neg (show bV (some m) ≠ V.non from fun z => nomatch z)]
        rw [wi_some, decide_eq_true h0, Bool.true_and] at hq
        exact ⟨m, rfl, hq⟩
    · rw [if_neg h0]
      have e : wi b h = false := by unfold wi; rw [decide_eq_false h0]; rfl
      rw [e] at hq
      exact hq
abbrev s_one_step_longer : Stmt := top 30
theorem sc_one_step_longer : FnScope ["counts", "below", "longer", "end", "sign", "start"] ["counts", "below"] (defScope s_one_step_longer) := ⟨rfl, rfl, rfl, by decide +kernel, rfl, by decide +kernel, by decide +kernel⟩
theorem ok_one_step_longer {f : Addr} {fd : FuncData} (F : Fun K "one_step_longer" "one_step_longer" s_one_step_longer f fd) (m : mg "one_step_longer" = some (.ref f)) (T : Tx w K mg C_HeightError C_NOUGHT C_NoFraction C_NoSeries C_NoWay C_NoWeights C_ONE C_RISES C_TooFar C_TooHigh C_TooMany) (c_is_within : Callee P w K mg base 1 "is_within" ["height", "below"] (spWithin)) : Callee P w K mg base 2 "one_step_longer" ["counts", "below"] (spOneStep) := by
  refine ⟨f, fd, ?_, m, F.kp, F.binds fun _ _ _ _ _ _ us hl => match us, hl with | [_, _], _ => rfl⟩
  refine F.okE sc_one_step_longer (fun vs H Q E h => ?_) (fun cdv A outer s H vs Q E hr h => ?_)
  · obtain ⟨_, _, _, _, rfl, _⟩ := h
    rfl
  · obtain ⟨a, ps, b, M, rfl, ha, kn, hM, hq⟩ := h
    refine ⟨_, (pss_cons (ps_set (i := 2) sc_one_step_longer.nd rfl (Or.inl rfl) pe_dnewK) (pss_cons (ps_forD rfl PassesOwn.never (pv 0) (pg_name (i := 3) sc_one_step_longer.nd rfl (Or.inl rfl)) (pss_one (ps_forK T.rises rfl PassesOwn.never (pe_glob (v := .ref C_RISES) rfl T.m_RISES rfl) (pg_name (i := 4) sc_one_step_longer.nd rfl (Or.inl rfl)) (pss_cons (ps_set (i := 5) sc_one_step_longer.nd rfl (Or.inl rfl) (pe_op op_sub (pv 3) (pe_kix T.rises (pe_glob (v := .ref C_RISES) rfl T.m_RISES rfl) (pv 4) (fun _ _ => rfl)))) (pss_one (ps_if (pt_val (pe_c c_is_within (hr.mono (by decide)) np (pa_cons (pv 5) (pa_cons (pv 1) pa_nil)))) (pss_one (ps_dput (hu_of hr) (pv 2) (pv 5) (pe_op op_add (pe_dget2 (hu_of hr) (pv 2) (pv 5) pe_int ⟨rfl, rfl, rfl, rfl⟩) (pe_dget (hu_of hr) (pv 0) (pv 3) (fun _ _ => rfl))) rfl)) pss_nil)))))) (pss_one (ps_ret (pv 2))))), ?_⟩
    refine tSeq_step fun N hN => ?_
    walk_at "rd"
    intro D nD
    refine hN _ _ ?_
    clear hN N
    have ne : a ≠ D := ne_of_none ha nD
    have uD := same_upd (o := .dK []) nD
    refine tSeq_step fun N hN => ?_
    walk_at "rd"
    refine ⟨dk ps, by rw [upd_ne ne]; exact ha, fun o => ⟨fun i σ H' => ∃ r3 r4 r5, σ = [some (.ref a), some (bV b), some (.ref D), r3, r4, r5] ∧ H' a = some (.frz o (.dK (dk ps))) ∧ H' D = some (.dK (dk ((ps.take i).foldl (add3 b) []))) ∧ ∀ x u, x ≠ a → H x = some u → H' x = some u, ⟨none, none, none, rfl, upd_same, by rw [upd_ne (Ne.symm ne), upd_same]; rfl, fun x u nx hx => by rw [upd_ne nx]; exact uD x u hx⟩, fun i σ H' h => ?_, ?_, ?_⟩⟩
    · obtain ⟨_, _, _, _, h, _⟩ := h
      exact h
    · rintro i k v σ H1 bk hk hbk ⟨r3, r4, r5, rfl, hfz, hD, hsm⟩
      obtain ⟨p, hp, rfl, rfl⟩ := dk_i hk
      have kp := kn.2 p.1 (List.mem_map.mpr ⟨p, List.mem_of_getElem? hp, rfl⟩)
      have kq : Kin (M + 1 : Nat) ((ps.take i).foldl (add3 b) []) := Kin.add3s _ (kin_nil _) fun x hx => by
        have := kn.2 x.1 (List.mem_map.mpr ⟨x, List.mem_of_mem_take hx, rfl⟩)
        omega
      have gp : DGet H1 a (.int p.1) (some (.int p.2)) := .inl ⟨dk ps, .inl p.1, .inr ⟨o, hfz⟩, rfl, by rw [valV_dk, pvI_mem kn.1 hp]; rfl⟩
      walk_at "rd"
      refine ⟨fun j σ H' => ∃ r4 r5, σ = [some (.ref a), some (bV b), some (.ref D), some (.int p.1), r4, r5] ∧ H' a = some (.frz o (.dK (dk ps))) ∧ H' D = some (.dK (dk ((rs3.take j).foldl (add1 b p.1 p.2) ((ps.take i).foldl (add3 b) [])))) ∧ ∀ x u, x ≠ a → H x = some u → H' x = some u, ⟨r4, r5, rfl, hfz, hD, hsm⟩, ?_, ?_⟩
      · rintro j k v σ H2 hj ⟨r4, r5, rfl, fz2, hD2, sm2⟩
        obtain ⟨r, er, rfl, vr⟩ := rises_i hj
        have k2 : Kin (M + 1 : Nat) ((rs3.take j).foldl (add1 b p.1 p.2) ((ps.take i).foldl (add3 b) [])) := Kin.add1s _ kq (by omega) fun x hx => List.mem_of_mem_take hx
        have l2 := k2.len
        have g2 : DGet H2 a (.int p.1) (some (.int p.2)) := .inl ⟨dk ps, .inl p.1, .inr ⟨o, fz2⟩, rfl, by rw [valV_dk, pvI_mem kn.1 hp]; rfl⟩
        have tf := take_foldl (f := add1 b p.1 p.2) er ((ps.take i).foldl (add3 b) [])
        generalize (rs3.take j).foldl (add1 b p.1 p.2) ((ps.take i).foldl (add3 b) []) = q at *
        walk_at "rd"
        refine ⟨k, rfl, _, vr, r, rfl, p.1 - r, b, rfl, ?_⟩
        cases w : wi b (p.1 - r) with
        | false =>
          refine .inl ⟨rfl, fz2, ?_, fun x u nx => sm2 x u nx⟩
          rw [tf, add1, w]
          exact hD2
        | true =>
          refine .inr ⟨rfl, .inl ⟨_, .inl hD2⟩, _, get_dk hD2 _, _, g2, gv q (p.1 - r), getD_dk _ _, p.2, rfl, _, DPut.k (k := .inl (p.1 - r)) hD2 (by rw [dk_len, sizeLine_eq]; omega), ?_, ?_, fun x u nx hx => ?_⟩
          · rw [upd_ne ne]; exact fz2
          · rw [upd_same, tf, add1, w, putK_dk]; rfl
          · have nxD : x ≠ D := ne_of_none hx nD
            rw [upd_ne nxD]
            exact sm2 x u nx hx
      · rintro σ H2 ⟨r4, r5, rfl, fz2, hD2, sm2⟩
        refine ⟨⟨_, _, _, rfl⟩, fz2, ?_, fun x u nx => sm2 x u nx⟩
        rw [take_foldl hp]
        exact hD2
    · rintro σ H1 ⟨r3, r4, r5, rfl, hfz, hD, hsm⟩
      rw [dk_len, List.take_length] at hD
      refine hN _ _ ?_
      clear hN N
      walk_at "rd"
      refine hq D _ (fun x u hx => ?_) nD (by rw [upd_ne (Ne.symm ne)]; exact hD)
      by_cases e : x = a
      · subst e; rw [upd_same, ← ha]; exact hx
      · rw [upd_ne e]; exact hsm x u e hx
abbrev s_ways_to_go : Stmt := top 31
theorem sc_ways_to_go : FnScope ["length", "last", "below", "to_go", "step"] ["length", "last", "below"] (defScope s_ways_to_go) := ⟨rfl, rfl, rfl, by decide +kernel, rfl, by decide +kernel, by decide +kernel⟩
theorem ok_ways_to_go {f : Addr} {fd : FuncData} (F : Fun K "ways_to_go" "ways_to_go" s_ways_to_go f fd) (m : mg "ways_to_go" = some (.ref f)) (T : Tx w K mg C_HeightError C_NOUGHT C_NoFraction C_NoSeries C_NoWay C_NoWeights C_ONE C_RISES C_TooFar C_TooHigh C_TooMany) (c_is_within : Callee P w K mg base 1 "is_within" ["height", "below"] (spWithin)) (c_one_step_longer : Callee P w K mg base 2 "one_step_longer" ["counts", "below"] (spOneStep)) : Callee P w K mg base 3 "ways_to_go" ["length", "last", "below"] (spToGo) := by
  refine ⟨f, fd, ?_, m, F.kp, F.binds fun _ _ _ _ _ _ us hl => match us, hl with | [_, _, _], _ => rfl⟩
  refine F.okE sc_ways_to_go (fun vs H Q E h => ?_) (fun cdv A outer s H vs Q E hr h => ?_)
  · obtain ⟨_, _, _, rfl, _⟩ := h
    rfl
  · obtain ⟨n, last, b, rfl, hn, hl, hq⟩ := h
    refine ⟨_, (pss_cons (ps_set (i := 3) sc_ways_to_go.nd rfl (Or.inl rfl) (pe_lst (pa_cons (pe_ifExp (pt_val (pe_c c_is_within (hr.mono (by decide)) np (pa_cons (pv 1) (pa_cons (pv 2) pa_nil)))) (pe_disp (pps_cons (pv 1) pe_int pps_nil) rfl rfl (by simp) (by decide)) pe_dnewK) pa_nil))) (pss_cons (ps_forR rfl PassesOwn.never T.b_range (pv 0) (pg_name (i := 4) sc_ways_to_go.nd rfl (Or.inl rfl)) (pss_one (ps_expr (pe_bm PySem.F.plainAttrs_list PySem.F.slot_list_append PySem.F.type_list_append mt_append (pv 3) (pa_cons (pe_c c_one_step_longer (hr.mono (by decide)) np (pa_cons (pe_ix ix_list (pv 3) (pv 4) (fun _ _ => rfl)) (pa_cons (pv 2) pa_nil))) pa_nil))))) (pss_one (ps_ret (pv 3))))), ?_⟩
    refine tSeq_step fun N hN => ?_
    walk_at "rd"
    have go : ∀ (p D : Addr) (H1 : Hp), Same H H1 → H D = none → p ≠ D → H1 p = some (.dK (dk (tg b last 0))) → H1 D = some (.lst [.ref p]) → N [some (V.int n), some (V.int last), some (bV b), some (V.ref D), none] H1 := by
      intro p D H1 sm nD ne hp hD
      refine hN _ _ ?_
      clear hN N
      refine tSeq_step fun N hN => ?_
      walk_at "rd"
      refine ⟨by omega, fun k σ H' => ∃ r, σ = [some (.int n), some (.int last), some (bV b), some (.ref D), r] ∧ Same H H' ∧ ∃ as : List Addr, H' D = some (.lst (as.map V.ref)) ∧ as.length = k + 1 ∧ ∀ (i : Nat) (a : Addr), as[i]? = some a → H' a = some (.dK (dk (tg b last i))), ⟨none, rfl, sm, [p], hD, rfl, fun i a h => ?_⟩, ?_, ?_⟩
      · cases i with
        | zero => simp at h; subst h; exact hp
        | succ i => simp at h
      · rintro k σ H2 hk ⟨r, rfl, s2, as, h2, la, ld⟩
        obtain ⟨a, ea⟩ : ∃ a, as[k]? = some a := ⟨as[k], List.getElem?_eq_getElem (by omega)⟩
        have h3 := ld k a ea
        walk_at "rd"
        refine ⟨.inl ⟨rfl, _, SqL.of h2⟩, _, SqL.of h2, _, atI_nat (by rw [List.getElem?_map, ea]; rfl), a, _, b, 100 + k, rfl, h3, by simpa using kin_tg b hl k, by omega, fun p3 H3 s3 n3 h4 => ?_⟩
        refine ⟨_, s3 _ _ h2, small1000 (by rw [List.length_map]; omega), (s2.trans s3).updL nD, as ++ [p3], ?_, by simp [la], fun i x hx => ?_⟩
        · rw [upd_same]; simp
        · have nx : x ≠ D := by
            rintro rfl
            by_cases hi : i < as.length
            · rw [List.getElem?_append_left hi] at hx
              have := ld i x hx
              rw [h2] at this; cases this
            · rw [List.getElem?_append_right (by omega)] at hx
              have hx := List.mem_of_getElem? hx
              rw [List.mem_singleton.mp hx] at h2
              rw [n3] at h2; cases h2
          rw [upd_ne nx]
          by_cases hi : i < as.length
          · rw [List.getElem?_append_left hi] at hx
            exact s3 _ _ (ld i x hx)
          · have hi2 : i = as.length := by
              have := (List.getElem?_eq_some_iff.mp hx).1
              simp at this; omega
            subst hi2
            simp at hx
            subst hx
            rw [la]
            exact h4
      · rintro σ H2 ⟨r, rfl, s2, as, h2, la, ld⟩
        refine hN _ _ ?_
        walk_at "rd"
        exact hq D H2 s2 nD ⟨as, h2, la, ld⟩
    refine ⟨last, b, rfl, ?_⟩
    cases w : wi b last with
    | false =>
      refine .inl ⟨rfl, fun p np => ⟨sz_le 1 (by decide), fun D nD => ?_⟩⟩
      have n1 := ne_of_none (upd_same (H := H) (a := p) (o := .dK [])) nD
      have nD' : H D = none := by rw [upd_ne (Ne.symm n1)] at nD; exact nD
      refine go p D _ ((same_upd np).trans (same_upd nD)) nD' n1 ?_ upd_same
      rw [upd_ne n1, upd_same]
      simp [tg, w, dk]
    | true =>
      refine .inr ⟨rfl, fun p np => ⟨upd_same, [(.inl last, .int 1)], rfl, by simp, sz_le 1 (by decide), fun D nD => ?_⟩⟩
      rw [upd_upd] at nD ⊢
      have n1 := ne_of_none (upd_same (H := H) (a := p) (o := .dK (mergeK [] [(.inl last, .int 1)]))) nD
      have nD' : H D = none := by rw [upd_ne (Ne.symm n1)] at nD; exact nD
      refine go p D _ ((same_upd np).trans (same_upd nD)) nD' n1 ?_ upd_same
      rw [upd_ne n1, upd_same]
      simp only [tg, w]
      rfl
abbrev s_ways_counted : Stmt := top 32
theorem sc_ways_counted : FnScope ["length", "first", "last", "below"] ["length", "first", "last", "below"] (defScope s_ways_counted) := ⟨rfl, rfl, rfl, by decide +kernel, rfl, by decide +kernel, by decide +kernel⟩
theorem ok_ways_counted {f : Addr} {fd : FuncData} (F : FunD K "ways_counted" "ways_counted" s_ways_counted [.int 0, .int 0, .non] f fd) (m : mg "ways_counted" = some (.ref f)) (T : Tx w K mg C_HeightError C_NOUGHT C_NoFraction C_NoSeries C_NoWay C_NoWeights C_ONE C_RISES C_TooFar C_TooHigh C_TooMany) (c_ways_to_go : Callee P w K mg base 3 "ways_to_go" ["length", "last", "below"] (spToGo)) : CalleeD P w K mg base 4 "ways_counted" ["length", "first", "last", "below"] [.int 0, .int 0, .non] (spCounted) := by
  refine F.callee m ?_ ?_
  rotate_left
  · intro i hi T kV doc pm an cdv ct items us hl hz
    obtain ⟨l⟩ := items
    have hl2 : l.length = 3 := hl
    have hi2 : i ≤ 3 := hi
    have hz2 : us.length = 1 + i := by simp at hz; omega
    clear hz hl hi
    match l, hl2 with
    | [_, _, _], _ =>
      rcases (show i = 0 ∨ i = 1 ∨ i = 2 ∨ i = 3 by omega) with rfl | rfl | rfl | rfl
      · match us, hz2 with | [_], _ => exact ⟨_, rfl, rfl⟩
      · match us, hz2 with | [_, _], _ => exact ⟨_, rfl, rfl⟩
      · match us, hz2 with | [_, _, _], _ => exact ⟨_, rfl, rfl⟩
      · match us, hz2 with | [_, _, _, _], _ => exact ⟨_, rfl, rfl⟩
  refine F.okE sc_ways_counted (fun vs H Q E h => ?_) (fun cdv A outer s H vs Q E hr h => ?_)
  · obtain ⟨_, _, _, _, rfl, _⟩ := h
    rfl
  · obtain ⟨n, first, last, b, rfl, hn, hl, hq⟩ := h
    refine ⟨_, (pss_cons (ps_if (pt_cmpR op_lt (pv 0) pe_int (nomark _)) (pss_one (ps_ret pe_int)) pss_nil) (pss_one (ps_ret (pe_dget2 (hu_of hr) (pe_ix ix_list (pe_c c_ways_to_go (hr.mono (by decide)) np (pa_cons (pv 0) (pa_cons (pv 2) (pa_cons (pv 3) pa_nil)))) (pv 0) (fun _ _ => rfl)) (pv 1) pe_int ⟨rfl, rfl, rfl, rfl⟩)))), ?_⟩
    walk_at "rd"
    rw [if_neg (by omega)]
    refine ⟨n, last, b, rfl, hn, hl, fun p H' sm np dl => ?_⟩
    obtain ⟨as, hp, la, hd⟩ := dl
    obtain ⟨a, ea⟩ : ∃ a, as[n]? = some a := ⟨as[n], List.getElem?_eq_getElem (by omega)⟩
    have h1 := hd n a ea
    refine ⟨p, rfl, _, SqL.of hp, _, atI_nat (by rw [List.getElem?_map, ea]; rfl), a, rfl, .inl ⟨_, .inl h1⟩, _, get_dk h1 first, ?_⟩
    rw [getD_dk, gv_tg]
    exact hq H' sm
abbrev s_way_at : Stmt := top 33
theorem sc_way_at : FnScope ["to_go", "first", "number", "way", "height", "rest", "left", "sign", "many"] ["to_go", "first", "number"] (defScope s_way_at) := ⟨rfl, rfl, rfl, by decide +kernel, rfl, by decide +kernel, by decide +kernel⟩
theorem ok_way_at {f : Addr} {fd : FuncData} (F : Fun K "way_at" "way_at" s_way_at f fd) (m : mg "way_at" = some (.ref f)) (T : Tx w K mg C_HeightError C_NOUGHT C_NoFraction C_NoSeries C_NoWay C_NoWeights C_ONE C_RISES C_TooFar C_TooHigh C_TooMany) : Callee P w K mg base 1 "way_at" ["to_go", "first", "number"] (spWayAt K) := by
  refine ⟨f, fd, ?_, m, F.kp, F.binds fun _ _ _ _ _ _ us hl => match us, hl with | [_, _, _], _ => rfl⟩
  refine F.okE sc_way_at (fun vs H Q E h => ?_) (fun cdv A outer s H vs Q E hr h => ?_)
  · obtain ⟨_, _, _, _, _, _, rfl, _⟩ := h
    rfl
  · obtain ⟨p, b, last, first, r0, n, rfl, dl, hn, hr0, hr1, hq⟩ := h
    refine ⟨_, (pss_cons (ps_set (i := 3) sc_way_at.nd rfl (Or.inl rfl) pe_str) (pss_cons (ps_set (i := 4) sc_way_at.nd rfl (Or.inl rfl) (pv 1)) (pss_cons (ps_set (i := 5) sc_way_at.nd rfl (Or.inl rfl) (pv 2)) (pss_cons (ps_forVL rfl PassesOwn.never T.b_reversed (pe_slice sl_list (pv 0) po_none (po_some (pe_un un_neg pe_int))) (pg_name (i := 6) sc_way_at.nd rfl (Or.inl rfl)) (pss_one (ps_forK T.rises rfl PassesOwn.never (pe_glob (v := .ref C_RISES) rfl T.m_RISES rfl) (pg_name (i := 7) sc_way_at.nd rfl (Or.inl rfl)) (pss_cons (ps_set (i := 8) sc_way_at.nd rfl (Or.inl rfl) (pe_dget2 (hu_of hr) (pv 6) (pe_op op_add (pv 4) (pe_kix T.rises (pe_glob (v := .ref C_RISES) rfl T.m_RISES rfl) (pv 7) (fun _ _ => rfl))) pe_int ⟨rfl, rfl, rfl, rfl⟩)) (pss_cons (ps_if (pt_cmpR op_lt (pv 5) (pv 8) (nomark _)) (pss_cons (ps_set (i := 3) sc_way_at.nd rfl (Or.inl rfl) (pe_op op_add_str (pv 3) (pv 7))) (pss_cons (ps_set (i := 4) sc_way_at.nd rfl (Or.inl rfl) (pe_op op_add (pv 4) (pe_kix T.rises (pe_glob (v := .ref C_RISES) rfl T.m_RISES rfl) (pv 7) (fun _ _ => rfl)))) (pss_one ps_break))) pss_nil) (pss_one (ps_set (i := 5) sc_way_at.nd rfl (Or.inl rfl) (pe_op op_sub (pv 5) (pv 8))))))))) (pss_one (ps_ret (pv 3))))))), ?_⟩
    obtain ⟨as, hp, la, hd⟩ := dl
    refine tSeq_step fun N hN => ?_
    walk_at "rd"
    refine hN _ _ ?_
    clear hN N
    refine tSeq_step fun N hN => ?_
    walk_at "rd"
    refine hN _ _ ?_
    clear hN N
    refine tSeq_step fun N hN => ?_
    walk_at "rd"
    refine hN _ _ ?_
    clear hN N
    refine tSeq_step fun N hN => ?_
    walk_at "rd"
    refine ⟨p, _, rfl, SqL.of hp, fun L nL => ?_⟩
    rw [cutV_lst _ n (by rw [List.length_map, la])]
    have uL := same_upd (o := .lst ((as.map V.ref).take n)) nL
    have lt : ((as.map V.ref).take n).length = n := by rw [List.length_take, List.length_map, la]; omega
    refine ⟨L, rfl, _, SqL.of upd_same, fun i σ H' => ∃ (x : Str) (h r : Int) (r6 r7 r8 : Option V), σ = [some (V.ref p), some (V.int first), some (V.int r0), some (V.str x), some (V.int h), some (V.int r), r6, r7, r8] ∧ Same (upd H L (.lst ((as.map V.ref).take n))) H' ∧ 0 ≤ r ∧ r < cnt b last (n - i) h ∧ x.cps.toList ++ ur b last (n - i) h r = ur b last n first r0 ∧ x.cps.size = i, ⟨_, _, _, none, none, none, rfl, Same.refl _, hr0, hr1, rfl, rfl⟩, fun i σ H' _ ⟨_, _, _, _, _, _, _, s1, _⟩ => SqL.of (s1 _ _ upd_same), ?_, ?_⟩
    · rintro i lf σ H1 hi ⟨x, h, r, r6, r7, r8, rfl, s1, r1, r2, ex, lx⟩
      have hin : i < n := by
        have := (List.getElem?_eq_some_iff.mp hi).1
        rw [List.length_reverse, lt] at this
        exact this
      obtain ⟨a, ea⟩ : ∃ a, as[n - 1 - i]? = some a := ⟨as[n - 1 - i], List.getElem?_eq_getElem (by omega)⟩
      obtain rfl : lf = V.ref a := by
        rw [List.getElem?_reverse (by omega), lt, List.getElem?_take, if_pos (by omega), List.getElem?_map, ea] at hi
        simpa using hi.symm
      have ha := s1 _ _ (uL _ _ (hd _ _ ea))
      have m1 : n - i = (n - 1 - i) + 1 := by omega
      have m2 : n - (i + 1) = n - 1 - i := by omega
      rw [m1] at r2 ex
      walk_at "rd"
      refine ⟨fun j σ H' => ∃ (r7 r8 : Option V), σ = [some (V.ref p), some (V.int first), some (V.int r0), some (V.str x), some (V.int h), some (V.int (pr3 b last (n - 1 - i) h r j)), some (V.ref a), r7, r8] ∧ H' = H1 ∧ ∀ t, t ≤ j → 0 ≤ pr3 b last (n - 1 - i) h r t, ⟨r7, r8, rfl, rfl, fun t ht => (show t = 0 by omega) ▸ r1⟩, ?_, ?_⟩
      · rintro j k v σ H2 hj ⟨r7, r8, rfl, rfl, hpr⟩
        obtain ⟨kr, c, e1, e2, rfl, e4, e5⟩ := rises_c hj
        walk_at "rd"
        have gg : ((pvI (tg b last (n - 1 - i)) (h + kr)).map V.int).getD (.int 0) = .int (cnt b last (n - 1 - i) (h + kr)) := by rw [getD_dk, gv_tg]
        refine ⟨.inl ⟨_, .inl ha⟩, k, rfl, _, e4, kr, rfl, _, get_dk ha (h + kr), _, gg, ?_⟩
        by_cases lt2 : pr3 b last (n - 1 - i) h r j < cnt b last (n - 1 - i) (h + kr)
        · rw [if_pos lt2]
          refine ⟨⟨#[c]⟩, e5, ?_, k, rfl, _, e4, kr, rfl, _, _, _, ⟨rfl, rfl, rfl⟩, s1, hpr j (Nat.le_refl _), by rw [m2]; exact lt2, ?_, ?_⟩
          · have l1 : x.length = x.cps.size := rfl
            have l2 : (⟨#[c]⟩ : Str).length = 1 := rfl
            rw [l1, l2, sizeLine_eq]; omega
          · show (x.cps ++ #[c]).toList ++ _ = _
            rw [m2, ← ex, ur_step e2 e1 hpr lt2]
            simp
          · show (x.cps ++ #[c]).size = _
            simp [lx]
        · rw [if_neg lt2]
          refine ⟨_, gg, ?_, fun t ht => ?_⟩
          · rw [pr3_succ e1]
          · by_cases e : t = j + 1
            · rw [e, pr3_succ e1]; omega
            · exact hpr t (by omega)
      · rintro σ H2 ⟨r7, r8, rfl, rfl, hpr⟩
        have := hpr 3 (by decide)
        have := pr3_end r2 r1
        omega
    · rintro σ H1 ⟨x, h, r, r6, r7, r8, rfl, s1, r1, r2, ex, lx⟩
      rw [List.length_reverse, lt] at ex
      rw [Nat.sub_self] at ex
      have ex : x.cps.toList ++ [] = ur b last n first r0 := ex
      rw [List.append_nil] at ex
      refine hN _ _ ?_
      clear hN N
      walk_at "rd"
      have := hq H1 (uL.trans s1)
      rw [← ex] at this
      exact this
abbrev s_ways_listed : Stmt := top 34
theorem sc_ways_listed : FnScope ["length", "first", "last", "below", "many", "to_go"] ["length", "first", "last", "below"] (defScope s_ways_listed) := ⟨rfl, rfl, rfl, by decide +kernel, rfl, by decide +kernel, by decide +kernel⟩
theorem ok_ways_listed {f : Addr} {fd : FuncData} (F : FunD K "ways_listed" "ways_listed" s_ways_listed [.int 0, .int 0, .non] f fd) (m : mg "ways_listed" = some (.ref f)) (T : Tx w K mg C_HeightError C_NOUGHT C_NoFraction C_NoSeries C_NoWay C_NoWeights C_ONE C_RISES C_TooFar C_TooHigh C_TooMany) (c_way_at : Callee P w K mg base 1 "way_at" ["to_go", "first", "number"] (spWayAt K)) (c_ways_counted : CalleeD P w K mg base 4 "ways_counted" ["length", "first", "last", "below"] [.int 0, .int 0, .non] (spCounted)) (c_ways_to_go : Callee P w K mg base 3 "ways_to_go" ["length", "last", "below"] (spToGo)) : CalleeD P w K mg base 5 "ways_listed" ["length", "first", "last", "below"] [.int 0, .int 0, .non] (spListed K C_TooMany) := by
  refine F.callee m ?_ ?_
  rotate_left
  · intro i hi T kV doc pm an cdv ct items us hl hz
    obtain ⟨l⟩ := items
    have hl2 : l.length = 3 := hl
    have hi2 : i ≤ 3 := hi
    have hz2 : us.length = 1 + i := by simp at hz; omega
    clear hz hl hi
    match l, hl2 with
    | [_, _, _], _ =>
      rcases (show i = 0 ∨ i = 1 ∨ i = 2 ∨ i = 3 by omega) with rfl | rfl | rfl | rfl
      · match us, hz2 with | [_], _ => exact ⟨_, rfl, rfl⟩
      · match us, hz2 with | [_, _], _ => exact ⟨_, rfl, rfl⟩
      · match us, hz2 with | [_, _, _], _ => exact ⟨_, rfl, rfl⟩
      · match us, hz2 with | [_, _, _, _], _ => exact ⟨_, rfl, rfl⟩
  refine F.okX sc_ways_listed (fun vs H Q E h => ?_) (fun cdv A outer s H vs Q E hr h => ?_)
  · obtain ⟨_, _, _, _, rfl, _⟩ := h
    rfl
  · obtain ⟨n, first, last, b, rfl, hn, hl, hno, hok⟩ := h
    refine ⟨_, (pss_cons (ps_set (i := 4) sc_ways_listed.nd rfl (Or.inl rfl) (pe_cD 3 c_ways_counted (hr.mono (by decide)) pass_cx (pa_cons (pv 0) (pa_cons (pv 1) (pa_cons (pv 2) (pa_cons (pv 3) pa_nil)))))) (pss_cons (ps_if (pt_cmpR op_gt (pv 4) (pe_globI T.g_MOST_L) (nomark _)) (pss_one (ps_raise raises_cx rfl rfl T.m_TooMany T.x_TooMany (pa_cons pe_str pa_nil))) pss_nil) (pss_cons (ps_set (i := 5) sc_ways_listed.nd rfl (Or.inr rfl) (pe_c c_ways_to_go (hr.mono (by decide)) pass_cx (pa_cons (pv 0) (pa_cons (pv 2) (pa_cons (pv 3) pa_nil))))) (pss_one (ps_ret (PCo.pe (coR T.b_range (pv 4) (fun _ hpi => pe_comp2 ["number"] "to_go" 5 "first" 1 rfl hpi (fun _ _ _ _ _ => (pg_name (i := 0) (show List.Nodup [("number" : Str), ("to_go" : Str), ("first" : Str)] by decide +kernel) rfl (Or.inl rfl) (Or.inr rfl)).mo) (fun _ _ _ _ _ => PE.mo (pe_c c_way_at (hr.mono (by decide)) passE0 (pa_cons (pv 1) (pa_cons (pv 2) (pa_cons (pv 0) pa_nil))))) rfl rfl rfl rfl rfl rfl rfl rfl rfl)))))))), ?_⟩
    refine tSeq_step fun N hN => ?_
    walk_at "rd"
    refine ⟨n, first, last, b, rfl, by omega, hl, fun H1 s1 => hN _ _ ?_⟩
    clear hN N
    refine tSeq_step fun N hN => ?_
    walk_at "rd"
    by_cases big : 400 < cnt b last n first
    · rw [if_pos big]
      exact ⟨sz_le 1 (by decide), hno big _ s1⟩
    · rw [if_neg big]
      refine hN _ _ ?_
      clear hN N
      have c0 := cnt_nn b last n first
      refine tSeq_step fun N hN => ?_
      walk_at "rd"
      refine ⟨n, last, b, rfl, by omega, hl, fun p H2 s2 np dl => hN _ _ ?_⟩
      clear hN N
      walk_at "rd"
      refine ⟨by omega, by omega, CO.els (js := [some 5, some 1]) (fun i _ x => x = .str ⟨(ur b last n first i).toArray⟩) (fun _ _ _ _ _ z => z) (fun _ _ _ _ _ _ _ z => z) (by omega) (fun _ _ => trivial) (fun i H' x R hi sm hx kk => ?_) fun D H' xs sm nD hD lx hx => ?_⟩
      · subst hx
        obtain ⟨as, hp, la, hd⟩ := dl
        have dl' : DL H' b last n p := ⟨as, sm _ _ hp, la, fun i a h => sm _ _ (hd i a h)⟩
        walk_at "rd"
        exact ⟨p, b, last, first, i, n, rfl, dl', by omega, by omega, by omega, fun H3 s3 => kk _ H3 s3 rfl⟩
      · refine hok (by omega) D _ ((s1.trans s2).trans sm) ((s1.trans s2).free nD) ?_
        rw [hD]
        congr 2
        refine List.ext_getElem? fun j => ?_
        by_cases hj : j < (cnt b last n first).toNat
        · have e : xs[j]? = some xs[j] := List.getElem?_eq_getElem (by omega)
          rw [e, hx j _ e]
          simp [wl, hj]
        · rw [List.getElem?_eq_none (by omega), List.getElem?_eq_none (by simp [wl]; omega)]
abbrev s_weights_of : Stmt := top 37
theorem sc_weights_of : FnScope ["levels", "downs"] ["levels", "downs"] (defScope s_weights_of) := ⟨rfl, rfl, rfl, by decide +kernel, rfl, by decide +kernel, by decide +kernel⟩
theorem ok_weights_of {f : Addr} {fd : FuncData} (F : Fun K "weights_of" "weights_of" s_weights_of f fd) (m : mg "weights_of" = some (.ref f)) (T : Tx w K mg C_HeightError C_NOUGHT C_NoFraction C_NoSeries C_NoWay C_NoWeights C_ONE C_RISES C_TooFar C_TooHigh C_TooMany) : Callee P w K mg base 1 "weights_of" ["levels", "downs"] (spWof K C_NoWeights) := by
  refine ⟨f, fd, ?_, m, F.kp, F.binds fun _ _ _ _ _ _ us hl => match us, hl with | [_, _], _ => rfl⟩
  refine F.okX sc_weights_of (fun vs H Q E h => ?_) (fun cdv A outer s H vs Q E hr h => ?_)
  · obtain ⟨_, _, _, _, _, _, rfl, _⟩ := h
    rfl
  · obtain ⟨D1, D2, x1, x2, f1, f2, rfl, d1, d2, k1, k2, h0, h1⟩ := h
    refine ⟨_, (pss_cons (ps_if (pt_cmpR op_ne (pe_callB call_len_seq (by rfl) T.b_len PySem.boot_len (pa_cons (pv 0) pa_nil)) (pe_op op_add (pe_callB call_len_seq (by rfl) T.b_len PySem.boot_len (pa_cons (pv 1) pa_nil)) pe_int) (nomark _)) (pss_one (ps_raise raises_cx rfl rfl T.m_NoWeights T.x_NoWeights (pa_cons pe_str pa_nil))) pss_nil) (pss_cons (ps_if (pt_cmpR op_gt (pe_callB call_len_seq (by rfl) T.b_len PySem.boot_len (pa_cons (pv 0) pa_nil)) (pe_globI T.g_MOST) (nomark _)) (pss_one (ps_raise raises_cx rfl rfl T.m_NoWeights T.x_NoWeights (pa_cons pe_str pa_nil))) pss_nil) (pss_one (ps_ret (pe_tup (pa_cons (pe_callTy call_tuple_of (by rfl) T.b_tuple (by decide +kernel) (pa_cons (pv 0) pa_nil)) (pa_cons (pe_callTy call_tuple_of (by rfl) T.b_tuple (by decide +kernel) (pa_cons (pv 1) pa_nil)) pa_nil))))))), ?_⟩
    have l1 := k1.len
    have l2 := k2.len
    walk_at "rd"
    refine ⟨x1, .inl (SqL.of d1), x2, .inl (SqL.of d2), ?_⟩
    by_cases z : (x1.length : Int) = x2.length + 1
    · refine .inl ⟨z, x1, .inl (SqL.of d1), ?_⟩
      split
      · rename_i y
        exact ⟨sz_le 1 (by decide), h0 (by omega)⟩
      · rename_i y
        refine ⟨x1, .inl ⟨SqL.of d1, fun A nA => ⟨x2, .inl ⟨SqL.of (same_upd nA _ _ d2), fun B nB => ⟨sz_le 2 (by decide), fun w nw => ?_⟩⟩⟩⟩⟩
        have sA := same_upd (o := .tup x1) nA
        have sB := same_upd (o := .tup x2) nB
        have sw := same_upd (o := .tup [.ref A, .ref B]) nw
        have st := (sA.trans sB).trans sw
        exact h1 (by omega) (by omega) w _ st ⟨A, B, SqT.of upd_same, ⟨x1, SqT.of (sw _ _ (sB _ _ upd_same)), k1.same st⟩, ⟨x2, SqT.of (sw _ _ upd_same), k2.same st⟩⟩
    · exact .inr ⟨z, sz_le 1 (by decide), h0 (by omega)⟩
abbrev s_height_of : Stmt := top 38
theorem sc_height_of : FnScope ["weights"] ["weights"] (defScope s_height_of) := ⟨rfl, rfl, rfl, by decide +kernel, rfl, by decide +kernel, by decide +kernel⟩
theorem ok_height_of {f : Addr} {fd : FuncData} (F : Fun K "height_of" "height_of" s_height_of f fd) (m : mg "height_of" = some (.ref f)) (T : Tx w K mg C_HeightError C_NOUGHT C_NoFraction C_NoSeries C_NoWay C_NoWeights C_ONE C_RISES C_TooFar C_TooHigh C_TooMany) : Callee P w K mg base 1 "height_of" ["weights"] (spHof K) := by
  refine ⟨f, fd, ?_, m, F.kp, F.binds fun _ _ _ _ _ _ us hl => match us, hl with | [_], _ => rfl⟩
  refine F.okE sc_height_of (fun vs H Q E h => ?_) (fun cdv A outer s H vs Q E hr h => ?_)
  · obtain ⟨_, _, _, rfl, _⟩ := h
    rfl
  · obtain ⟨w, L, D, rfl, ⟨a, b, hw, hL, ⟨ys, hy, fy⟩⟩, hq⟩ := h
    refine ⟨_, (pss_one (ps_ret (pe_callB call_len_seq (by rfl) T.b_len PySem.boot_len (pa_cons (pe_ix ix_tup (pv 0) pe_int (fun _ _ => rfl)) pa_nil)))), ?_⟩
    have l2 := fy.len
    walk_at "rd"
    refine ⟨_, hw, _, rfl, b, rfl, ys, .inr hy, ?_⟩
    rw [← l2]
    exact hq
abbrev s_TooHigh_init : Stmt := methOf (top 8) 0
theorem sc_TooHigh_init : FnScope ["self", "height"] ["self", "height"] (defScope s_TooHigh_init) := ⟨rfl, rfl, rfl, by decide +kernel, rfl, by decide +kernel, by decide +kernel⟩
theorem ok_TooHigh_init {f : Addr} {fd : FuncData} (F : Fun K "__init__" "TooHigh.__init__" s_TooHigh_init f fd) (y : excInit K C_TooHigh f = true) (kc : PySem.W.keepIn K (.ref C_TooHigh) = true) (T : Tx w K mg C_HeightError C_NOUGHT C_NoFraction C_NoSeries C_NoWay C_NoWeights C_ONE C_RISES C_TooFar C_TooHigh C_TooMany) : CalleeI P w K mg base 1 C_TooHigh ["self", "height"] (spInit C_TooHigh "height") := by
  refine ⟨f, fd, ?_, y, kc, F.binds fun _ _ _ _ _ _ us hl => match us, hl with | [_, _], _ => rfl⟩
  refine F.okE sc_TooHigh_init (fun vs H Q E h => ?_) (fun cdv A outer s H vs Q E hr h => ?_)
  · obtain ⟨_, _, rfl, _⟩ := h
    rfl
  · obtain ⟨e, n, rfl, he, h0, h1, hq⟩ := h
    refine ⟨_, (pss_cons (ps_expr (pe_excInit rfl T.m_HeightError T.i_HeightError (pa_cons (pv 0) (pa_cons (pe_fs (by decide) (pv 1)) pa_nil)))) (pss_one (ps_xset (pv 0) (pv 1) rfl))), ?_⟩
    walk_at "rd"
    have hl := PySem.W.KT.len_num h0 (show n < 10 ^ 10 by omega)
    refine ⟨?_, ?_, C_TooHigh, ⟨none, he⟩, T.j_TooHigh, C_TooHigh, he, T.y_TooHigh, fun d hd nd => hq d hd nd⟩
    · rcases Nat.eq_zero_or_pos n.natAbs with z | z
      · rw [z]; decide
      · exact (Nat.log2_lt (by omega)).mpr (Nat.lt_of_lt_of_le (show n.natAbs < 2 ^ 10 by omega) (Nat.pow_le_pow_right (by decide) (by decide)))
    · rw [strLen_append, sizeLine_eq]
      have e : (Str.ofString "no weight for a step at height ").length = 31 := by decide
      rw [e]
      have hl : (Str.ofString n.repr).length ≤ 10 := hl
      omega
abbrev s_step_weight : Stmt := top 39
theorem sc_step_weight : FnScope ["weights", "sign", "height"] ["weights", "sign", "height"] (defScope s_step_weight) := ⟨rfl, rfl, rfl, by decide +kernel, rfl, by decide +kernel, by decide +kernel⟩
theorem ok_step_weight {f : Addr} {fd : FuncData} (F : Fun K "step_weight" "step_weight" s_step_weight f fd) (m : mg "step_weight" = some (.ref f)) (T : Tx w K mg C_HeightError C_NOUGHT C_NoFraction C_NoSeries C_NoWay C_NoWeights C_ONE C_RISES C_TooFar C_TooHigh C_TooMany) (c_TooHigh_init : CalleeI P w K mg base 1 C_TooHigh ["self", "height"] (spInit C_TooHigh "height")) (c_height_of : Callee P w K mg base 1 "height_of" ["weights"] (spHof K)) : Callee P w K mg base 3 "step_weight" ["weights", "sign", "height"] (spStepW K C_TooHigh) := by
  refine ⟨f, fd, ?_, m, F.kp, F.binds fun _ _ _ _ _ _ us hl => match us, hl with | [_, _, _], _ => rfl⟩
  refine F.okX sc_step_weight (fun vs H Q E h => ?_) (fun cdv A outer s H vs Q E hr h => ?_)
  · obtain ⟨_, _, _, _, _, rfl, _⟩ := h
    rfl
  · obtain ⟨w, L, D, c, h, rfl, hw, ll, n0, n9, cd, cc, no, ok⟩ := h
    refine ⟨_, (pss_cons (ps_if (pt_cmpR op_eq (pv 1) pe_str (nomark _)) (pss_one (ps_ret (pe_glob (v := .ref C_ONE) rfl T.m_ONE rfl))) pss_nil) (pss_cons (ps_if (pt_cmpR op_gt (pv 2) (pe_c c_height_of (hr.mono (by decide)) pass_cx (pa_cons (pv 0) pa_nil)) (nomark _)) (pss_one (ps_rI c_TooHigh_init (hr.mono (by decide)) raisesD_cx T.m_TooHigh (pa_cons (pv 2) pa_nil))) pss_nil) (pss_one (ps_ret (pe_ifExp (pt_cmpR op_eq (pv 1) pe_str (nomark _)) (pe_ix ix_tup (pe_ix ix_tup (pv 0) pe_int (fun _ _ => rfl)) (pv 2) (fun _ _ => rfl)) (pe_ix ix_tup (pe_ix ix_tup (pv 0) pe_int (fun _ _ => rfl)) (pe_op op_sub (pv 2) pe_int) (fun _ _ => rfl))))))), ?_⟩
    obtain ⟨A, B, hAB, ⟨xa, hA, fa⟩, ⟨xb, hB, fb⟩⟩ := id hw
    have la := fa.len
    have lb := fb.len
    have hl : ((⟨#[c]⟩ : Str) = Str.ofString "l") ↔ c = 108 := one_eq c _ (by decide)
    have hu : ((⟨#[c]⟩ : Str) = Str.ofString "u") ↔ c = 117 := one_eq c _ (by decide)
    walk_at "rd"
    by_cases u : c = 117
    · rw [if_pos (hu.mpr u)]
      refine ok (fun z => z.1 u) _ ?_
      unfold sw
      rw [if_pos u]
      exact T.one H
    · rw [if_neg (fun z => u (hu.mp z))]
      refine ⟨w, L, D, rfl, hw, _, rfl, ?_⟩
      split
      · rename_i z
        exact ⟨sz_le 1 (by decide), raiseN n0 (by omega) (Same.refl _) (no u z)⟩
      · rename_i z
        have ok := ok (fun y => z y.2)
        unfold sw at ok
        rw [if_neg u] at ok
        by_cases l : c = 108
        · rw [if_pos l] at ok
          rw [if_pos (hl.mpr l)]
          obtain ⟨q, eq, fq⟩ := fa.at (j := h.toNat) (by omega)
          exact ⟨_, hAB, _, rfl, A, rfl, xa, hA, _, by rw [show h = (h.toNat : Int) by omega]; exact atI_nat eq, ok q fq⟩
        · rw [if_neg l] at ok
          rw [if_neg (fun z => l (hl.mp z))]
          have c1 : c = 100 := by omega
          have := cd c1
          obtain ⟨q, eq, fq⟩ := fb.at (j := h.toNat - 1) (by omega)
          exact ⟨_, hAB, _, rfl, B, rfl, xb, hB, _, by rw [show h - 1 = ((h.toNat - 1 : Nat) : Int) by omega]; exact atI_nat eq, ok q fq⟩
abbrev s_weight_of : Stmt := top 40
theorem sc_weight_of : FnScope ["weights", "way", "first", "heights", "weight", "at", "sign"] ["weights", "way", "first"] (defScope s_weight_of) := ⟨rfl, rfl, rfl, by decide +kernel, rfl, by decide +kernel, by decide +kernel⟩
theorem ok_weight_of {f : Addr} {fd : FuncData} (F : FunD K "weight_of" "weight_of" s_weight_of [.int 0] f fd) (m : mg "weight_of" = some (.ref f)) (T : Tx w K mg C_HeightError C_NOUGHT C_NoFraction C_NoSeries C_NoWay C_NoWeights C_ONE C_RISES C_TooFar C_TooHigh C_TooMany) (c_heights_along : Callee P w K mg base 3 "heights_along" ["way", "first"] (spAlong K C_NoWay)) (c_step_weight : Callee P w K mg base 3 "step_weight" ["weights", "sign", "height"] (spStepW K C_TooHigh)) (c_times : Callee P w K mg base 2 "times" ["a", "b"] (spBin K (fun a b => a * b))) : CalleeD P w K mg base 4 "weight_of" ["weights", "way", "first"] [.int 0] (spWow K C_NoWay C_TooHigh) := by
  refine F.callee m ?_ ?_
  rotate_left
  · intro i hi T kV doc pm an cdv ct items us hl hz
    obtain ⟨l⟩ := items
    have hl2 : l.length = 1 := hl
    have hi2 : i ≤ 1 := hi
    have hz2 : us.length = 2 + i := by simp at hz; omega
    clear hz hl hi
    match l, hl2 with
    | [_], _ =>
      rcases (show i = 0 ∨ i = 1 by omega) with rfl | rfl
      · match us, hz2 with | [_, _], _ => exact ⟨_, rfl, rfl⟩
      · match us, hz2 with | [_, _, _], _ => exact ⟨_, rfl, rfl⟩
  refine F.okX sc_weight_of (fun vs H Q E h => ?_) (fun cdv A outer s H vs Q E hr h => ?_)
  · obtain ⟨_, _, _, _, _, rfl, _⟩ := h
    rfl
  · obtain ⟨w, L, D, x, h0, rfl, hw, ws, n0, n8, nx, ax, no, hgh, ok⟩ := h
    refine ⟨_, (pss_cons (ps_set (i := 3) sc_weight_of.nd rfl (Or.inl rfl) (pe_c c_heights_along (hr.mono (by decide)) pass_cx (pa_cons (pv 1) (pa_cons (pv 2) pa_nil)))) (pss_cons (ps_set (i := 4) sc_weight_of.nd rfl (Or.inl rfl) (pe_glob (v := .ref C_ONE) rfl T.m_ONE rfl)) (pss_cons (ps_forES rfl PassesOwn.leaving T.b_enumerate (pv 1) (pg_tup rfl (pgs_cons (pg_name (i := 5) sc_weight_of.nd rfl (Or.inl rfl)) (pgs_cons (pg_name (i := 6) sc_weight_of.nd rfl (Or.inl rfl)) pgs_nil))) (pss_one (ps_set (i := 4) sc_weight_of.nd rfl (Or.inl rfl) (pe_c c_times (hr.mono (by decide)) pass_cx (pa_cons (pv 4) (pa_cons (pe_c c_step_weight (hr.mono (by decide)) pass_cx (pa_cons (pv 0) (pa_cons (pv 6) (pa_cons (pe_ix ix_tup (pv 3) (pv 5) (fun _ _ => rfl)) pa_nil)))) pa_nil)))))) (pss_one (ps_ret (pv 4)))))), ?_⟩
    refine tSeq_step fun N hN => ?_
    walk_at "rd"
    refine ⟨x, h0, rfl, n0, by omega, ax, no, fun hok p H1 s1 h1 => hN _ _ ?_⟩
    clear hN N
    refine tSeq_step fun N hN => ?_
    walk_at "rd"
    refine hN _ _ ?_
    clear hN N
    have hgh := hgh hok
    have ok := ok hok
    refine tSeq_step fun N hN => ?_
    walk_at "rd"
    refine ⟨by simpa [asc] using ax, fun k σ H' => ∃ r r4 r5, σ = [some (.ref w), some (.str x), some (.int h0), some (.ref p), some (.ref r), r4, r5] ∧ Same H1 H' ∧ Fq K H' r (pw L D x h0 k) ∧ ∀ j, j < k → ¬ hi D.length x h0 j, ⟨C_ONE, none, none, rfl, Same.refl _, T.one _, fun j hj => absurd hj (by omega)⟩, ?_, ?_⟩
    · rintro k c σ H2 q hc ⟨r, r4, r5, rfl, sm, hr2, hlow⟩ nq
      have hk : k < x.cps.size := (Array.getElem?_eq_some_iff.mp hc).1
      obtain ⟨v, hv⟩ := Option.isSome_iff_exists.mp (hok k (by omega))
      have v0 := ht_nn n0 k v hv
      have v1 := ht_le k v hv
      have at0 : atI (htL x h0 x.cps.size) (k : Int) = some (.int v) := by
        have := atI_nat (htL_at (x := x) (h0 := h0) (k := x.cps.size) (j := k) (by omega))
        rw [hv] at this
        exact this
      obtain ⟨c', ec, cc, cd⟩ := ht_sign hv (hok (k + 1) (by omega))
      rw [hc] at ec
      obtain rfl := Option.some.inj ec
      have up := same_upd (o := .tup [.int k, .str ⟨#[c]⟩]) nq
      have s2 := (s1.trans sm).trans up
      have ehi : hi D.length x h0 k ↔ (c ≠ 117 ∧ (D.length : Int) < v) := by unfold hi; rw [hc, hv]; exact Iff.rfl
      have epw : pw L D x h0 (k + 1) = pw L D x h0 k * sw L D c v := by
        show _ * sw L D ((x.cps[k]?).getD 0) ((ht x h0 k).getD 0) = _
        rw [hc, hv]
        rfl
      walk_at "rd"
      refine ⟨_, SqT.of upd_same, rfl, _, _, rfl, _, _, rfl, rfl, _, (k : Int), rfl, SqT.of (up _ _ (sm _ _ h1)), _, at0, w, L, D, c, v, rfl, hw.same s2, ws.n, v0, by omega, cd, cc, fun u z d H' s' hd hy => ?_, fun z r2 h2 => ?_⟩
      · have g := hgh k hk hlow (ehi.mpr ⟨u, z⟩) d H' (s2.trans s') (s2.free hd)
        rw [hv] at g
        exact g hy
      · refine ⟨r, r2, _, _, rfl, hr2.same up, h2, (gd_sz (pw_gd ws x h0 k) (by omega)).mono (by decide), (wg_sz (sw_wg ws c v)).mono (by decide), fun r3 H' s' _ h3 => ⟨r3, rfl, (sm.trans up).trans s', by rw [epw]; exact Fq.of h3, fun j hj => ?_⟩⟩
        by_cases e : j = k
        · subst e
          exact fun y => z (ehi.mp y)
        · exact hlow j (by omega)
    · rintro σ H2 ⟨r, r4, r5, rfl, sm, hr2, hlow⟩
      refine hN _ _ ?_
      walk_at "rd"
      exact ok hlow r H2 (s1.trans sm) hr2
abbrev s_one_less : Stmt := top 42
theorem sc_one_less : FnScope ["level"] ["level"] (defScope s_one_less) := ⟨rfl, rfl, rfl, by decide +kernel, rfl, by decide +kernel, by decide +kernel⟩
theorem ok_one_less {f : Addr} {fd : FuncData} (F : Fun K "one_less" "one_less" s_one_less f fd) (m : mg "one_less" = some (.ref f)) (T : Tx w K mg C_HeightError C_NOUGHT C_NoFraction C_NoSeries C_NoWay C_NoWeights C_ONE C_RISES C_TooFar C_TooHigh C_TooMany) (c_minus : Callee P w K mg base 3 "minus" ["a", "b"] (spBin K (fun a b => a - b))) (c_poly_of : Callee P w K mg base 1 "poly_of" ["numbers"] (spPolyOf K)) : Callee P w K mg base 4 "one_less" ["level"] (spOneLess K) := by
  refine ⟨f, fd, ?_, m, F.kp, F.binds fun _ _ _ _ _ _ us hl => match us, hl with | [_], _ => rfl⟩
  refine F.okE sc_one_less (fun vs H Q E h => ?_) (fun cdv A outer s H vs Q E hr h => ?_)
  · obtain ⟨_, _, rfl, _⟩ := h
    rfl
  · obtain ⟨p, a, rfl, ha, sa, hq⟩ := h
    refine ⟨_, (pss_one (ps_ret (pe_c c_poly_of (hr.mono (by decide)) np (pa_cons (pe_lst (pa_cons (pe_glob (v := .ref C_ONE) rfl T.m_ONE rfl) (pa_cons (pe_c c_minus (hr.mono (by decide)) np (pa_cons (pe_glob (v := .ref C_NOUGHT) rfl T.m_NOUGHT rfl) (pa_cons (pv 0) pa_nil))) pa_nil))) pa_nil)))), ?_⟩
    walk_at "rd"
    refine ⟨_, p, 0, a, rfl, T.nought H, ha, Sz.zero (by decide), sa, fun r H1 s1 n1 h1 => ⟨sz_le 2 (by decide), fun l nl => ?_⟩⟩
    have u := same_upd (o := .lst [.ref C_ONE, .ref r]) nl
    refine ⟨l, _, [1, 0 - a], rfl, .inl (SqL.of upd_same), Frs.cons (T.one _) (Frs.cons (Fq.of (u _ _ h1)) Frs.nil), by simp, fun p2 H2 s2 h2 => hq p2 H2 ((s1.trans u).trans s2) ?_⟩
    rw [show (0 : Rat) - a = -a by grind] at h2
    exact h2
abbrev s_one_below : Stmt := top 43
theorem sc_one_below : FnScope ["weights", "h", "now", "before", "down"] ["weights", "h", "now", "before"] (defScope s_one_below) := ⟨rfl, rfl, rfl, by decide +kernel, rfl, by decide +kernel, by decide +kernel⟩
theorem ok_one_below {f : Addr} {fd : FuncData} (F : Fun K "one_below" "one_below" s_one_below f fd) (m : mg "one_below" = some (.ref f)) (T : Tx w K mg C_HeightError C_NOUGHT C_NoFraction C_NoSeries C_NoWay C_NoWeights C_ONE C_RISES C_TooFar C_TooHigh C_TooMany) (c_one_less : Callee P w K mg base 4 "one_less" ["level"] (spOneLess K)) (c_poly_minus : Callee P w K mg base 4 "poly_minus" ["f", "g"] (spPP K Mt.psub)) (c_poly_of : Callee P w K mg base 1 "poly_of" ["numbers"] (spPolyOf K)) (c_poly_times : Callee P w K mg base 3 "poly_times" ["f", "g"] (spMulP K)) : Callee P w K mg base 5 "one_below" ["weights", "h", "now", "before"] (spOneBelow K) := by
  refine ⟨f, fd, ?_, m, F.kp, F.binds fun _ _ _ _ _ _ us hl => match us, hl with | [_, _, _, _], _ => rfl⟩
  refine F.okE sc_one_below (fun vs H Q E h => ?_) (fun cdv A outer s H vs Q E hr h => ?_)
  · obtain ⟨_, _, _, _, _, _, _, _, rfl, _⟩ := h
    rfl
  · obtain ⟨w, pf, pg, h, L, D, f, g, rfl, hw, ws, h1, h2, hf, hg, lf, lg, bf, bg, hq⟩ := h
    refine ⟨_, (pss_cons (ps_set (i := 4) sc_one_below.nd rfl (Or.inl rfl) (pe_c c_poly_of (hr.mono (by decide)) np (pa_cons (pe_lst (pa_cons (pe_glob (v := .ref C_NOUGHT) rfl T.m_NOUGHT rfl) (pa_cons (pe_glob (v := .ref C_NOUGHT) rfl T.m_NOUGHT rfl) (pa_cons (pe_ix ix_tup (pe_ix ix_tup (pv 0) pe_int (fun _ _ => rfl)) (pe_op op_sub (pv 1) pe_int) (fun _ _ => rfl)) pa_nil)))) pa_nil))) (pss_one (ps_ret (pe_c c_poly_minus (hr.mono (by decide)) np (pa_cons (pe_c c_poly_times (hr.mono (by decide)) np (pa_cons (pe_c c_one_less (hr.mono (by decide)) np (pa_cons (pe_ix ix_tup (pe_ix ix_tup (pv 0) pe_int (fun _ _ => rfl)) (pv 1) (fun _ _ => rfl)) pa_nil)) (pa_cons (pv 2) pa_nil))) (pa_cons (pe_c c_poly_times (hr.mono (by decide)) np (pa_cons (pv 4) (pa_cons (pv 3) pa_nil))) pa_nil)))))), ?_⟩
    obtain ⟨wa, wb, hw0, ⟨us, hu, fu⟩, ⟨vs, hv, fv⟩⟩ := id hw
    have l2 := fu.len
    have l3 := fv.len
    have wn := ws.n
    obtain ⟨p2, e2, q2⟩ := fu.at (j := h) (by omega)
    obtain ⟨p3, e3, q3⟩ := fv.at (j := h - 1) (by omega)
    have a2 := atI_nat e2
    have a3 := atI_nat e3
    rw [show ((h - 1 : Nat) : Int) = (h : Int) - 1 by omega] at a3
    have wL := Mt.wg_cf ws.l h
    have wD := Mt.wg_cf ws.d (h - 1)
    refine tSeq_step fun N hN => ?_
    walk_at "rd"
    refine ⟨_, hw0, _, rfl, wb, rfl, vs, hv, _, a3, sz_le 3 (by decide), fun l nl => ?_⟩
    have u := same_upd (o := .lst [.ref C_NOUGHT, .ref C_NOUGHT, .ref p3]) nl
    refine ⟨l, _, [0, 0, Mt.cf D (h - 1)], rfl, .inl (SqL.of upd_same), Frs.cons (T.nought _) (Frs.cons (T.nought _) (Frs.cons (q3.same u) Frs.nil)), by simp, fun pd H1 s1 hd => hN _ _ ?_⟩
    clear hN N
    replace hd : Pl K H1 pd (Mt.l2 (Mt.cf D (h - 1))) := hd
    replace s1 := u.trans s1
    walk_at "rd"
    refine ⟨_, s1.seqT hw0, _, rfl, wa, rfl, us, s1.seqT hu, _, a2, p2, _, rfl, q2.same s1, (wg_sz wL).mono (by decide), fun r2 H2 s2 g2 => ?_⟩
    have s12 := s1.trans s2
    have b1 := (Mt.gp_l1 wL).ln (by decide)
    have b2 := (Mt.gp_l2 wD).ln (by decide)
    have m1 := len_pmul (Mt.l1 (Mt.cf L h)) f
    have m2 := len_pmul (Mt.l2 (Mt.cf D (h - 1))) g
    have m3 := Mt.len_l1 (Mt.cf L h)
    have m4 := Mt.len_l2 (Mt.cf D (h - 1))
    refine ⟨r2, pf, _, f, 320, 320, rfl, g2, hf.same s12, by omega, by omega, b1, bf, by decide, fun r3 H3 s3 g3 => ?_⟩
    refine ⟨pd, pg, _, g, 320, 320, rfl, (Pl.same hd s2).same s3, hg.same (s12.trans s3), by omega, by omega, b2, bg, by decide, fun r4 H4 s4 g4 => ?_⟩
    exact ⟨r3, r4, _, _, rfl, g3.same s4, g4, by omega, by omega, fun n => (Ln.sz (b1.pmulB bf (by omega)) n).mono (by decide), fun n => (Ln.sz (b2.pmulB bg (by omega)) n).mono (by decide), fun r5 H5 s5 g5 => hq r5 H5 (((s12.trans s3).trans s4).trans s5) g5⟩
abbrev s_end_of : Stmt := top 44
theorem sc_end_of : FnScope ["weights", "h", "tops", "bottoms", "n", "place"] ["weights", "h"] (defScope s_end_of) := ⟨rfl, rfl, rfl, by decide +kernel, rfl, by decide +kernel, by decide +kernel⟩
theorem ok_end_of {f : Addr} {fd : FuncData} (F : Fun K "end_of" "end_of" s_end_of f fd) (m : mg "end_of" = some (.ref f)) (T : Tx w K mg C_HeightError C_NOUGHT C_NoFraction C_NoSeries C_NoWay C_NoWeights C_ONE C_RISES C_TooFar C_TooHigh C_TooMany) (c_height_of : Callee P w K mg base 1 "height_of" ["weights"] (spHof K)) (c_one_below : Callee P w K mg base 5 "one_below" ["weights", "h", "now", "before"] (spOneBelow K)) (c_one_less : Callee P w K mg base 4 "one_less" ["level"] (spOneLess K)) : Callee P w K mg base 6 "end_of" ["weights", "h"] (spEndOf K C_TooFar) := by
  refine ⟨f, fd, ?_, m, F.kp, F.binds fun _ _ _ _ _ _ us hl => match us, hl with | [_, _], _ => rfl⟩
  refine F.okX sc_end_of (fun vs H Q E h => ?_) (fun cdv A outer s H vs Q E hr h => ?_)
  · obtain ⟨_, _, _, _, rfl, _⟩ := h
    rfl
  · obtain ⟨w, h, L, D, rfl, hw, ws, h0, h1⟩ := h
    refine ⟨_, (pss_cons (ps_if (pt_cmpR op_gt (pv 1) (pe_op op_add (pe_c c_height_of (hr.mono (by decide)) pass_cx (pa_cons (pv 0) pa_nil)) pe_int) (nomark _)) (pss_one (ps_raise raises_cx rfl rfl T.m_TooFar T.x_TooFar (pa_cons pe_str pa_nil))) pss_nil) (pss_cons (ps_set (i := 2) sc_end_of.nd rfl (Or.inl rfl) (pe_lst (pa_cons (pe_tup pa_nil) (pa_cons (pe_tup (pa_cons (pe_glob (v := .ref C_ONE) rfl T.m_ONE rfl) pa_nil)) pa_nil)))) (pss_cons (ps_set (i := 3) sc_end_of.nd rfl (Or.inl rfl) (pe_lst (pa_cons (pe_tup (pa_cons (pe_glob (v := .ref C_ONE) rfl T.m_ONE rfl) pa_nil)) (pa_cons (pe_c c_one_less (hr.mono (by decide)) pass_cx (pa_cons (pe_ix ix_tup (pe_ix ix_tup (pv 0) pe_int (fun _ _ => rfl)) pe_int (fun _ _ => rfl)) pa_nil)) pa_nil)))) (pss_cons (ps_forR2 rfl PassesOwn.leaving T.b_range pe_int (pv 1) (pg_name (i := 4) sc_end_of.nd rfl (Or.inl rfl)) (pss_cons (ps_expr (pe_bm PySem.F.plainAttrs_list PySem.F.slot_list_append PySem.F.type_list_append mt_append (pv 2) (pa_cons (pe_c c_one_below (hr.mono (by decide)) pass_cx (pa_cons (pv 0) (pa_cons (pv 4) (pa_cons (pe_ix ix_list (pv 2) (pv 4) (fun _ _ => rfl)) (pa_cons (pe_ix ix_list (pv 2) (pe_op op_sub (pv 4) pe_int) (fun _ _ => rfl)) pa_nil))))) pa_nil))) (pss_one (ps_expr (pe_bm PySem.F.plainAttrs_list PySem.F.slot_list_append PySem.F.type_list_append mt_append (pv 3) (pa_cons (pe_c c_one_below (hr.mono (by decide)) pass_cx (pa_cons (pv 0) (pa_cons (pv 4) (pa_cons (pe_ix ix_list (pv 3) (pv 4) (fun _ _ => rfl)) (pa_cons (pe_ix ix_list (pv 3) (pe_op op_sub (pv 4) pe_int) (fun _ _ => rfl)) pa_nil))))) pa_nil)))))) (pss_cons (ps_set (i := 5) sc_end_of.nd rfl (Or.inl rfl) (pe_callB (call_max2 rfl) (by rfl) T.b_max (by decide +kernel) (pa_cons (pv 1) (pa_cons pe_int pa_nil)))) (pss_one (ps_ret (pe_tup (pa_cons (pe_ix ix_list (pv 2) (pv 5) (fun _ _ => rfl)) (pa_cons (pe_ix ix_list (pv 3) (pv 5) (fun _ _ => rfl)) pa_nil)))))))))), ?_⟩
    obtain ⟨wa, wb, hw0, ⟨us, hu, fu⟩, ⟨vs, hv, fv⟩⟩ := id hw
    have l2 := fu.len
    have l3 := fv.len
    have wn := ws.n
    have wm := ws.m
    obtain ⟨p2, e2, q2⟩ := fu.at (j := 0) (by omega)
    have a2 := atI_nat e2
    refine tSeq_step fun N hN => ?_
    walk_at "rd"
    refine ⟨w, L, D, rfl, hw, _, rfl, ?_⟩
    split
    · rename_i z
      exact ⟨sz_le 1 (by decide), h0 (by omega)⟩
    rename_i z
    refine hN _ _ ?_
    clear hN N
    have hh : h ≤ D.length + 1 := by omega
    refine tSeq_step fun N hN => ?_
    walk_at "rd"
    refine fun p0 n0 => ⟨sz_le 1 (by decide), fun p1 n1 => ⟨sz_le 2 (by decide), fun A nA => hN _ _ ?_⟩⟩
    clear hN N
    have u0 := same_upd (o := .tup []) n0
    have u1 := same_upd (o := .tup [.ref C_ONE]) n1
    have u2 := same_upd (o := .lst [.ref p0, .ref p1]) nA
    have g0 : Pl K (upd (upd (upd H p0 (.tup [])) p1 (.tup [.ref C_ONE])) A (.lst [.ref p0, .ref p1])) p0 [] := (Pl.nil upd_same).same (u1.trans u2)
    have g1 : Pl K (upd (upd (upd H p0 (.tup [])) p1 (.tup [.ref C_ONE])) A (.lst [.ref p0, .ref p1])) p1 [1] := ⟨_, SqT.of (u2 _ _ upd_same), Frs.cons (T.one _) Frs.nil⟩
    have gA : upd (upd (upd H p0 (.tup [])) p1 (.tup [.ref C_ONE])) A (.lst [.ref p0, .ref p1]) A = some (.lst [.ref p0, .ref p1]) := upd_same
    have v2 := (u0.trans u1).trans u2
    have nA0 : H A = none := (u0.trans u1).free nA
    generalize upd (upd (upd H p0 (.tup [])) p1 (.tup [.ref C_ONE])) A (.lst [.ref p0, .ref p1]) = H1 at v2 g0 g1 gA ⊢
    refine tSeq_step fun N hN => ?_
    walk_at "rd"
    refine ⟨sz_le 1 (by decide), fun p3 n3 => ?_⟩
    have u3 := same_upd (o := .tup [.ref C_ONE]) n3
    have v3 := v2.trans u3
    refine ⟨_, v3.seqT hw0, _, rfl, wa, rfl, us, v3.seqT hu, _, a2, p2, _, rfl, q2.same v3, (ws.sL 0).mono (by decide), fun p4 H2 s4 g4 => ⟨sz_le 2 (by decide), fun B nB => hN _ _ ?_⟩⟩
    clear hN N
    have u5 := same_upd (o := .lst [.ref p3, .ref p4]) nB
    have v4 := (u3.trans s4).trans u5
    have g3 : Pl K (upd H2 B (.lst [.ref p3, .ref p4])) p3 [1] := ⟨_, SqT.of ((s4.trans u5) _ _ upd_same), Frs.cons (T.one _) Frs.nil⟩
    replace g4 := g4.same u5
    have gB : upd H2 B (.lst [.ref p3, .ref p4]) B = some (.lst [.ref p3, .ref p4]) := upd_same
    have nB0 : H1 B = none := (u3.trans s4).free nB
    have ne : A ≠ B := ne_of_none gA nB0
    replace nB0 : H B = none := v2.free nB0
    replace gA := v4 _ _ gA
    replace g0 := g0.same v4
    replace g1 := g1.same v4
    replace v4 := v2.trans v4
    generalize upd H2 B (.lst [.ref p3, .ref p4]) = H3 at v4 g0 g1 g3 g4 gA gB ⊢
    refine tSeq_step fun N hN => ?_
    walk_at "rd"
    refine ⟨by omega, fun m σ H' => ∃ xs ys r4, σ = [some (.ref w), some (.int h), some (.ref A), some (.ref B), r4, none] ∧ Same H H' ∧ H' A = some (.lst xs) ∧ H' B = some (.lst ys) ∧ Pls K H' ((List.range (m + 2)).map (Mt.tp L D)) xs ∧ Pls K H' ((List.range (m + 2)).map (Mt.bt L D)) ys, ⟨_, _, none, rfl, v4, gA, gB, Pls.cons g0 (Pls.cons g1 Pls.nil), Pls.cons g3 (Pls.cons g4 Pls.nil)⟩, ?_, ?_⟩
    · rintro m σ H4 hm ⟨xs, ys, r4, rfl, sm, hA, hB, pA, pB⟩
      obtain ⟨pf, ef, hf⟩ := pA.at (j := m + 1) (by omega)
      obtain ⟨pg, eg, hg⟩ := pA.at (j := m) (by omega)
      obtain ⟨qf, df, kf⟩ := pB.at (j := m + 1) (by omega)
      obtain ⟨qg, dg, kg⟩ := pB.at (j := m) (by omega)
      have lA := pA.len
      have lB := pB.len
      have em : (1 : Int) + (m : Int) = ((m + 1 : Nat) : Int) := by omega
      have en : ((m + 1 : Nat) : Int) - 1 = (m : Int) := by omega
      have af := atI_nat ef
      have ag := atI_nat eg
      have bf := atI_nat df
      have bg := atI_nat dg
      have k1 := Mt.len_tp L D (m + 1)
      have k2 := Mt.len_tp L D m
      have k3 := Mt.len_bt L D (m + 1)
      have k4 := Mt.len_bt L D m
      refine tSeq_step fun N hN => ?_
      walk_at "rd"
      rw [em, en]
      refine ⟨.inl ⟨rfl, _, SqL.of hA⟩, xs, SqL.of hA, _, af, xs, SqL.of hA, _, ag, w, pf, pg, m + 1, L, D, _, _, rfl, hw.same sm, ws, by omega, by omega, hf, hg, by omega, by omega, (gp_tp ws (m + 1)).ln (by omega), (gp_tp ws m).ln (by omega), fun r5 H5 s5 g5 => ?_⟩
      have hA5 := s5 _ _ hA
      refine ⟨xs, hA5, small1000 (by omega), hN _ _ ?_⟩
      clear hN N
      have t5 : Same H (upd H5 A (.lst (xs ++ [.ref r5]))) := (sm.trans s5).updL nA0
      have hB5 : upd H5 A (.lst (xs ++ [.ref r5])) B = some (.lst ys) := by rw [upd_ne ne.symm]; exact s5 _ _ hB
      have pA5 : Pls K (upd H5 A (.lst (xs ++ [.ref r5]))) ((List.range (m + 3)).map (Mt.tp L D)) (xs ++ [.ref r5]) := by
        refine Pls.more (Pls.updL hA5 (pA.same s5)) (Pl.updL hA5 ?_)
        rw [tp_succ L D (by omega)]
        exact g5
      have pB5 : Pls K (upd H5 A (.lst (xs ++ [.ref r5]))) ((List.range (m + 2)).map (Mt.bt L D)) ys := Pls.updL hA5 (pB.same s5)
      have kf5 : Pl K (upd H5 A (.lst (xs ++ [.ref r5]))) qf (Mt.bt L D (m + 1)) := Pl.updL hA5 (kf.same s5)
      have kg5 : Pl K (upd H5 A (.lst (xs ++ [.ref r5]))) qg (Mt.bt L D m) := Pl.updL hA5 (kg.same s5)
      have hA6 : upd H5 A (.lst (xs ++ [.ref r5])) A = some (.lst (xs ++ [.ref r5])) := upd_same
      generalize upd H5 A (.lst (xs ++ [.ref r5])) = H6 at t5 hB5 pA5 pB5 kf5 kg5 hA6 ⊢
      walk_at "rd"
      rw [show ((m : Int) + 1) = ((m + 1 : Nat) : Int) by omega]
      refine ⟨.inl ⟨rfl, _, SqL.of hB5⟩, ys, SqL.of hB5, _, bf, ys, SqL.of hB5, _, bg, w, qf, qg, m + 1, L, D, _, _, rfl, hw.same t5, ws, by omega, by omega, kf5, kg5, by omega, by omega, (gp_bt ws (m + 1)).ln (by omega), (gp_bt ws m).ln (by omega), fun r7 H7 s7 g7 => ?_⟩
      have hB7 := s7 _ _ hB5
      refine ⟨ys, hB7, small1000 (by omega), (t5.trans s7).updL nB0, _, by rw [upd_ne ne]; exact s7 _ _ hA6, _, upd_same, Pls.updL hB7 (pA5.same s7), ?_⟩
      refine Pls.more (Pls.updL hB7 (pB5.same s7)) (Pl.updL hB7 ?_)
      rw [bt_succ L D (by omega)]
      exact g7
    · rintro σ H4 ⟨xs, ys, r4, rfl, sm, hA, hB, pA, pB⟩
      refine hN _ _ ?_
      clear hN N
      refine tSeq_step fun N hN => ?_
      walk_at "rd"
      refine ⟨_, _, ⟨rfl, rfl⟩, hN _ _ ?_⟩
      clear hN N
      rw [if_neg (by omega)]
      obtain ⟨pf, ef, hf⟩ := pA.at (j := h) (by omega)
      obtain ⟨qf, df, kf⟩ := pB.at (j := h) (by omega)
      walk_at "rd"
      refine ⟨xs, SqL.of hA, _, atI_nat ef, ys, SqL.of hB, _, atI_nat df, sz_le 2 (by decide), fun r nr => ?_⟩
      have u := same_upd (o := .tup [.ref pf, .ref qf]) nr
      exact h1 hh r _ (sm.trans u) ⟨pf, qf, SqT.of upd_same, hf.same u, kf.same u⟩
abbrev s_series : Stmt := top 45
theorem sc_series : FnScope ["top", "bottom", "many", "numbers", "n", "rest", "power"] ["top", "bottom", "many"] (defScope s_series) := ⟨rfl, rfl, rfl, by decide +kernel, rfl, by decide +kernel, by decide +kernel⟩
theorem ok_series {f : Addr} {fd : FuncData} (F : Fun K "series" "series" s_series f fd) (m : mg "series" = some (.ref f)) (T : Tx w K mg C_HeightError C_NOUGHT C_NoFraction C_NoSeries C_NoWay C_NoWeights C_ONE C_RISES C_TooFar C_TooHigh C_TooMany) (c_degree_of : Callee P w K mg base 1 "degree_of" ["f"] (spDeg K)) (c_minus : Callee P w K mg base 3 "minus" ["a", "b"] (spBin K (fun a b => a - b))) (c_number_at : Callee P w K mg base 1 "number_at" ["f", "power"] (spNumAt K)) (c_over : Callee P w K mg base 3 "over" ["a", "b"] (spOver K C_NoFraction)) (c_times : Callee P w K mg base 2 "times" ["a", "b"] (spBin K (fun a b => a * b))) : Callee P w K mg base 4 "series" ["top", "bottom", "many"] (spSeries K C_NoSeries) := by
  refine ⟨f, fd, ?_, m, F.kp, F.binds fun _ _ _ _ _ _ us hl => match us, hl with | [_, _, _], _ => rfl⟩
  refine F.okX sc_series (fun vs H Q E h => ?_) (fun cdv A outer s H vs Q E hr h => ?_)
  · obtain ⟨_, _, _, _, _, rfl, _⟩ := h
    rfl
  · obtain ⟨pt, pb, t, b, many, rfl, ht, hb, hm, lb, sB, sS, sP, h0, h1⟩ := h
    refine ⟨_, (pss_cons (ps_if (pt_cmpR (op_eqD hr.units) (pe_c c_number_at (hr.mono (by decide)) pass_cx (pa_cons (pv 1) (pa_cons pe_int pa_nil))) (pe_glob (v := .ref C_NOUGHT) rfl T.m_NOUGHT rfl) (nomark _)) (pss_one (ps_raise raises_cx rfl rfl T.m_NoSeries T.x_NoSeries (pa_cons pe_str pa_nil))) pss_nil) (pss_cons (ps_set (i := 3) sc_series.nd rfl (Or.inl rfl) (pe_lst pa_nil)) (pss_cons (ps_forR rfl PassesOwn.leaving T.b_range (pv 2) (pg_name (i := 4) sc_series.nd rfl (Or.inl rfl)) (pss_cons (ps_set (i := 5) sc_series.nd rfl (Or.inl rfl) (pe_c c_number_at (hr.mono (by decide)) pass_cx (pa_cons (pv 0) (pa_cons (pv 4) pa_nil)))) (pss_cons (ps_forR2 rfl PassesOwn.leaving T.b_range pe_int (pe_op op_add (pe_callB (call_min2 rfl) (by rfl) T.b_min (by decide +kernel) (pa_cons (pv 4) (pa_cons (pe_c c_degree_of (hr.mono (by decide)) pass_cx (pa_cons (pv 1) pa_nil)) pa_nil))) pe_int) (pg_name (i := 6) sc_series.nd rfl (Or.inl rfl)) (pss_one (ps_set (i := 5) sc_series.nd rfl (Or.inl rfl) (pe_c c_minus (hr.mono (by decide)) pass_cx (pa_cons (pv 5) (pa_cons (pe_c c_times (hr.mono (by decide)) pass_cx (pa_cons (pe_ix ix_tup (pv 1) (pv 6) (fun _ _ => rfl)) (pa_cons (pe_ix ix_list (pv 3) (pe_op op_sub (pv 4) (pv 6)) (fun _ _ => rfl)) pa_nil))) pa_nil)))))) (pss_one (ps_expr (pe_bm PySem.F.plainAttrs_list PySem.F.slot_list_append PySem.F.type_list_append mt_append (pv 3) (pa_cons (pe_c c_over (hr.mono (by decide)) pass_cx (pa_cons (pv 5) (pa_cons (pe_ix ix_tup (pv 1) pe_int (fun _ _ => rfl)) pa_nil))) pa_nil))))))) (pss_one (ps_ret (pv 3)))))), ?_⟩
    obtain ⟨ys, hy, fy⟩ := id hb
    have l2 := fy.len
    refine tSeq_step fun N hN => ?_
    walk_at "rd"
    refine ⟨pb, b, 0, rfl, hb, fun r0 q0 => fr_cmp (rep_fr q0) (rep_fr (T.nought H)) ?_⟩
    by_cases z : Mt.cf b 0 = 0
    · refine .inr ⟨by simp [z], sz_le 1 (by decide), h0 z⟩
    refine .inl ⟨by simp [z], hN _ _ ?_⟩
    clear hN N
    have bp : 0 < b.length := by
      rcases Nat.eq_zero_or_pos b.length with y | y
      · exact absurd (Mt.cf_ge (by omega)) z
      · exact y
    specialize sS z
    specialize sP z
    specialize h1 z
    refine tSeq_step fun N hN => ?_
    walk_at "rd"
    refine fun D nD => hN _ _ ?_
    clear hN N
    have sD := same_upd (o := .lst []) nD
    refine tSeq_step fun N hN => ?_
    walk_at "rd"
    refine ⟨by omega, fun i σ H' => ∃ r4 r5 r6 xs, σ = [some (.ref pt), some (.ref pb), some (.int many), some (.ref D), r4, r5, r6] ∧ Same H H' ∧ H' D = some (.lst xs) ∧ Frs K H' (Mt.sl t b i) xs, ⟨none, none, none, [], rfl, sD, upd_same, Frs.nil⟩, ?_, ?_⟩
    · rintro n σ H1 hn ⟨r4, r5, r6, xs, rfl, sm, hd, hf⟩
      have lx := hf.len
      rw [Mt.sl_len] at lx
      refine tSeq_step fun N hN => ?_
      walk_at "rd"
      refine ⟨pt, t, n, rfl, ht.same sm, fun r1 q1 => hN _ _ ?_⟩
      clear hN N
      refine tSeq_step fun N hN => ?_
      walk_at "rd"
      refine ⟨pb, b, rfl, hb.same sm, _, _, ⟨rfl, rfl⟩, ?_⟩
      have em : (if (b.length : Int) - 1 < (n : Int) then (b.length : Int) - 1 else (n : Int)) = ((min n (b.length - 1) : Nat) : Int) := by split <;> omega
      rw [em]
      refine ⟨⟨by omega, by omega⟩, ?_⟩
      rw [show (((min n (b.length - 1) : Nat) : Int) + 1).toNat - 1 = min n (b.length - 1) by omega]
      refine ⟨fun j σ H' => ∃ rr r6, σ = [some (.ref pt), some (.ref pb), some (.int many), some (.ref D), some (.int n), some (.ref rr), r6] ∧ Same H1 H' ∧ Fq K H' rr (Mt.part t b (Mt.sl t b n) n j), ⟨r1, r6, rfl, Same.refl _, q1⟩, ?_, ?_⟩
      · rintro j σ H2 hj ⟨rr, r6, rfl, s2, qr⟩
        have sm2 := sm.trans s2
        obtain ⟨p2, e2, q2⟩ := fy.at (j := j + 1) (by omega)
        obtain ⟨p3, e3, q3⟩ := hf.at (j := n - (j + 1)) (by rw [Mt.sl_len]; omega)
        rw [Mt.cf_sl t b (by omega)] at q3
        have a2 := atI_nat e2
        have a3 := atI_nat e3
        rw [show ((j + 1 : Nat) : Int) = 1 + (j : Int) by omega] at a2
        rw [show ((n - (j + 1) : Nat) : Int) = (n : Int) - (1 + (j : Int)) by omega] at a3
        walk_at "rd"
        refine ⟨ys, sm2.seqT hy, _, a2, xs, SqL.of (s2 _ _ hd), _, a3, p2, p3, _, _, rfl, q2.same sm2, q3.same s2, (sB _).mono (by decide), (sS _ (by omega)).mono (by decide), fun r7 H7 s7 n7 h7 => ?_⟩
        refine ⟨rr, r7, _, _, rfl, qr.same s7, Fq.of h7, (sP n j hn (by omega)).mono (by decide), ((sB _).mul (sS _ (by omega))).mono (by decide), fun r8 H8 s8 n8 h8 => ?_⟩
        refine ⟨r8, rfl, (s2.trans s7).trans s8, ?_⟩
        rw [Mt.part_succ t b (by omega)]
        exact Fq.of h8
      · rintro σ H2 ⟨rr, r6, rfl, s2, qr⟩
        refine hN _ _ ?_
        clear hN N
        have sm2 := sm.trans s2
        obtain ⟨p2, e2, q2⟩ := fy.at (j := 0) bp
        walk_at "rd"
        refine ⟨.inl ⟨rfl, _, SqL.of (s2 _ _ hd)⟩, ys, sm2.seqT hy, _, atI_nat e2, rr, p2, _, _, rfl, qr, q2.same sm2, (sP n _ hn (by omega)).mono (by decide), (sB 0).mono (by decide), fun y => absurd y z, fun _ r3 H3 s3 n3 h3 => ?_⟩
        have hd3 := s3 _ _ (s2 _ _ hd)
        refine ⟨xs, hd3, small1000 (by omega), (sm2.trans s3).updL nD, _, upd_same, ?_⟩
        rw [Mt.sl]
        exact Frs.snoc (Frs.updL hd3 ((hf.same s2).same s3)) (SqT.updL hd3 (Fq.of h3))
    · rintro σ H1 ⟨r4, r5, r6, xs, rfl, sm, hd, hf⟩
      refine hN _ _ ?_
      walk_at "rd"
      exact h1 D H1 xs sm nD hd hf
abbrev s_one_further : Stmt := top 47
theorem sc_one_further : FnScope ["level", "now", "down", "before"] ["level", "now", "down", "before"] (defScope s_one_further) := ⟨rfl, rfl, rfl, by decide +kernel, rfl, by decide +kernel, by decide +kernel⟩
theorem ok_one_further {f : Addr} {fd : FuncData} (F : Fun K "one_further" "one_further" s_one_further f fd) (m : mg "one_further" = some (.ref f)) (T : Tx w K mg C_HeightError C_NOUGHT C_NoFraction C_NoSeries C_NoWay C_NoWeights C_ONE C_RISES C_TooFar C_TooHigh C_TooMany) (c_minus : Callee P w K mg base 3 "minus" ["a", "b"] (spBin K (fun a b => a - b))) (c_poly_minus : Callee P w K mg base 4 "poly_minus" ["f", "g"] (spPP K Mt.psub)) (c_poly_of : Callee P w K mg base 1 "poly_of" ["numbers"] (spPolyOf K)) (c_poly_scaled : Callee P w K mg base 3 "poly_scaled" ["f", "a"] (spScaled K)) (c_poly_times : Callee P w K mg base 3 "poly_times" ["f", "g"] (spMulP K)) : Callee P w K mg base 5 "one_further" ["level", "now", "down", "before"] (spFurther K) := by
  refine ⟨f, fd, ?_, m, F.kp, F.binds fun _ _ _ _ _ _ us hl => match us, hl with | [_, _, _, _], _ => rfl⟩
  refine F.okE sc_one_further (fun vs H Q E h => ?_) (fun cdv A outer s H vs Q E hr h => ?_)
  · obtain ⟨_, _, _, _, _, _, _, _, rfl, _⟩ := h
    rfl
  · obtain ⟨pl, pn, pd, pb, l, d, f, g, rfl, ql, hn, qd, hb, wl, wd, lf, lg, bf, bg, hq⟩ := h
    refine ⟨_, (pss_one (ps_ret (pe_c c_poly_minus (hr.mono (by decide)) np (pa_cons (pe_c c_poly_times (hr.mono (by decide)) np (pa_cons (pe_c c_poly_of (hr.mono (by decide)) np (pa_cons (pe_lst (pa_cons (pe_c c_minus (hr.mono (by decide)) np (pa_cons (pe_glob (v := .ref C_NOUGHT) rfl T.m_NOUGHT rfl) (pa_cons (pv 0) pa_nil))) (pa_cons (pe_glob (v := .ref C_ONE) rfl T.m_ONE rfl) pa_nil))) pa_nil)) (pa_cons (pv 1) pa_nil))) (pa_cons (pe_c c_poly_scaled (hr.mono (by decide)) np (pa_cons (pv 3) (pa_cons (pv 2) pa_nil))) pa_nil))))), ?_⟩
    have m1 := len_pmul (Mt.x1 l) f
    have m3 : (Mt.x1 l).length ≤ 2 := Mt.trim_len _
    have b1 := (Mt.gp_x1 wl).ln (by decide)
    walk_at "rd"
    refine ⟨_, pl, 0, l, rfl, T.nought H, ql, Sz.zero (by decide), (wg_sz wl).mono (by decide), fun r1 H1 s1 n1 h1 => ⟨sz_le 2 (by decide), fun lst nl => ?_⟩⟩
    have u := same_upd (o := .lst [.ref r1, .ref C_ONE]) nl
    refine ⟨lst, _, [0 - l, 1], rfl, .inl (SqL.of upd_same), Frs.cons (Fq.of (u _ _ h1)) (Frs.cons (T.one _) Frs.nil), by simp, fun p2 H2 s2 h2 => ?_⟩
    rw [show (0 : Rat) - l = -l by grind] at h2
    replace h2 : Pl K H2 p2 (Mt.x1 l) := h2
    have v2 := (s1.trans u).trans s2
    refine ⟨p2, pn, _, f, 320, 320, rfl, h2, hn.same v2, by omega, by omega, b1, bf, by decide, fun r3 H3 s3 h3 => ?_⟩
    have v3 := v2.trans s3
    refine ⟨pb, pd, g, d, rfl, hb.same v3, qd.same v3, by omega, fun n => (Ln.sz bg n).mono (by decide), (wg_sz wd).mono (by decide), fun r4 H4 s4 h4 => ?_⟩
    refine ⟨r3, r4, _, _, rfl, h3.same s4, h4, by omega, Nat.le_trans (Mt.trim_len _) (by simp; omega), fun n => (Ln.sz (b1.pmulB bf (by omega)) n).mono (by decide), fun n => ?_, fun r5 H5 s5 h5 => hq r5 H5 ((v3.trans s4).trans s5) h5⟩
    rw [Mt.cf_pscale]
    exact ((Ln.sz bg n).mul (wg_sz wd)).mono (by decide)
abbrev s_row_of : Stmt := top 48
theorem sc_row_of : FnScope ["weights", "row", "before", "h", "level", "down"] ["weights"] (defScope s_row_of) := ⟨rfl, rfl, rfl, by decide +kernel, rfl, by decide +kernel, by decide +kernel⟩
theorem ok_row_of {f : Addr} {fd : FuncData} (F : Fun K "row_of" "row_of" s_row_of f fd) (m : mg "row_of" = some (.ref f)) (T : Tx w K mg C_HeightError C_NOUGHT C_NoFraction C_NoSeries C_NoWay C_NoWeights C_ONE C_RISES C_TooFar C_TooHigh C_TooMany) (c_one_further : Callee P w K mg base 5 "one_further" ["level", "now", "down", "before"] (spFurther K)) : Callee P w K mg base 6 "row_of" ["weights"] (spRowOf K) := by
  refine ⟨f, fd, ?_, m, F.kp, F.binds fun _ _ _ _ _ _ us hl => match us, hl with | [_], _ => rfl⟩
  refine F.okE sc_row_of (fun vs H Q E h => ?_) (fun cdv A outer s H vs Q E hr h => ?_)
  · obtain ⟨_, _, _, rfl, _⟩ := h
    rfl
  · obtain ⟨w, L, D, rfl, hw, ws, hq⟩ := h
    refine ⟨_, (pss_cons (ps_set (i := 1) sc_row_of.nd rfl (Or.inl rfl) (pe_lst (pa_cons (pe_tup (pa_cons (pe_glob (v := .ref C_ONE) rfl T.m_ONE rfl) pa_nil)) pa_nil))) (pss_cons (ps_set (i := 2) sc_row_of.nd rfl (Or.inl rfl) (pe_tup pa_nil)) (pss_cons (ps_forE rfl PassesOwn.never T.b_enumerate (pe_ix ix_tup (pv 0) pe_int (fun _ _ => rfl)) (pg_tup rfl (pgs_cons (pg_name (i := 3) sc_row_of.nd rfl (Or.inl rfl)) (pgs_cons (pg_name (i := 4) sc_row_of.nd rfl (Or.inl rfl)) pgs_nil))) (pss_cons (ps_set (i := 5) sc_row_of.nd rfl (Or.inl rfl) (pe_ifExp (pt_cmpR op_gt (pv 3) pe_int (nomark _)) (pe_ix ix_tup (pe_ix ix_tup (pv 0) pe_int (fun _ _ => rfl)) (pe_op op_sub (pv 3) pe_int) (fun _ _ => rfl)) (pe_glob (v := .ref C_NOUGHT) rfl T.m_NOUGHT rfl))) (pss_cons (ps_expr (pe_bm PySem.F.plainAttrs_list PySem.F.slot_list_append PySem.F.type_list_append mt_append (pv 1) (pa_cons (pe_c c_one_further (hr.mono (by decide)) np (pa_cons (pv 4) (pa_cons (pe_ix ix_list (pv 1) (pv 3) (fun _ _ => rfl)) (pa_cons (pv 5) (pa_cons (pv 2) pa_nil))))) pa_nil))) (pss_one (ps_set (i := 2) sc_row_of.nd rfl (Or.inl rfl) (pe_ix ix_list (pv 1) (pv 3) (fun _ _ => rfl))))))) (pss_one (ps_ret (pv 1)))))), ?_⟩
    obtain ⟨wa, wb, hw0, ⟨us, hu, fu⟩, ⟨vs, hv, fv⟩⟩ := id hw
    have l2 := fu.len
    have l3 := fv.len
    have wn := ws.n
    have wm := ws.m
    refine tSeq_step fun N hN => ?_
    walk_at "rd"
    refine ⟨sz_le 1 (by decide), fun p1 n1 => ⟨sz_le 1 (by decide), fun R nR => hN _ _ ?_⟩⟩
    clear hN N
    have u1 := same_upd (o := .tup [.ref C_ONE]) n1
    have u2 := same_upd (o := .lst [.ref p1]) nR
    have g1 : Pl K (upd (upd H p1 (.tup [.ref C_ONE])) R (.lst [.ref p1])) p1 [1] := ⟨_, SqT.of (u2 _ _ upd_same), Frs.cons (T.one _) Frs.nil⟩
    have gR : upd (upd H p1 (.tup [.ref C_ONE])) R (.lst [.ref p1]) R = some (.lst [.ref p1]) := upd_same
    have v2 := u1.trans u2
    have nR0 : H R = none := u1.free nR
    generalize upd (upd H p1 (.tup [.ref C_ONE])) R (.lst [.ref p1]) = H1 at v2 g1 gR ⊢
    refine tSeq_step fun N hN => ?_
    walk_at "rd"
    refine fun p0 n0 => hN _ _ ?_
    clear hN N
    have u0 := same_upd (o := .tup []) n0
    have g0 : Pl K (upd H1 p0 (.tup [])) p0 [] := Pl.nil upd_same
    generalize upd H1 p0 (.tup []) = H2 at u0 g0 ⊢
    replace v2 := v2.trans u0
    replace g1 := g1.same u0
    replace gR := u0 _ _ gR
    refine tSeq_step fun N hN => ?_
    walk_at "rd"
    refine ⟨_, v2.seqT hw0, _, rfl, wa, rfl, us, v2.seqT hu, fun i σ H' => ∃ pb r3 r4 r5 xs, σ = [some (.ref w), some (.ref R), some (.ref pb), r3, r4, r5] ∧ Same H H' ∧ H' R = some (.lst xs) ∧ Pls K H' ((List.range (i + 1)).map (Mt.rp L D)) xs ∧ Pl K H' pb (if i = 0 then [] else Mt.rp L D (i - 1)), ⟨p0, none, none, none, _, rfl, v2, gR, Pls.cons g1 Pls.nil, g0⟩, ?_, ?_, ?_⟩
    · rintro i σ H' _ ⟨_, _, _, _, _, _, sm, _⟩
      exact sm.seqT hu
    · rintro i x σ H3 t hxi ⟨pb, r3, r4, r5, xs, rfl, sm, hR, pR, hpb⟩ ht
      have hi : i < L.length := by rw [l2]; exact (List.getElem?_eq_some_iff.mp hxi).1
      obtain ⟨pa, ea, fa⟩ := fu.at hi
      cases ea.symm.trans hxi
      have u := same_upd (o := .tup [.int i, .ref pa]) ht
      have et : SqT K (upd H3 t (.tup [.int i, .ref pa])) t [.int i, .ref pa] := SqT.of upd_same
      generalize upd H3 t (.tup [.int i, .ref pa]) = H4 at u et ⊢
      replace sm := sm.trans u
      replace hR := u _ _ hR
      replace pR := pR.same u
      replace hpb := hpb.same u
      have lR := pR.len
      obtain ⟨pf, ef, hf⟩ := pR.at (j := i) (by omega)
      walk_at "rd"
      refine ⟨_, et, rfl, _, _, rfl, _, _, rfl, rfl, ?_⟩
      walk_at "rd"
      have fin : ∀ r5 H5, Same H4 H5 → Pl K H5 r5 (Mt.rp L D (i + 1)) → ∃ x_4, H5 R = some (.lst x_4) ∧ x_4.length < sizeLine ∧ ∃ x_5, SqL K (upd H5 R (.lst (x_4 ++ [.ref r5]))) R x_5 ∧ ∃ x_6, atI x_5 (i : Int) = some x_6 ∧ ∃ pb, x_6 = V.ref pb ∧ Same H (upd H5 R (.lst (x_4 ++ [.ref r5]))) ∧ ∃ x_7, upd H5 R (.lst (x_4 ++ [.ref r5])) R = some (.lst x_7) ∧ Pls K (upd H5 R (.lst (x_4 ++ [.ref r5]))) ((List.range (i + 1 + 1)).map (Mt.rp L D)) x_7 ∧ Pl K (upd H5 R (.lst (x_4 ++ [.ref r5]))) pb (Mt.rp L D i) := by
        intro r5 H5 s5 h5
        have hR5 := s5 _ _ hR
        refine ⟨xs, hR5, small1000 (by omega), _, SqL.of upd_same, .ref pf, ?_, pf, rfl, (sm.trans s5).updL nR0, _, upd_same, Pls.more (Pls.updL hR5 (pR.same s5)) (Pl.updL hR5 h5), Pl.updL hR5 (hf.same s5)⟩
        exact atI_nat (by rw [List.getElem?_append_left (by omega)]; exact ef)
      have lf := Mt.rp_len L D i
      by_cases z : 0 < i
      · rw [if_pos z]
        rw [if_neg (by omega)] at hpb
        have lg := Mt.rp_len L D (i - 1)
        obtain ⟨pd, ed, qd⟩ := fv.at (j := i - 1) (by omega)
        have ad := atI_nat ed
        rw [show ((i - 1 : Nat) : Int) = (i : Int) - 1 by omega] at ad
        refine ⟨_, sm.seqT hw0, _, rfl, wb, rfl, vs, sm.seqT hv, _, ad, .inl ⟨rfl, _, SqL.of hR⟩, xs, SqL.of hR, _, atI_nat ef, pa, pf, pd, pb, _, _, _, _, rfl, fa.same sm, hf, qd.same sm, hpb, Mt.wg_cf ws.l i, Mt.wg_cf ws.d (i - 1), by omega, by omega, rp_ln ws (by omega), rp_ln ws (by omega), fun r5 H5 s5 h5 => fin r5 H5 s5 ?_⟩
        rw [rp_succ L D (by omega)]
        exact h5
      · rw [if_neg z]
        obtain rfl : i = 0 := by omega
        refine ⟨.inl ⟨rfl, _, SqL.of hR⟩, xs, SqL.of hR, _, atI_nat ef, pa, pf, C_NOUGHT, pb, _, 0, _, [], rfl, fa.same sm, hf, T.nought _, hpb, Mt.wg_cf ws.l 0, Mt.Lat.zero, by omega, by simp, rp_ln ws (by omega), Mt.Gp.nil.ln (n := 0) (by decide), fun r5 H5 s5 h5 => fin r5 H5 s5 h5⟩
    · rintro σ H3 ⟨pb, r3, r4, r5, xs, rfl, sm, hR, pR, hpb⟩
      refine hN _ _ ?_
      walk_at "rd"
      rw [← l2] at pR
      exact hq R H3 xs sm nR0 hR pR
abbrev s_ruled : Stmt := top 49
theorem sc_ruled : FnScope ["moments", "poly", "total", "n", "number"] ["moments", "poly"] (defScope s_ruled) := ⟨rfl, rfl, rfl, by decide +kernel, rfl, by decide +kernel, by decide +kernel⟩
theorem ok_ruled {f : Addr} {fd : FuncData} (F : Fun K "ruled" "ruled" s_ruled f fd) (m : mg "ruled" = some (.ref f)) (T : Tx w K mg C_HeightError C_NOUGHT C_NoFraction C_NoSeries C_NoWay C_NoWeights C_ONE C_RISES C_TooFar C_TooHigh C_TooMany) (c_degree_of : Callee P w K mg base 1 "degree_of" ["f"] (spDeg K)) (c_plus : Callee P w K mg base 2 "plus" ["a", "b"] (spBin K (fun a b => a + b))) (c_times : Callee P w K mg base 2 "times" ["a", "b"] (spBin K (fun a b => a * b))) : Callee P w K mg base 3 "ruled" ["moments", "poly"] (spRuledG K C_TooFar) := by
  refine ⟨f, fd, ?_, m, F.kp, F.binds fun _ _ _ _ _ _ us hl => match us, hl with | [_, _], _ => rfl⟩
  refine F.okX sc_ruled (fun vs H Q E h => ?_) (fun cdv A outer s H vs Q E hr h => ?_)
  · obtain ⟨_, _, _, _, _, rfl, _⟩ := h
    rfl
  · obtain ⟨m, p, xs, ms, f, rfl, hm, fm, hp, lf, wm, rf, rs, h0, h1⟩ := h
    refine ⟨_, (pss_cons (ps_if (pt_cmpR op_ge (pe_c c_degree_of (hr.mono (by decide)) pass_cx (pa_cons (pv 1) pa_nil)) (pe_callB call_len_seq (by rfl) T.b_len PySem.boot_len (pa_cons (pv 0) pa_nil)) (nomark _)) (pss_one (ps_raise raises_cx rfl rfl T.m_TooFar T.x_TooFar (pa_cons pe_str pa_nil))) pss_nil) (pss_cons (ps_set (i := 2) sc_ruled.nd rfl (Or.inl rfl) (pe_glob (v := .ref C_NOUGHT) rfl T.m_NOUGHT rfl)) (pss_cons (ps_forE rfl PassesOwn.leaving T.b_enumerate (pv 1) (pg_tup rfl (pgs_cons (pg_name (i := 3) sc_ruled.nd rfl (Or.inl rfl)) (pgs_cons (pg_name (i := 4) sc_ruled.nd rfl (Or.inl rfl)) pgs_nil))) (pss_one (ps_set (i := 2) sc_ruled.nd rfl (Or.inl rfl) (pe_c c_plus (hr.mono (by decide)) pass_cx (pa_cons (pv 2) (pa_cons (pe_c c_times (hr.mono (by decide)) pass_cx (pa_cons (pv 4) (pa_cons (pe_ix ix_list (pv 0) (pv 3) (fun _ _ => rfl)) pa_nil))) pa_nil)))))) (pss_one (ps_ret (pv 2)))))), ?_⟩
    obtain ⟨ys, hy, fy⟩ := id hp
    have l1 := fm.len
    have l2 := fy.len
    refine tSeq_step fun N hN => ?_
    walk_at "rd"
    refine ⟨p, f, rfl, hp, xs, .inl hm, _, rfl, ?_⟩
    split
    · rename_i z
      exact ⟨sz_le 1 (by decide), h0 (by omega)⟩
    rename_i z
    have hl : f.length ≤ ms.length := by omega
    refine hN _ _ ?_
    clear hN N
    refine tSeq_step fun N hN => ?_
    walk_at "rd"
    refine hN _ _ ?_
    clear hN N
    refine tSeq_step fun N hN => ?_
    walk_at "rd"
    refine ⟨ys, hy, fun i σ H' => ∃ r3 r4 rt, σ = [some (.ref m), some (.ref p), some (.ref rt), r3, r4] ∧ Same H H' ∧ Fq K H' rt (Mt.Su (fun n => Mt.cf f n * Mt.cf ms n) i), ⟨none, none, _, rfl, Same.refl _, T.nought _⟩, ?_, ?_, ?_⟩
    · rintro i σ H' _ ⟨_, _, _, _, sm, _⟩
      exact sm.seqT hy
    · rintro i x σ H1 t hxi ⟨r3, r4, rt, rfl, sm, qt⟩ ht
      have hi : i < f.length := by rw [l2]; exact (List.getElem?_eq_some_iff.mp hxi).1
      obtain ⟨pa, ea, fa⟩ := fy.at hi
      cases ea.symm.trans hxi
      obtain ⟨pb, eb, fb⟩ := fm.at (j := i) (by omega)
      have u := same_upd (o := .tup [.int i, .ref pa]) ht
      have et : SqT K (upd H1 t (.tup [.int i, .ref pa])) t [.int i, .ref pa] := SqT.of upd_same
      generalize upd H1 t (.tup [.int i, .ref pa]) = H2 at u et ⊢
      have sm2 := sm.trans u
      walk_at "rd"
      refine ⟨_, et, rfl, _, _, rfl, _, _, rfl, rfl, ?_⟩
      walk_at "rd"
      refine ⟨xs, sm2.seq hm, _, atI_nat eb, pa, pb, _, _, rfl, fa.same sm2, fb.same sm2, (rf i).mono (by decide), (wm i).mono (by decide), fun r1 H3 s3 n3 h3 => ?_⟩
      refine ⟨rt, r1, _, _, rfl, (qt.same u).same s3, Fq.of h3, (rs i (by omega)).mono (by decide), ((rf i).mul (wm i)).mono (by decide), fun r2 H4 s4 n4 h4 => ?_⟩
      exact ⟨_, _, r2, ⟨rfl, rfl, rfl⟩, (sm2.trans s3).trans s4, Fq.of h4⟩
    · rintro σ H1 ⟨r3, r4, rt, rfl, sm, qt⟩
      refine hN _ _ ?_
      walk_at "rd"
      rw [← l2] at qt
      exact h1 hl rt H1 sm qt
abbrev s_in_row : Stmt := top 50
theorem sc_in_row : FnScope ["weights", "poly", "numbers", "rest", "one", "number"] ["weights", "poly"] (defScope s_in_row) := ⟨rfl, rfl, rfl, by decide +kernel, rfl, by decide +kernel, by decide +kernel⟩
theorem ok_in_row {f : Addr} {fd : FuncData} (F : Fun K "in_row" "in_row" s_in_row f fd) (m : mg "in_row" = some (.ref f)) (T : Tx w K mg C_HeightError C_NOUGHT C_NoFraction C_NoSeries C_NoWay C_NoWeights C_ONE C_RISES C_TooFar C_TooHigh C_TooMany) (c_degree_of : Callee P w K mg base 1 "degree_of" ["f"] (spDeg K)) (c_height_of : Callee P w K mg base 1 "height_of" ["weights"] (spHof K)) (c_number_at : Callee P w K mg base 1 "number_at" ["f", "power"] (spNumAt K)) (c_poly_minus : Callee P w K mg base 4 "poly_minus" ["f", "g"] (spPP K Mt.psub)) (c_poly_scaled : Callee P w K mg base 3 "poly_scaled" ["f", "a"] (spScaled K)) (c_row_of : Callee P w K mg base 6 "row_of" ["weights"] (spRowOf K)) : Callee P w K mg base 7 "in_row" ["weights", "poly"] (spInRow K C_TooFar) := by
  refine ⟨f, fd, ?_, m, F.kp, F.binds fun _ _ _ _ _ _ us hl => match us, hl with | [_, _], _ => rfl⟩
  refine F.okX sc_in_row (fun vs H Q E h => ?_) (fun cdv A outer s H vs Q E hr h => ?_)
  · obtain ⟨_, _, _, _, _, rfl, _⟩ := h
    rfl
  · obtain ⟨w, p, L, D, f, rfl, hw, ws, hp, h0, h1⟩ := h
    refine ⟨_, (pss_cons (ps_if (pt_cmpR op_gt (pe_c c_degree_of (hr.mono (by decide)) pass_cx (pa_cons (pv 1) pa_nil)) (pe_op op_add (pe_c c_height_of (hr.mono (by decide)) pass_cx (pa_cons (pv 0) pa_nil)) pe_int) (nomark _)) (pss_one (ps_raise raises_cx rfl rfl T.m_TooFar T.x_TooFar (pa_cons pe_str pa_nil))) pss_nil) (pss_cons (ps_set (i := 2) sc_in_row.nd rfl (Or.inl rfl) (pe_lst pa_nil)) (pss_cons (ps_set (i := 3) sc_in_row.nd rfl (Or.inl rfl) (pv 1)) (pss_cons (ps_forVL rfl PassesOwn.leaving T.b_reversed (pe_c c_row_of (hr.mono (by decide)) pass_cx (pa_cons (pv 0) pa_nil)) (pg_name (i := 4) sc_in_row.nd rfl (Or.inl rfl)) (pss_cons (ps_set (i := 5) sc_in_row.nd rfl (Or.inl rfl) (pe_c c_number_at (hr.mono (by decide)) pass_cx (pa_cons (pv 3) (pa_cons (pe_c c_degree_of (hr.mono (by decide)) pass_cx (pa_cons (pv 4) pa_nil)) pa_nil)))) (pss_cons (ps_expr (pe_bm PySem.F.plainAttrs_list PySem.F.slot_list_append PySem.F.type_list_append mt_append (pv 2) (pa_cons (pv 5) pa_nil))) (pss_one (ps_set (i := 3) sc_in_row.nd rfl (Or.inl rfl) (pe_c c_poly_minus (hr.mono (by decide)) pass_cx (pa_cons (pv 3) (pa_cons (pe_c c_poly_scaled (hr.mono (by decide)) pass_cx (pa_cons (pv 4) (pa_cons (pv 5) pa_nil))) pa_nil)))))))) (pss_one (ps_ret (pe_listRev rfl T.b_list T.b_reversed (pv 2)))))))), ?_⟩
    have wn := ws.n
    have wm := ws.m
    refine tSeq_step fun N hN => ?_
    walk_at "rd"
    refine ⟨p, f, rfl, hp, w, L, D, rfl, hw, _, rfl, _, rfl, ?_⟩
    split
    · rename_i z
      exact ⟨sz_le 1 (by decide), h0 (by omega)⟩
    rename_i z
    obtain ⟨nz, gp, hq⟩ := h1 (by omega)
    refine hN _ _ ?_
    clear hN N
    refine tSeq_step fun N hN => ?_
    walk_at "rd"
    refine fun N0 nN => hN _ _ ?_
    clear hN N
    have uN := same_upd (o := .lst []) nN
    have hN0 : upd H N0 (.lst []) N0 = some (.lst []) := upd_same
    generalize upd H N0 (.lst []) = H1 at uN hN0 ⊢
    refine tSeq_step fun N hN => ?_
    walk_at "rd"
    refine hN _ _ ?_
    clear hN N
    refine tSeq_step fun N hN => ?_
    walk_at "rd"
    refine ⟨w, L, D, rfl, hw.same uN, ws, fun RO H2 rs s2 nR hRO pRO => ?_⟩
    have lR := pRO.len
    have neR : N0 ≠ RO := ne_of_none hN0 nR
    refine ⟨RO, rfl, rs, SqL.of hRO, fun i σ H' => ∃ (rr : Addr) (r4 r5 : Option V) (zs : List V), σ = [some (.ref w), some (.ref p), some (.ref N0), some (.ref rr), r4, r5] ∧ Same H H' ∧ H' RO = some (.lst rs) ∧ Pls K H' ((List.range (L.length + 1)).map (Mt.rp L D)) rs ∧ H' N0 = some (.lst zs) ∧ Frs K H' ((List.range i).map fun j => Mt.nb L D (D.length + 1) f (D.length + 1 - j)) zs ∧ Pl K H' rr (Mt.dn L D (D.length + 1) f i), ⟨p, none, none, [], rfl, uN.trans s2, hRO, pRO, s2 _ _ hN0, Frs.nil, hp.same (uN.trans s2)⟩, ?_, ?_, ?_⟩
    · rintro i σ H' _ ⟨_, _, _, _, _, _, hRO, _⟩
      exact SqL.of hRO
    · rintro i x σ H3 hxi ⟨rr, r4, r5, zs, rfl, sm, hRO, pRO, hZ, fZ, pr⟩
      have hi : i < rs.length := by have := (List.getElem?_eq_some_iff.mp hxi).1; simpa using this
      rw [List.getElem?_reverse hi] at hxi
      obtain ⟨po, eo, ho⟩ := pRO.at (j := D.length + 1 - i) (by omega)
      rw [show rs.length - 1 - i = D.length + 1 - i by omega] at hxi
      cases eo.symm.trans hxi
      have lz := fZ.len
      simp only [List.length_map, List.length_range] at lz
      have lr := Mt.rp_len L D (D.length + 1 - i)
      have ldn := Mt.dn_len (L := L) (D := D) (T := D.length + 1) nz (by omega) i (by omega)
      refine tSeq_step fun N hN => ?_
      walk_at "rd"
      have dr : Sz 321 (Mt.cf (Mt.rp L D (D.length + 1 - i)) 0) := (Ln.sz (rp_ln ws (by omega)) 0)
      refine ⟨po, _, rfl, ho, rr, _, D.length + 1 - i, by simp [lr], pr, fun r qr => hN _ _ ?_⟩
      clear hN N
      have sn : Sz 1700 (Mt.cf (Mt.dn L D (D.length + 1) f i) (D.length + 1 - i)) := dn_sz ws gp (by omega) _
      refine tSeq_step fun N hN => ?_
      walk_at "rd"
      refine ⟨.inl ⟨rfl, _, SqL.of hZ⟩, zs, hZ, small1000 (by omega), hN _ _ ?_⟩
      clear hN N
      have s4 : Same H (upd H3 N0 (.lst (zs ++ [.ref r]))) := sm.updL nN
      have hRO4 : upd H3 N0 (.lst (zs ++ [.ref r])) RO = some (.lst rs) := by rw [upd_ne (Ne.symm neR)]; exact hRO
      have pRO4 : Pls K (upd H3 N0 (.lst (zs ++ [.ref r]))) ((List.range (L.length + 1)).map (Mt.rp L D)) rs := Pls.updL hZ pRO
      have ho4 : Pl K (upd H3 N0 (.lst (zs ++ [.ref r]))) po (Mt.rp L D (D.length + 1 - i)) := Pl.updL hZ ho
      have pr4 : Pl K (upd H3 N0 (.lst (zs ++ [.ref r]))) rr (Mt.dn L D (D.length + 1) f i) := Pl.updL hZ pr
      have qr4 : Fq K (upd H3 N0 (.lst (zs ++ [.ref r]))) r (Mt.cf (Mt.dn L D (D.length + 1) f i) (D.length + 1 - i)) := SqT.updL hZ qr
      have hZ4 : upd H3 N0 (.lst (zs ++ [.ref r])) N0 = some (.lst (zs ++ [.ref r])) := upd_same
      have fZ4 : Frs K (upd H3 N0 (.lst (zs ++ [.ref r]))) ((List.range (i + 1)).map fun j => Mt.nb L D (D.length + 1) f (D.length + 1 - j)) (zs ++ [.ref r]) := by
        rw [List.range_succ, List.map_append]
        refine Frs.snoc (Frs.updL hZ fZ) ?_
        show Fq K _ r (Mt.nb L D (D.length + 1) f (D.length + 1 - i))
        rw [Mt.nb, show D.length + 1 - (D.length + 1 - i) = i by omega]
        exact qr4
      generalize upd H3 N0 (.lst (zs ++ [.ref r])) = H4 at s4 hRO4 pRO4 ho4 pr4 qr4 hZ4 fZ4 ⊢
      walk_at "rd"
      refine ⟨po, r, _, _, rfl, ho4, qr4, by omega, fun n => (Ln.sz (rp_ln ws (by omega)) n).mono (by decide), sn.mono (by decide), fun r2 H5 s5 h5 => ?_⟩
      refine ⟨rr, r2, _, _, rfl, pr4.same s5, h5, by omega, Nat.le_trans (Mt.trim_len _) (by simp; omega), fun n => (dn_sz ws gp (by omega) n).mono (by decide), fun n => ?_, fun r3 H6 s6 h6 => ?_⟩
      · rw [Mt.cf_pscale]
        exact ((Ln.sz (rp_ln ws (by omega)) n).mul sn).mono (by decide)
      have v6 := s5.trans s6
      exact ⟨r3, rfl, s4.trans v6, v6 _ _ hRO4, pRO4.same v6, _, v6 _ _ hZ4, fZ4.same v6, h6⟩
    · rintro σ H3 ⟨rr, r4, r5, zs, rfl, sm, hRO, pRO, hZ, fZ, pr⟩
      refine hN _ _ ?_
      clear hN N
      walk_at "rd"
      refine ⟨zs, .inr (SqL.of hZ), fun l nl => hq l _ _ (sm.trans (same_upd nl)) (sm.free nl) upd_same ?_⟩
      rw [List.length_reverse, show rs.length = D.length + 1 + 1 by omega] at fZ
      have := Frs.reverse (fZ.same (same_upd (o := .lst zs.reverse) nl))
      rw [rev_map (Mt.nb L D (D.length + 1) f) (D.length + 1)] at this
      exact this
abbrev s_check_reach : Stmt := top 52
theorem sc_check_reach : FnScope ["weights", "length", "first", "last", "below", "k", "kept_low"] ["weights", "length", "first", "last", "below"] (defScope s_check_reach) := ⟨rfl, rfl, rfl, by decide +kernel, rfl, by decide +kernel, by decide +kernel⟩
theorem ok_check_reach {f : Addr} {fd : FuncData} (F : Fun K "check_reach" "check_reach" s_check_reach f fd) (m : mg "check_reach" = some (.ref f)) (T : Tx w K mg C_HeightError C_NOUGHT C_NoFraction C_NoSeries C_NoWay C_NoWeights C_ONE C_RISES C_TooFar C_TooHigh C_TooMany) (c_height_of : Callee P w K mg base 1 "height_of" ["weights"] (spHof K)) : Callee P w K mg base 2 "check_reach" ["weights", "length", "first", "last", "below"] (spReach K C_TooFar) := by
  refine ⟨f, fd, ?_, m, F.kp, F.binds fun _ _ _ _ _ _ us hl => match us, hl with | [_, _, _, _, _], _ => rfl⟩
  refine F.okX sc_check_reach (fun vs H Q E h => ?_) (fun cdv A outer s H vs Q E hr h => ?_)
  · obtain ⟨_, _, _, _, _, _, _, rfl, _⟩ := h
    rfl
  · obtain ⟨w, L, D, n, i, j, bl, rfl, hw, hb, h0, h1⟩ := h
    refine ⟨_, (pss_cons (ps_set (i := 5) sc_check_reach.nd rfl (Or.inl rfl) (pe_c c_height_of (hr.mono (by decide)) pass_cx (pa_cons (pv 0) pa_nil))) (pss_cons (ps_set (i := 6) sc_check_reach.nd rfl (Or.inl rfl) (pe_and (pe_cmpR op_notN (pv 4) pe_non (nomark _)) (pe_one (pe_cmpR op_le (pv 4) (pe_op op_add (pv 5) pe_int) (nomark _))))) (pss_one (ps_if (PW.pt (pw_and (pt_not (pt_val (pv 6))) (pw_and1 (pt_cmpR op_gt (pe_op op_add (pe_op op_add (pv 1) (pv 2)) (pv 3)) (pe_op op_add (pe_op op_mul pe_int (pv 5)) pe_int) (nomark _))))) (pss_one (ps_raise raises_cx rfl rfl T.m_TooFar T.x_TooFar (pa_cons pe_str pa_nil))) pss_nil)))), ?_⟩
    refine tSeq_step fun N hN => ?_
    walk_at "rd"
    refine ⟨w, L, D, rfl, hw, hN _ _ ?_⟩
    clear hN N
    refine tSeq_step fun N hN => ?_
    have fin : N [some (.ref w), some (.int n), some (.int i), some (.int j), some bl, some (.int D.length), some (.bl (lowOf D.length bl))] H := by
      refine hN _ _ ?_
      unfold tooFar at h0 h1
      cases z : lowOf D.length bl
      · rw [z] at h0 h1
        walk_at "rd"
        refine ⟨.inl ⟨by decide, by decide⟩, ?_⟩
        split
        · rename_i y
          exact ⟨sz_le 1 (by decide), h0 (by simp; omega)⟩
        · rename_i y
          exact h1 (by simp; omega)
      · rw [z] at h0 h1
        walk_at "rd"
        exact h1 rfl
    clear hN
    rcases hb with rfl | ⟨b, rfl⟩
    · walk_at "rd"
      exact fin
    · walk_at "rd"
      simpa [lowOf] using fin
abbrev s_sum_listed : Stmt := top 53
theorem sc_sum_listed : FnScope ["weights", "length", "first", "last", "below", "total", "way"] ["weights", "length", "first", "last", "below"] (defScope s_sum_listed) := ⟨rfl, rfl, rfl, by decide +kernel, rfl, by decide +kernel, by decide +kernel⟩
theorem ok_sum_listed {f : Addr} {fd : FuncData} (F : FunD K "sum_listed" "sum_listed" s_sum_listed [.int 0, .int 0, .non] f fd) (m : mg "sum_listed" = some (.ref f)) (T : Tx w K mg C_HeightError C_NOUGHT C_NoFraction C_NoSeries C_NoWay C_NoWeights C_ONE C_RISES C_TooFar C_TooHigh C_TooMany) (c_check_reach : Callee P w K mg base 2 "check_reach" ["weights", "length", "first", "last", "below"] (spReach K C_TooFar)) (c_plus : Callee P w K mg base 2 "plus" ["a", "b"] (spBin K (fun a b => a + b))) (c_ways_listed : CalleeD P w K mg base 5 "ways_listed" ["length", "first", "last", "below"] [.int 0, .int 0, .non] (spListed K C_TooMany)) (c_weight_of : CalleeD P w K mg base 4 "weight_of" ["weights", "way", "first"] [.int 0] (spWow K C_NoWay C_TooHigh)) : CalleeD P w K mg base 6 "sum_listed" ["weights", "length", "first", "last", "below"] [.int 0, .int 0, .non] (spSumL K C_TooFar C_TooMany) := by
  refine F.callee m ?_ ?_
  rotate_left
  · intro i hi T kV doc pm an cdv ct items us hl hz
    obtain ⟨l⟩ := items
    have hl2 : l.length = 3 := hl
    have hi2 : i ≤ 3 := hi
    have hz2 : us.length = 2 + i := by simp at hz; omega
    clear hz hl hi
    match l, hl2 with
    | [_, _, _], _ =>
      rcases (show i = 0 ∨ i = 1 ∨ i = 2 ∨ i = 3 by omega) with rfl | rfl | rfl | rfl
      · match us, hz2 with | [_, _], _ => exact ⟨_, rfl, rfl⟩
      · match us, hz2 with | [_, _, _], _ => exact ⟨_, rfl, rfl⟩
      · match us, hz2 with | [_, _, _, _], _ => exact ⟨_, rfl, rfl⟩
      · match us, hz2 with | [_, _, _, _, _], _ => exact ⟨_, rfl, rfl⟩
  refine F.okX sc_sum_listed (fun vs H Q E h => ?_) (fun cdv A outer s H vs Q E hr h => ?_)
  · obtain ⟨_, _, _, _, _, _, _, rfl, _⟩ := h
    rfl
  · obtain ⟨w, L, D, n, i, j, bl, rfl, hw, ws, hb, hn, hi8, hj8, hno, hmany, hok⟩ := h
    refine ⟨_, (pss_cons (ps_expr (pe_c c_check_reach (hr.mono (by decide)) pass_cx (pa_cons (pv 0) (pa_cons (pv 1) (pa_cons (pv 2) (pa_cons (pv 3) (pa_cons (pv 4) pa_nil))))))) (pss_cons (ps_set (i := 5) sc_sum_listed.nd rfl (Or.inl rfl) (pe_glob (v := .ref C_NOUGHT) rfl T.m_NOUGHT rfl)) (pss_cons (ps_forL rfl PassesOwn.leaving (pe_cD 3 c_ways_listed (hr.mono (by decide)) pass_cx (pa_cons (pv 1) (pa_cons (pv 2) (pa_cons (pv 3) (pa_cons (pv 4) pa_nil))))) (pg_name (i := 6) sc_sum_listed.nd rfl (Or.inl rfl)) (pss_one (ps_set (i := 5) sc_sum_listed.nd rfl (Or.inl rfl) (pe_c c_plus (hr.mono (by decide)) pass_cx (pa_cons (pv 5) (pa_cons (pe_cD 1 c_weight_of (hr.mono (by decide)) pass_cx (pa_cons (pv 0) (pa_cons (pv 6) (pa_cons (pv 2) pa_nil)))) pa_nil)))))) (pss_one (ps_ret (pv 5)))))), ?_⟩
    refine tSeq_step fun N hN => ?_
    walk_at "rd"
    refine ⟨w, L, D, n, i, j, bl, rfl, hw, hb, (fun z => hno z _ (Same.refl _)), fun ok => hN _ _ ?_⟩
    clear hN N
    refine tSeq_step fun N hN => ?_
    walk_at "rd"
    refine hN _ _ ?_
    clear hN N
    refine tSeq_step fun N hN => ?_
    walk_at "rd"
    have c0 := cnt_nn (bO bl) j n i
    refine ⟨n, i, j, bO bl, by rw [bV_bO hb], by omega, by omega, fun big H1 s1 => hmany ok big H1 s1, fun sm G H1 s1 nG hG => ⟨G, rfl, _, SqL.of hG, ?_⟩⟩
    have lw : (wl (bO bl) j n i).length = (cnt (bO bl) j n i).toNat := by simp [wl]
    have wi_at : ∀ r : Nat, r < (cnt (bO bl) j n i).toNat → (wl (bO bl) j n i)[r]? = some (.str ⟨(ur (bO bl) j n i r).toArray⟩) := fun r hr => by simp [wl, hr]
    refine ⟨fun r σ H' => ∃ (p : Addr) (r6 : Option V), σ = [some (V.ref w), some (V.int n), some (V.int i), some (V.int j), some bl, some (V.ref p), r6] ∧ Same H1 H' ∧ Fq K H' p (Mt.Su (fun r => wtL (Mt.cf L) (Mt.cf D) (ur (bO bl) j n i r) i) r), ⟨_, none, rfl, Same.refl _, T.nought _⟩, fun r σ H' _ ⟨_, _, _, s2, _⟩ => SqL.of (s2 _ _ hG), ?_, ?_⟩
    · rintro r x σ H2 hx ⟨p, r6, rfl, s2, fp⟩
      have hr : r < (cnt (bO bl) j n i).toNat := by
        have := (List.getElem?_eq_some_iff.mp hx).1
        rw [lw] at this; exact this
      rw [wi_at r hr] at hx
      obtain rfl := Option.some.inj hx
      have okw := ur_ok (bO bl) j n i r (by omega) (by omega)
      have ul := ur_len (bO bl) j n i r
      have ok2 : okW (bO bl) j (⟨(ur (bO bl) j n i r).toArray⟩ : Str).cps.toList i := by simpa using okw
      have lc : (⟨(ur (bO bl) j n i r).toArray⟩ : Str).cps.size = n := by simp [ul]
      have all : ∀ t, t ≤ n → ht ⟨(ur (bO bl) j n i r).toArray⟩ i t = some (hgt (ur (bO bl) j n i r) i t) := fun t ht => by
        have := okW_htG t _ ok2 (by omega)
        simpa using this
      have ax : asc ⟨(ur (bO bl) j n i r).toArray⟩ := by
        rw [asc_iff]
        intro c hc
        rcases okW_mem ok2 c hc with rfl | rfl | rfl <;> decide
      have pw1 := pw_wtL (L := L) (D := D) _ ok2 n (by omega)
      rw [List.drop_eq_nil_of_le (by simp [ul])] at pw1
      have pw1 : pw L D ⟨(ur (bO bl) j n i r).toArray⟩ i n = wtL (Mt.cf L) (Mt.cf D) (ur (bO bl) j n i r) i := by
        rw [show wtL (Mt.cf L) (Mt.cf D) [] (hgt (⟨(ur (bO bl) j n i r).toArray⟩ : Str).cps.toList i n) = 1 from rfl, Rat.mul_one] at pw1
        simpa using pw1
      have nh := nohi hb ok okw ul
      walk_at "rd"
      refine ⟨w, L, D, _, i, rfl, hw.same (s1.trans s2), ws, by omega, by omega, by omega, ax, ?_, ?_, ?_⟩
      · intro k hk _ hn2
        rw [all (k + 1) (by omega)] at hn2
        cases hn2
      · intro _ t ht _ hh
        have := hh.2
        rw [all t (by omega)] at this
        have := nh t (by omega)
        simp at *
        omega
      · intro _ _ q H3 s3 fq
        rw [lc, pw1] at fq
        refine ⟨p, q, _, _, rfl, fp.same s3, fq, ?_, ?_, fun u H4 s4 _ h4 => ?_⟩
        · exact (suL_sz ws hn (by omega)).mono (by decide)
        · have g := wtL_gd ws (ur (bO bl) j n i r) i
          rw [ul] at g
          exact (gd_sz g (by omega)).mono (by decide)
        · exact ⟨u, rfl, s2.trans (s3.trans s4), Fq.of h4⟩
    · rintro σ H2 ⟨p, r6, rfl, s2, fp⟩
      rw [lw, sum_ur, ws_bd hb ok] at fp
      refine hN _ _ ?_
      clear hN N
      walk_at "rd"
      exact hok ok sm p H2 (s1.trans s2) fp
abbrev s_one_step_on : Stmt := top 54
theorem sc_one_step_on : FnScope ["weights", "sums", "after", "height", "total"] ["weights", "sums"] (defScope s_one_step_on) := ⟨rfl, rfl, rfl, by decide +kernel, rfl, by decide +kernel, by decide +kernel⟩
theorem ok_one_step_on {f : Addr} {fd : FuncData} (F : Fun K "one_step_on" "one_step_on" s_one_step_on f fd) (m : mg "one_step_on" = some (.ref f)) (T : Tx w K mg C_HeightError C_NOUGHT C_NoFraction C_NoSeries C_NoWay C_NoWeights C_ONE C_RISES C_TooFar C_TooHigh C_TooMany) (c_plus : Callee P w K mg base 2 "plus" ["a", "b"] (spBin K (fun a b => a + b))) (c_times : Callee P w K mg base 2 "times" ["a", "b"] (spBin K (fun a b => a * b))) : Callee P w K mg base 3 "one_step_on" ["weights", "sums"] (spStepOn K) := by
  refine ⟨f, fd, ?_, m, F.kp, F.binds fun _ _ _ _ _ _ us hl => match us, hl with | [_, _], _ => rfl⟩
  refine F.okE sc_one_step_on (fun vs H Q E h => ?_) (fun cdv A outer s H vs Q E hr h => ?_)
  · obtain ⟨_, _, _, _, _, _, rfl, _⟩ := h
    rfl
  · obtain ⟨pw, ps, L, D, f, xs, rfl, hw, hs, hf, t1, t2, t3, sf, sL, sD, hq⟩ := h
    refine ⟨_, (pss_cons (ps_set (i := 2) sc_one_step_on.nd rfl (Or.inl rfl) (pe_lst pa_nil)) (pss_cons (ps_forR rfl PassesOwn.never T.b_range (pe_callB call_len_seq (by rfl) T.b_len PySem.boot_len (pa_cons (pv 1) pa_nil)) (pg_name (i := 3) sc_one_step_on.nd rfl (Or.inl rfl)) (pss_cons (ps_set (i := 4) sc_one_step_on.nd rfl (Or.inl rfl) (pe_c c_times (hr.mono (by decide)) np (pa_cons (pe_ix ix_list (pv 1) (pv 3) (fun _ _ => rfl)) (pa_cons (pe_ix ix_tup (pe_ix ix_tup (pv 0) pe_int (fun _ _ => rfl)) (pv 3) (fun _ _ => rfl)) pa_nil)))) (pss_cons (ps_if (pt_cmpR op_gt (pv 3) pe_int (nomark _)) (pss_one (ps_set (i := 4) sc_one_step_on.nd rfl (Or.inl rfl) (pe_c c_plus (hr.mono (by decide)) np (pa_cons (pv 4) (pa_cons (pe_ix ix_list (pv 1) (pe_op op_sub (pv 3) pe_int) (fun _ _ => rfl)) pa_nil))))) pss_nil) (pss_cons (ps_if (pt_cmpR op_lt (pe_op op_add (pv 3) pe_int) (pe_callB call_len_seq (by rfl) T.b_len PySem.boot_len (pa_cons (pv 1) pa_nil)) (nomark _)) (pss_one (ps_set (i := 4) sc_one_step_on.nd rfl (Or.inl rfl) (pe_c c_plus (hr.mono (by decide)) np (pa_cons (pv 4) (pa_cons (pe_c c_times (hr.mono (by decide)) np (pa_cons (pe_ix ix_list (pv 1) (pe_op op_add (pv 3) pe_int) (fun _ _ => rfl)) (pa_cons (pe_ix ix_tup (pe_ix ix_tup (pv 0) pe_int (fun _ _ => rfl)) (pv 3) (fun _ _ => rfl)) pa_nil))) pa_nil))))) pss_nil) (pss_one (ps_expr (pe_bm PySem.F.plainAttrs_list PySem.F.slot_list_append PySem.F.type_list_append mt_append (pv 2) (pa_cons (pv 4) pa_nil)))))))) (pss_one (ps_ret (pv 2))))), ?_⟩
    obtain ⟨wa, wb, hw0, ⟨us, hu, fu⟩, ⟨vs, hv, fv⟩⟩ := id hw
    have l1 := hf.len
    have l2 := fu.len
    have l3 := fv.len
    refine tSeq_step fun N hN => ?_
    walk_at "rd"
    refine fun A nA => hN _ _ ?_
    clear hN N
    have sA := same_upd (o := .lst []) nA
    refine tSeq_step fun N hN => ?_
    walk_at "rd"
    refine ⟨xs, .inl (SqL.of (sA _ _ hs)), by omega, fun i σ H' => ∃ r3 r4 ys, σ = [some (.ref pw), some (.ref ps), some (.ref A), r3, r4] ∧ Same H H' ∧ H' A = some (.lst ys) ∧ Frs K H' ((List.range i).map fun h => Mt.wk (Mt.cf L) (Mt.cf D) (Mt.cf f) f.length h) ys, ⟨none, none, [], rfl, sA, upd_same, Frs.nil⟩, ?_, ?_⟩
    · rintro i σ H1 hi ⟨r3, r4, ys, rfl, sm, hA, fy⟩
      have ly := fy.len
      simp only [List.length_map, List.length_range] at ly
      have hi2 : i < f.length := by omega
      obtain ⟨p1, e1, q1⟩ := hf.at hi2
      obtain ⟨p2, e2, q2⟩ := fu.at (j := i) (by omega)
      have a1 := atI_nat e1
      have a2 := atI_nat e2
      refine tSeq_step fun N hN => ?_
      walk_at "rd"
      refine ⟨xs, SqL.of (sm _ _ hs), _, a1, _, sm.seqT hw0, _, rfl, wa, rfl, us, sm.seqT hu, _, a2, p1, p2, _, _, rfl, q1.same sm, q2.same sm, (sf i).mono (by decide), (sL i).mono (by decide), fun p3 H3 s3 n3 h3 => hN _ _ ?_⟩
      clear hN N
      have t3' := sm.trans s3
      have z1 : Sz 2600 (Mt.cf f i * Mt.cf L i) := (sf i).mul (sL i)
      refine tSeq_step fun N hN => ?_
      have second : ∀ r x H4, Same H3 H4 → Fq K H4 r x → Sz 3901 x → x = Mt.cf f i * Mt.cf L i + (if 0 < i then Mt.cf f (i - 1) else 0) → N [some (.ref pw), some (.ref ps), some (.ref A), some (.int i), some (.ref r)] H4 := by
        intro r x H4 s4 hr4 zx ex
        refine hN _ _ ?_
        clear hN N
        have t4 := t3'.trans s4
        refine tSeq_step fun N hN => ?_
        have third : ∀ r x H5, Same H4 H5 → Fq K H5 r x → x = Mt.wk (Mt.cf L) (Mt.cf D) (Mt.cf f) f.length i → N [some (.ref pw), some (.ref ps), some (.ref A), some (.int i), some (.ref r)] H5 := by
          intro r x H5 s5 hr5 ex
          refine hN _ _ ?_
          clear hN N
          have hA5 := s5 _ _ (s4 _ _ (s3 _ _ hA))
          walk_at "rd"
          refine ⟨.inl ⟨rfl, _, SqL.of hA5⟩, _, hA5, small1000 (by omega), (t4.trans s5).updL nA, _, upd_same, ?_⟩
          rw [List.range_succ, List.map_append]
          refine Frs.snoc (Frs.updL hA5 (((fy.same s3).same s4).same s5)) (SqT.updL hA5 ?_)
          subst ex
          exact hr5
        clear hN
        walk_at "rd"
        refine ⟨xs, .inl (SqL.of (t4 _ _ hs)), ?_⟩
        split
        · rename_i y
          obtain ⟨p5, e5, q5⟩ := hf.at (j := i + 1) (by omega)
          obtain ⟨p6, e6, q6⟩ := fv.at (j := i) (by omega)
          have a5 := atI_nat e5
          have a6 := atI_nat e6
          refine ⟨xs, SqL.of (t4 _ _ hs), _, a5, _, t4.seqT hw0, _, rfl, wb, rfl, vs, t4.seqT hv, _, a6, p5, p6, _, _, rfl, q5.same t4, q6.same t4, (sf _).mono (by decide), (sD _).mono (by decide), fun p7 H7 s7 n7 h7 => ?_⟩
          refine ⟨r, p7, x, _, rfl, hr4.same s7, Fq.of h7, zx.mono (by decide), ((sf _).mul (sD _)).mono (by decide), fun p8 H8 s8 n8 h8 => third p8 _ H8 (s7.trans s8) (Fq.of h8) ?_⟩
          rw [ex]
          unfold Mt.wk
          rw [if_pos (show i + 1 < f.length by omega)]
        · rename_i y
          refine third r x H4 (Same.refl _) hr4 ?_
          rw [ex]
          unfold Mt.wk
          rw [if_neg (show ¬ i + 1 < f.length by omega)]
          grind
      clear hN
      walk_at "rd"
      split
      · rename_i y
        obtain ⟨p5, e5, q5⟩ := hf.at (j := i - 1) (by omega)
        have a5 := atI_nat e5
        rw [show ((i - 1 : Nat) : Int) = (i : Int) - 1 by omega] at a5
        refine ⟨xs, SqL.of (t3' _ _ hs), _, a5, p3, p5, _, _, rfl, Fq.of h3, q5.same t3', z1.mono (by decide), (sf _).mono (by decide), fun p6 H6 s6 n6 h6 => second p6 _ H6 s6 (Fq.of h6) (z1.add (sf _)) ?_⟩
        rw [if_pos (by omega)]
      · rename_i y
        refine second p3 _ H3 (Same.refl _) (Fq.of h3) (z1.mono (by decide)) ?_
        rw [if_neg (by omega)]
        grind
    · rintro σ H1 ⟨r3, r4, ys, rfl, sm, hA, fy⟩
      refine hN _ _ ?_
      walk_at "rd"
      rw [← l1] at fy
      exact hq A H1 ys sm nA hA fy
abbrev s_sum_stepped : Stmt := top 55
theorem sc_sum_stepped : FnScope ["weights", "length", "first", "last", "below", "bound", "sums", "step"] ["weights", "length", "first", "last", "below"] (defScope s_sum_stepped) := ⟨rfl, rfl, rfl, by decide +kernel, rfl, by decide +kernel, by decide +kernel⟩
theorem ok_sum_stepped {f : Addr} {fd : FuncData} (F : FunD K "sum_stepped" "sum_stepped" s_sum_stepped [.int 0, .int 0, .non] f fd) (m : mg "sum_stepped" = some (.ref f)) (T : Tx w K mg C_HeightError C_NOUGHT C_NoFraction C_NoSeries C_NoWay C_NoWeights C_ONE C_RISES C_TooFar C_TooHigh C_TooMany) (c_check_reach : Callee P w K mg base 2 "check_reach" ["weights", "length", "first", "last", "below"] (spReach K C_TooFar)) (c_height_of : Callee P w K mg base 1 "height_of" ["weights"] (spHof K)) (c_one_step_on : Callee P w K mg base 3 "one_step_on" ["weights", "sums"] (spStepOn K)) : CalleeD P w K mg base 4 "sum_stepped" ["weights", "length", "first", "last", "below"] [.int 0, .int 0, .non] (spStepped K) := by
  refine F.callee m ?_ ?_
  rotate_left
  · intro i hi T kV doc pm an cdv ct items us hl hz
    obtain ⟨l⟩ := items
    have hl2 : l.length = 3 := hl
    have hi2 : i ≤ 3 := hi
    have hz2 : us.length = 2 + i := by simp at hz; omega
    clear hz hl hi
    match l, hl2 with
    | [_, _, _], _ =>
      rcases (show i = 0 ∨ i = 1 ∨ i = 2 ∨ i = 3 by omega) with rfl | rfl | rfl | rfl
      · match us, hz2 with | [_, _], _ => exact ⟨_, rfl, rfl⟩
      · match us, hz2 with | [_, _, _], _ => exact ⟨_, rfl, rfl⟩
      · match us, hz2 with | [_, _, _, _], _ => exact ⟨_, rfl, rfl⟩
      · match us, hz2 with | [_, _, _, _, _], _ => exact ⟨_, rfl, rfl⟩
  refine F.okE sc_sum_stepped (fun vs H Q E h => ?_) (fun cdv A outer s H vs Q E hr h => ?_)
  · obtain ⟨_, _, _, _, _, _, _, rfl, _⟩ := h
    rfl
  · obtain ⟨w, L, D, n, i, j, bl, rfl, hw, ws, hb, hn, ok, h1⟩ := h
    refine ⟨_, (pss_cons (ps_expr (pe_c c_check_reach (hr.mono (by decide)) np (pa_cons (pv 0) (pa_cons (pv 1) (pa_cons (pv 2) (pa_cons (pv 3) (pa_cons (pv 4) pa_nil))))))) (pss_cons (ps_set (i := 5) sc_sum_stepped.nd rfl (Or.inl rfl) (pe_op op_add (pe_c c_height_of (hr.mono (by decide)) np (pa_cons (pv 0) pa_nil)) pe_int)) (pss_cons (ps_if (pt_cmpR op_notN (pv 4) pe_non (nomark _)) (pss_one (ps_set (i := 5) sc_sum_stepped.nd rfl (Or.inl rfl) (pe_callB (call_min2 rfl) (by rfl) T.b_min (by decide +kernel) (pa_cons (pv 5) (pa_cons (pv 4) pa_nil))))) pss_nil) (pss_cons (ps_if (PW.pt (pw_or (pt_cmpR op_lt (pv 1) pe_int (nomark _)) (pw_or1 (pt_not (pt_chain op_le op_lt pe_int (pv 3) (pv 5)))))) (pss_one (ps_ret (pe_glob (v := .ref C_NOUGHT) rfl T.m_NOUGHT rfl))) pss_nil) (pss_cons (PCo.ps (i := 6) (coR T.b_range (pv 5) (fun _ hpi => pe_comp1 ["height"] "first" 2 rfl hpi (fun _ _ _ _ _ => (pg_name (i := 0) (show List.Nodup [("height" : Str), ("first" : Str)] by decide +kernel) rfl (Or.inl rfl) (Or.inr rfl)).mo) (fun _ _ _ _ _ => PE.mo (pe_ifExp (pt_cmpR op_eq (pv 0) (pv 1) (nomark _)) (pe_glob (v := .ref C_ONE) rfl T.m_ONE rfl) (pe_glob (v := .ref C_NOUGHT) rfl T.m_NOUGHT rfl))) rfl rfl rfl rfl rfl)) sc_sum_stepped.nd rfl (Or.inl rfl)) (pss_cons (ps_forR rfl PassesOwn.never T.b_range (pv 1) (pg_name (i := 7) sc_sum_stepped.nd rfl (Or.inl rfl)) (pss_one (ps_set (i := 6) sc_sum_stepped.nd rfl (Or.inl rfl) (pe_c c_one_step_on (hr.mono (by decide)) np (pa_cons (pv 0) (pa_cons (pv 6) pa_nil)))))) (pss_one (ps_ret (pe_ix ix_list (pv 6) (pv 3) (fun _ _ => rfl)))))))))), ?_⟩
    refine tSeq_step fun N hN => ?_
    walk_at "rd"
    refine ⟨w, L, D, n, i, j, bl, rfl, hw, hb, (fun z => by rw [ok] at z; cases z), fun _ => hN _ _ ?_⟩
    clear hN N
    refine tSeq_step fun N hN => ?_
    walk_at "rd"
    refine ⟨w, L, D, rfl, hw, _, rfl, hN _ _ ?_⟩
    clear hN N
    refine tSeq_step fun N hN => ?_
    have fin : N [some (.ref w), some (.int n), some (.int i), some (.int j), some bl, some (.int (bdOf D.length bl)), none, none] H := by
      refine hN _ _ ?_
      clear hN N
      refine tSeq_step fun N hN => ?_
      have hn0 : ¬ ((n : Int) < 0) := by omega
      by_cases hj : j < bdOf D.length bl
      case neg =>
        have e1 : ¬ ((j : Int) < ((bdOf D.length bl : Nat) : Int)) := by omega
        simp [tSeq, tIfS, tTest, tB, tOp, rI, rI0, rEq, rNe, scal, tVar, tC, tCB, tCons, tNil, tNext, tRet, L2.start, rIxL, rIxT, rFqI, tAsg, gName, tUn, rU, tNot, tAnd, tOr, tAndV, tOrV, tIf, tTup, tLst, tCall, tDrop, tForR, tForL, tForE, gTup, gCons, gNil, gSub, rSetL, tRaise, Ends.gone, cσ, CPow, tCoR, tCoL, tCoT, tExcInit, tFs, sXset, tRaiseI, tChain, cx_K, cxU_K, tSl, tNoPart, tPart, rAppend, tBM, tForR2, rKIx, rKIn, tKIx, tForES, tDGet, tListRev, tForVL, tForK, tForD, sDPut, tDGet2, tDNewK, tDisp, tPairs, ipI, tBreak, tForR3, e1]
        refine h1 C_NOUGHT H (Same.refl _) ?_
        rw [Mt.sm_ge (by omega)]
        exact T.nought H
      have e1 : ((j : Int) < ((bdOf D.length bl : Nat) : Int)) := by omega
      have tl : bdOf D.length bl ≤ D.length + 1 := by
        unfold bdOf
        split <;> omega
      have wm := ws.m
      have wn := ws.n
      generalize bdOf D.length bl = top at hj e1 h1 hN tl ⊢
      simp [tSeq, tIfS, tTest, tB, tOp, rI, rI0, rEq, rNe, scal, tVar, tC, tCB, tCons, tNil, tNext, tRet, L2.start, rIxL, rIxT, rFqI, tAsg, gName, tUn, rU, tNot, tAnd, tOr, tAndV, tOrV, tIf, tTup, tLst, tCall, tDrop, tForR, tForL, tForE, gTup, gCons, gNil, gSub, rSetL, tRaise, Ends.gone, cσ, CPow, tCoR, tCoL, tCoT, tExcInit, tFs, sXset, tRaiseI, tChain, cx_K, cxU_K, tSl, tNoPart, tPart, rAppend, tBM, tForR2, rKIx, rKIn, tKIx, tForES, tDGet, tListRev, tForVL, tForK, tForD, sDPut, tDGet2, tDNewK, tDisp, tPairs, ipI, tBreak, tForR3, e1]
      refine hN _ _ ?_
      clear hN N
      refine tSeq_step fun N hN => ?_
      walk_at "rd"
      refine ⟨by omega, CO.frs (K := K) (fun h => if h = i then 1 else 0) (by omega) (fun _ _ => trivial) (fun h H' x R hh sm hx kk => ?_) fun S H1 xs s1 nS hS hfr => hN _ _ ?_⟩
      · subst hx
        walk_at "rd"
        by_cases z : h = i
        · rw [if_pos (by omega)]
          exact kk _ _ (Same.refl _) (by rw [if_pos z]; exact T.one _)
        · rw [if_neg (by omega)]
          exact kk _ _ (Same.refl _) (by rw [if_neg z]; exact T.nought _)
      clear hN N
      refine tSeq_step fun N hN => ?_
      walk_at "rd"
      refine ⟨by omega, fun m σ H' => ∃ S ys r7, σ = [some (.ref w), some (.int n), some (.int i), some (.int j), some bl, some (.int top), some (.ref S), r7] ∧ Same H H' ∧ H' S = some (.lst ys) ∧ Frs K H' (Mt.row (Mt.cf L) (Mt.cf D) top i m) ys, ⟨S, xs, none, rfl, s1, hS, hfr⟩, ?_, ?_⟩
      · rintro m σ H2 hm ⟨S, ys, r7, rfl, s2, hS, hfr⟩
        have rl := Mt.row_len (Mt.cf L) (Mt.cf D) top i m
        walk_at "rd"
        refine ⟨w, S, L, D, _, ys, rfl, hw.same s2, hS, hfr, by omega, by omega, by omega, fun h => ws.sm (by omega) top i h, ws.sL, ws.sD, fun S' H3 zs s3 n3 h3 f3 => ?_⟩
        rw [rl] at f3
        exact ⟨S', rfl, s2.trans s3, zs, h3, f3⟩
      · rintro σ H2 ⟨S, ys, r7, rfl, s2, hS, hfr⟩
        refine hN _ _ ?_
        obtain ⟨p, e, q⟩ := hfr.at (j := j) (by rw [Mt.row_len]; omega)
        have a1 := atI_nat e
        walk_at "rd"
        exact ⟨ys, SqL.of hS, _, a1, h1 p H2 s2 q⟩
    clear hN
    rcases hb with rfl | ⟨b, rfl⟩
    · walk_at "rd"
      exact fin
    · walk_at "rd"
      refine ⟨_, _, ⟨rfl, rfl⟩, ?_⟩
      have e : (if (b : Int) < (D.length : Int) + 1 then (b : Int) else (D.length : Int) + 1) = ((bdOf D.length (.int b) : Nat) : Int) := by
        simp only [bdOf]
        split <;> omega
      rw [e]
      exact fin
abbrev s_moments : Stmt := top 56
theorem sc_moments : FnScope ["weights"] ["weights"] (defScope s_moments) := ⟨rfl, rfl, rfl, by decide +kernel, rfl, by decide +kernel, by decide +kernel⟩
theorem ok_moments {f : Addr} {fd : FuncData} (F : Fun K "moments" "moments" s_moments f fd) (m : mg "moments" = some (.ref f)) (T : Tx w K mg C_HeightError C_NOUGHT C_NoFraction C_NoSeries C_NoWay C_NoWeights C_ONE C_RISES C_TooFar C_TooHigh C_TooMany) (c_height_of : Callee P w K mg base 1 "height_of" ["weights"] (spHof K)) (c_sum_stepped : CalleeD P w K mg base 4 "sum_stepped" ["weights", "length", "first", "last", "below"] [.int 0, .int 0, .non] (spStepped K)) : Callee P w K mg base 5 "moments" ["weights"] (spMoments K) := by
  refine ⟨f, fd, ?_, m, F.kp, F.binds fun _ _ _ _ _ _ us hl => match us, hl with | [_], _ => rfl⟩
  refine F.okE sc_moments (fun vs H Q E h => ?_) (fun cdv A outer s H vs Q E hr h => ?_)
  · obtain ⟨_, _, _, rfl, _⟩ := h
    rfl
  · obtain ⟨w, L, D, rfl, hw, ws, hq⟩ := h
    refine ⟨_, (pss_one (ps_ret (PCo.pe (coR T.b_range (pe_op op_add (pe_op op_mul pe_int (pe_c c_height_of (hr.mono (by decide)) np (pa_cons (pv 0) pa_nil))) pe_int) (fun _ hpi => pe_comp1 ["length"] "weights" 0 rfl hpi (fun _ _ _ _ _ => (pg_name (i := 0) (show List.Nodup [("length" : Str), ("weights" : Str)] by decide +kernel) rfl (Or.inl rfl) (Or.inr rfl)).mo) (fun _ _ _ _ _ => PE.mo (pe_cD 0 c_sum_stepped (hr.mono (by decide)) np (pa_cons (pv 1) (pa_cons (pv 0) pa_nil)))) rfl rfl rfl rfl rfl))))), ?_⟩
    have wm := ws.m
    walk_at "rd"
    refine ⟨w, L, D, rfl, hw, _, rfl, .inl ⟨by decide, by decide⟩, by omega, by omega, ?_⟩
    rw [show (2 * (D.length : Int) + 2).toNat = 2 * D.length + 2 by omega]
    refine CO.frs (K := K) (fun n => Mt.sm (Mt.cf L) (Mt.cf D) (D.length + 1) 0 n 0) (by omega) (fun _ _ => trivial) (fun n H' x R hn sm hx kk => ?_) fun S H1 xs s1 nS hS hfr => hq S H1 xs s1 nS hS hfr
    subst hx
    walk_at "rd"
    exact ⟨w, L, D, n, 0, 0, .non, rfl, hw.same sm, ws, .inl rfl, by omega, by simp [tooFar, lowOf]; omega, fun r H2 s2 q2 => kk r H2 s2 q2⟩
abbrev s__law_stir : Stmt := top 59
theorem sc__law_stir : FnScope ["_law_script", "_law_k", "_law_cell", "_law_c"] ["_law_script", "_law_k"] (defScope s__law_stir) := ⟨rfl, rfl, rfl, by decide +kernel, rfl, by decide +kernel, by decide +kernel⟩
theorem ok__law_stir {f : Addr} {fd : FuncData} (F : Fun K "_law_stir" "_law_stir" s__law_stir f fd) (m : mg "_law_stir" = some (.ref f)) (T : Tx w K mg C_HeightError C_NOUGHT C_NoFraction C_NoSeries C_NoWay C_NoWeights C_ONE C_RISES C_TooFar C_TooHigh C_TooMany) : Callee P w K mg base 1 "_law_stir" ["_law_script", "_law_k"] (spStir2 K) := by
  refine ⟨f, fd, ?_, m, F.kp, F.binds fun _ _ _ _ _ _ us hl => match us, hl with | [_, _], _ => rfl⟩
  refine F.okE sc__law_stir (fun vs H Q E h => ?_) (fun cdv A outer s H vs Q E hr h => ?_)
  · obtain ⟨_, _, _, rfl, _⟩ := h
    rfl
  · obtain ⟨a, ns, k, rfl, hs, hk, hk2, hq⟩ := h
    refine ⟨_, (pss_cons (ps_set (i := 2) sc__law_stir.nd rfl (Or.inl rfl) pe_int) (pss_cons (ps_if (pt_cmpR op_lt (pv 1) (pe_callB call_len_seq (by rfl) T.b_len PySem.boot_len (pa_cons (pv 0) pa_nil)) (nomark _)) (pss_one (ps_set (i := 2) sc__law_stir.nd rfl (Or.inl rfl) (pe_ix ix_list (pv 0) (pv 1) (fun _ _ => rfl)))) pss_nil) (pss_cons (ps_set (i := 3) sc__law_stir.nd rfl (Or.inl rfl) (pe_op op_add (pe_op op_add (pe_op op_add (pe_op op_mod (pv 2) (pe_op op_pow pe_int pe_int)) pe_int) (pe_op op_mul pe_int (pv 1))) (pe_op op_mul (pe_op op_mul pe_int (pv 1)) (pv 1)))) (pss_one (ps_ret (pe_op op_mod (pe_op op_mul (pe_op op_mod (pe_op op_mul (pv 3) pe_int) pe_int) pe_int) pe_int)))))), ?_⟩
    refine tSeq_step fun N hN => ?_
    walk_at "rd"
    refine hN _ _ ?_
    clear hN N
    refine tSeq_step fun N hN => ?_
    have fin : ∀ c : Int, N [some (.ref a), some (.int k), some (.int c), none] H := fun c => by
      refine hN _ _ ?_
      clear hN N
      refine tSeq_step fun N hN => ?_
      walk_at "rd"
      refine ⟨.inl ⟨by decide, by decide⟩, .inl ⟨by decide, by decide⟩, .inr ⟨by omega, by omega⟩, hN _ _ ?_⟩
      clear hN N
      generalize c % 10000000000000000000000000000000000000000 + 1 + 13 * k + 7 * k * k = z
      walk_at "rd"
      exact ⟨.inr ⟨by decide, by decide⟩, .inr ⟨by decide, by decide⟩, hq _ (by omega) (by omega)⟩
    clear hN
    walk_at "rd"
    refine ⟨ns.map V.int, .inl hs, ?_⟩
    split
    · rename_i hlt
      have hl : k.toNat < ns.length := by simp at hlt; omega
      refine ⟨ns.map V.int, hs, .int ns[k.toNat], ?_, fin _⟩
      have := atI_nat (xs := ns.map V.int) (j := k.toNat) (v := .int ns[k.toNat]) (by simp [hl])
      rw [Int.toNat_of_nonneg hk] at this
      exact this
    · exact fin 0
abbrev s__law_lowest : Stmt := top 60
theorem sc__law_lowest : FnScope ["_law_top", "_law_bottom", "_law_one", "_law_other", "_law_rest"] ["_law_top", "_law_bottom"] (defScope s__law_lowest) := ⟨rfl, rfl, rfl, by decide +kernel, rfl, by decide +kernel, by decide +kernel⟩
theorem ok__law_lowest {f : Addr} {fd : FuncData} (F : Fun K "_law_lowest" "_law_lowest" s__law_lowest f fd) (m : mg "_law_lowest" = some (.ref f)) (T : Tx w K mg C_HeightError C_NOUGHT C_NoFraction C_NoSeries C_NoWay C_NoWeights C_ONE C_RISES C_TooFar C_TooHigh C_TooMany) : Callee P w K mg base 1 "_law_lowest" ["_law_top", "_law_bottom"] (spLow) := by
  refine ⟨f, fd, ?_, m, F.kp, F.binds fun _ _ _ _ _ _ us hl => match us, hl with | [_, _], _ => rfl⟩
  refine F.okE sc__law_lowest (fun vs H Q E h => ?_) (fun cdv A outer s H vs Q E hr h => ?_)
  · obtain ⟨_, _, rfl, _⟩ := h
    rfl
  · obtain ⟨t, b, rfl, hb, bb, hq⟩ := h
    refine ⟨_, (pss_cons (ps_set (i := 2) sc__law_lowest.nd rfl (Or.inl rfl) (pe_callB call_abs (by rfl) T.b_abs (by decide +kernel) (pa_cons (pv 0) pa_nil))) (pss_cons (ps_set (i := 3) sc__law_lowest.nd rfl (Or.inl rfl) (pv 1)) (pss_cons (ps_wh PassesOwn.never (pt_cmpR op_ne (pv 3) pe_int (nomark _)) (pss_cons (ps_set (i := 4) sc__law_lowest.nd rfl (Or.inl rfl) (pe_op op_mod (pv 2) (pv 3))) (pss_cons (ps_set (i := 2) sc__law_lowest.nd rfl (Or.inl rfl) (pv 3)) (pss_one (ps_set (i := 3) sc__law_lowest.nd rfl (Or.inl rfl) (pv 4)))))) (pss_one (ps_ret (pe_tup (pa_cons (pe_op op_fdivB (pv 0) (pv 2)) (pa_cons (pe_op op_fdivB (pv 1) (pv 2)) pa_nil)))))))), ?_⟩
    refine tSeq_step fun N hN => ?_
    walk_at "rd"
    refine hN _ _ ?_
    clear hN N
    refine tSeq_step fun N hN => ?_
    walk_at "rd"
    refine hN _ _ ?_
    clear hN N
    refine tSeq_step fun N hN => ?_
    walk_at "rd"
    refine ⟨fun σ H' => ∃ (x y : Int) (r : Option V), σ = [some (.int t), some (.int b), some (.int x), some (.int y), r] ∧ H' = H ∧ 0 ≤ x ∧ 0 ≤ y ∧ Int.gcd x y = Int.gcd t b, fun σ _ => match σ with | [_, _, _, some (.int y), _] => y.toNat | _ => 0, ⟨_, _, none, rfl, rfl, ?_, by omega, ?_⟩, ?_⟩
    · split <;> omega
    · split <;> simp [Int.neg_gcd]
    rintro σ H' ⟨x, y, r, rfl, rfl, hx, hy, hg⟩
    by_cases hy0 : y = 0
    · subst hy0
      walk_at "rd"
      have ex : x = ((Int.gcd t b : Nat) : Int) := by rw [← hg, gcd_end hx]
      refine hN _ _ ?_
      subst ex
      have hp := Int.gcd_pos_of_ne_zero_right t (show b ≠ 0 by omega)
      have bg : Bd 9000 ((Int.gcd t b : Nat) : Int) := bb.le (by simpa using Mt.gcd_le (t := t) (show b ≠ 0 by omega))
      have e := Mt.low_pos (t := t) hb
      walk_at "rd"
      refine ⟨bg.dv (by omega), bg.dv (by omega), sz_le 2 (by decide), fun p hp => ?_⟩
      rw [e.1, e.2]
      exact hq p hp
    · have h1 := Int.emod_nonneg x hy0
      have h2 := Int.emod_lt_of_pos x (show 0 < y by omega)
      have h3 := gcd_step hx (show 0 < y by omega)
      walk_at "rd"
      exact .inr ⟨hy0, by omega, ⟨y, x % y, ⟨rfl, rfl⟩, hy, h1, h3.trans hg⟩, by omega⟩
abbrev s__law_add : Stmt := top 61
theorem sc__law_add : FnScope ["_law_a", "_law_b"] ["_law_a", "_law_b"] (defScope s__law_add) := ⟨rfl, rfl, rfl, by decide +kernel, rfl, by decide +kernel, by decide +kernel⟩
theorem ok__law_add {f : Addr} {fd : FuncData} (F : Fun K "_law_add" "_law_add" s__law_add f fd) (m : mg "_law_add" = some (.ref f)) (T : Tx w K mg C_HeightError C_NOUGHT C_NoFraction C_NoSeries C_NoWay C_NoWeights C_ONE C_RISES C_TooFar C_TooHigh C_TooMany) (c__law_lowest : Callee P w K mg base 1 "_law_lowest" ["_law_top", "_law_bottom"] (spLow)) : Callee P w K mg base 2 "_law_add" ["_law_a", "_law_b"] (spBin K (fun a b => a + b)) := by
  refine ⟨f, fd, ?_, m, F.kp, F.binds fun _ _ _ _ _ _ us hl => match us, hl with | [_, _], _ => rfl⟩
  refine F.okE sc__law_add (fun vs H Q E h => ?_) (fun cdv A outer s H vs Q E hr h => ?_)
  · obtain ⟨_, _, _, _, rfl, _⟩ := h
    rfl
  · obtain ⟨pa, pb, a, b, rfl, ha, hb, sa, sb, hq⟩ := h
    refine ⟨_, (pss_one (ps_ret (pe_c c__law_lowest (hr.mono (by decide)) np (pa_cons (pe_op op_add (pe_op op_mulB (pe_ix ix_fq (pv 0) pe_int (fun _ _ => rfl)) (pe_ix ix_fq (pv 1) pe_int (fun _ _ => rfl))) (pe_op op_mulB (pe_ix ix_fq (pv 1) pe_int (fun _ _ => rfl)) (pe_ix ix_fq (pv 0) pe_int (fun _ _ => rfl)))) (pa_cons (pe_op op_mulB (pe_ix ix_fq (pv 0) pe_int (fun _ _ => rfl)) (pe_ix ix_fq (pv 1) pe_int (fun _ _ => rfl))) pa_nil))))), ?_⟩
    dsimp only at hq
    walk_at "rd"
    refine ⟨a, ha, b, hb, sa.t.mu sb.b, b, hb, a, ha, sb.t.mu sa.b, a, ha, b, hb, sa.b.mu sb.b, _, _, rfl, Int.mul_pos (Mt.den_pos a) (Mt.den_pos b), (sa.b.mul sb.b).mono (by decide), fun p hp => ?_⟩
    rw [Mt.rat_add]
    exact hq p _ (same_upd hp) hp upd_same
abbrev s__law_mul : Stmt := top 62
theorem sc__law_mul : FnScope ["_law_a", "_law_b"] ["_law_a", "_law_b"] (defScope s__law_mul) := ⟨rfl, rfl, rfl, by decide +kernel, rfl, by decide +kernel, by decide +kernel⟩
theorem ok__law_mul {f : Addr} {fd : FuncData} (F : Fun K "_law_mul" "_law_mul" s__law_mul f fd) (m : mg "_law_mul" = some (.ref f)) (T : Tx w K mg C_HeightError C_NOUGHT C_NoFraction C_NoSeries C_NoWay C_NoWeights C_ONE C_RISES C_TooFar C_TooHigh C_TooMany) (c__law_lowest : Callee P w K mg base 1 "_law_lowest" ["_law_top", "_law_bottom"] (spLow)) : Callee P w K mg base 2 "_law_mul" ["_law_a", "_law_b"] (spBin K (fun a b => a * b)) := by
  refine ⟨f, fd, ?_, m, F.kp, F.binds fun _ _ _ _ _ _ us hl => match us, hl with | [_, _], _ => rfl⟩
  refine F.okE sc__law_mul (fun vs H Q E h => ?_) (fun cdv A outer s H vs Q E hr h => ?_)
  · obtain ⟨_, _, _, _, rfl, _⟩ := h
    rfl
  · obtain ⟨pa, pb, a, b, rfl, ha, hb, sa, sb, hq⟩ := h
    refine ⟨_, (pss_one (ps_ret (pe_c c__law_lowest (hr.mono (by decide)) np (pa_cons (pe_op op_mulB (pe_ix ix_fq (pv 0) pe_int (fun _ _ => rfl)) (pe_ix ix_fq (pv 1) pe_int (fun _ _ => rfl))) (pa_cons (pe_op op_mulB (pe_ix ix_fq (pv 0) pe_int (fun _ _ => rfl)) (pe_ix ix_fq (pv 1) pe_int (fun _ _ => rfl))) pa_nil))))), ?_⟩
    dsimp only at hq
    walk_at "rd"
    refine ⟨a, ha, b, hb, sa.t.mu sb.t, a, ha, b, hb, sa.b.mu sb.b, _, _, rfl, Int.mul_pos (Mt.den_pos a) (Mt.den_pos b), (sa.b.mul sb.b).mono (by decide), fun p hp => ?_⟩
    rw [Mt.rat_mul]
    exact hq p _ (same_upd hp) hp upd_same
abbrev s__law_row : Stmt := top 63
theorem sc__law_row : FnScope ["_law_script", "_law_k", "_law_many", "_law_size", "_law_cell", "_law_found", "_law_c", "_law_at"] ["_law_script", "_law_k", "_law_many", "_law_size"] (defScope s__law_row) := ⟨rfl, rfl, rfl, by decide +kernel, rfl, by decide +kernel, by decide +kernel⟩
theorem ok__law_row {f : Addr} {fd : FuncData} (F : Fun K "_law_row" "_law_row" s__law_row f fd) (m : mg "_law_row" = some (.ref f)) (T : Tx w K mg C_HeightError C_NOUGHT C_NoFraction C_NoSeries C_NoWay C_NoWeights C_ONE C_RISES C_TooFar C_TooHigh C_TooMany) (c__law_stir : Callee P w K mg base 1 "_law_stir" ["_law_script", "_law_k"] (spStir2 K)) : Callee P w K mg base 2 "_law_row" ["_law_script", "_law_k", "_law_many", "_law_size"] (spRow K) := by
  refine ⟨f, fd, ?_, m, F.kp, F.binds fun _ _ _ _ _ _ us hl => match us, hl with | [_, _, _, _], _ => rfl⟩
  refine F.okE sc__law_row (fun vs H Q E h => ?_) (fun cdv A outer s H vs Q E hr h => ?_)
  · obtain ⟨_, _, _, _, _, rfl, _⟩ := h
    rfl
  · obtain ⟨a, ns, k, many, size, rfl, hs, k0, k1, m0, m1, s0, s1, hq⟩ := h
    refine ⟨_, (pss_cons (ps_set (i := 4) sc__law_row.nd rfl (Or.inl rfl) pe_int) (pss_cons (ps_if (pt_cmpR op_lt (pv 1) (pe_callB call_len_seq (by rfl) T.b_len PySem.boot_len (pa_cons (pv 0) pa_nil)) (nomark _)) (pss_one (ps_set (i := 4) sc__law_row.nd rfl (Or.inl rfl) (pe_ix ix_list (pv 0) (pv 1) (fun _ _ => rfl)))) pss_nil) (pss_cons (ps_set (i := 5) sc__law_row.nd rfl (Or.inl rfl) (pe_lst pa_nil)) (pss_cons (ps_set (i := 6) sc__law_row.nd rfl (Or.inl rfl) (pe_op op_fdivB (pv 4) pe_int)) (pss_cons (ps_forR rfl PassesOwn.never T.b_range (pv 2) (pg_name (i := 7) sc__law_row.nd rfl (Or.inl rfl)) (pss_cons (ps_if (pt_cmpR op_eq (pe_op op_mod (pv 4) pe_int) pe_int (nomark _)) (pss_one (ps_expr (pe_bm PySem.F.plainAttrs_list PySem.F.slot_list_append PySem.F.type_list_append mt_append (pv 5) (pa_cons (pe_op op_mod (pv 6) (pv 3)) pa_nil)))) (pss_one (ps_expr (pe_bm PySem.F.plainAttrs_list PySem.F.slot_list_append PySem.F.type_list_append mt_append (pv 5) (pa_cons (pe_op op_mod (pe_c c__law_stir (hr.mono (by decide)) np (pa_cons (pv 0) (pa_cons (pe_op op_add (pv 1) (pv 7)) pa_nil))) (pv 3)) pa_nil))))) (pss_one (ps_set (i := 6) sc__law_row.nd rfl (Or.inl rfl) (pe_op op_fdivB (pv 6) (pv 3)))))) (pss_one (ps_ret (pv 5)))))))), ?_⟩
    refine tSeq_step fun N hN => ?_
    walk_at "rd"
    refine hN _ _ ?_
    clear hN N
    refine tSeq_step fun N hN => ?_
    have fin : ∀ c : Int, N [some (.ref a), some (.int k), some (.int many), some (.int size), some (.int c), none, none, none] H := fun c => by
      refine hN _ _ ?_
      clear hN N
      refine tSeq_step fun N hN => ?_
      walk_at "rd"
      refine fun D nD => hN _ _ ?_
      clear hN N
      have sD := same_upd (o := .lst []) nD
      refine tSeq_step fun N hN => ?_
      walk_at "rd"
      refine ⟨⟨by decide, Bd.mono (m := 64) (show (_ : Nat) < _ by decide) (by decide)⟩, hN _ _ ?_⟩
      clear hN N
      refine tSeq_step fun N hN => ?_
      walk_at "rd"
      refine ⟨by omega, by omega, fun i σ H' => ∃ r6 r7 cs, σ = [some (.ref a), some (.int k), some (.int many), some (.int size), some (.int c), some (.ref D), some (.int r6), r7] ∧ Same H H' ∧ H' D = some (.lst (cs.map V.int)) ∧ cs.length = i ∧ ∀ c ∈ cs, 0 ≤ c ∧ c < size, ⟨_, none, [], rfl, sD, upd_same, rfl, fun c hc => nomatch hc⟩, ?_, ?_⟩
      · rintro i σ H1 hi ⟨r6, r7, cs, rfl, sm, hD, lc, bc⟩
        refine tSeq_step fun N hN => ?_
        have next : ∀ x : Int, 0 ≤ x → x < size → N [some (.ref a), some (.int k), some (.int many), some (.int size), some (.int c), some (.ref D), some (.int r6), some (.int i)] (upd H1 D (.lst (cs.map V.int ++ [.int x]))) := fun x x0 x1 => by
          refine hN _ _ ?_
          clear hN N
          walk_at "rd"
          refine ⟨⟨by omega, Bd.mono (m := 64) (show (_ : Nat) < _ by omega) (by decide)⟩, sm.updL nD, cs ++ [x], ?_, by simp [lc], ?_⟩
          · simp [upd_same]
          · intro c hc
            rcases List.mem_append.mp hc with z | z
            · exact bc c z
            · rw [List.mem_singleton.mp z]; exact ⟨x0, x1⟩
        clear hN
        have em : ∀ z : Int, 0 ≤ z % size ∧ z % size < size := fun z => ⟨Int.emod_nonneg _ (by omega), Int.emod_lt_of_pos _ s0⟩
        walk_at "rd"
        split
        · exact ⟨.inl ⟨rfl, _, SqL.of hD⟩, s0, _, hD, small1000 (by simp; omega), next _ (em _).1 (em _).2⟩
        · exact ⟨.inl ⟨rfl, _, SqL.of hD⟩, a, ns, k + i, rfl, sm.seq hs, by omega, by omega, fun d d0 d1 => ⟨d, rfl, s0, _, hD, small1000 (by simp; omega), next _ (em _).1 (em _).2⟩⟩
      · rintro σ H1 ⟨r6, r7, cs, rfl, sm, hD, lc, bc⟩
        refine hN _ _ ?_
        walk_at "rd"
        exact hq D H1 cs sm nD hD lc bc
    clear hN
    walk_at "rd"
    refine ⟨ns.map V.int, .inl hs, ?_⟩
    split
    · rename_i hlt
      have hl : k.toNat < ns.length := by simp at hlt; omega
      refine ⟨ns.map V.int, hs, .int ns[k.toNat], ?_, fin _⟩
      have := atI_nat (xs := ns.map V.int) (j := k.toNat) (v := .int ns[k.toNat]) (by simp [hl])
      rw [Int.toNat_of_nonneg k0] at this
      exact this
    · exact fin 0
abbrev s__law_weight_by : Stmt := top 64
theorem sc__law_weight_by : FnScope ["_law_number", "_law_way"] ["_law_number"] (defScope s__law_weight_by) := ⟨rfl, rfl, rfl, by decide +kernel, rfl, by decide +kernel, by decide +kernel⟩
theorem ok__law_weight_by {f : Addr} {fd : FuncData} (F : Fun K "_law_weight_by" "_law_weight_by" s__law_weight_by f fd) (m : mg "_law_weight_by" = some (.ref f)) (T : Tx w K mg C_HeightError C_NOUGHT C_NoFraction C_NoSeries C_NoWay C_NoWeights C_ONE C_RISES C_TooFar C_TooHigh C_TooMany) (c__law_lowest : Callee P w K mg base 1 "_law_lowest" ["_law_top", "_law_bottom"] (spLow)) : Callee P w K mg base 2 "_law_weight_by" ["_law_number"] (spWby) := by
  refine ⟨f, fd, ?_, m, F.kp, F.binds fun _ _ _ _ _ _ us hl => match us, hl with | [_], _ => rfl⟩
  refine F.okE sc__law_weight_by (fun vs H Q E h => ?_) (fun cdv A outer s H vs Q E hr h => ?_)
  · obtain ⟨_, rfl, _⟩ := h
    rfl
  · obtain ⟨c, rfl, c0, hq⟩ := h
    refine ⟨_, (pss_cons (ps_set (i := 1) sc__law_weight_by.nd rfl (Or.inl rfl) (pe_op op_mod (pv 0) pe_int)) (pss_cons (ps_set (i := 0) sc__law_weight_by.nd rfl (Or.inl rfl) (pe_op op_fdivB (pv 0) pe_int)) (pss_cons (ps_if (pt_cmpR op_lt (pv 1) pe_int (nomark _)) (pss_one (ps_ret (pe_tup (pa_cons (pe_op op_sub (pe_op op_mod (pv 0) pe_int) pe_int) (pa_cons pe_int pa_nil))))) pss_nil) (pss_cons (ps_if (pt_cmpR op_lt (pv 1) pe_int (nomark _)) (pss_one (ps_ret (pe_c c__law_lowest (hr.mono (by decide)) np (pa_cons (pe_op op_sub (pe_op op_mod (pv 0) pe_int) pe_int) (pa_cons (pe_op op_add pe_int (pe_op op_mod (pe_op op_fdivB (pv 0) pe_int) pe_int)) pa_nil))))) pss_nil) (pss_one (ps_ret (pe_c c__law_lowest (hr.mono (by decide)) np (pa_cons (pe_op op_sub (pe_op op_mod (pv 0) pe_int) pe_int) (pa_cons (pe_op op_add pe_int (pe_op op_mod (pe_op op_fdivB (pv 0) pe_int) pe_int)) pa_nil))))))))), ?_⟩
    have dv : ∀ i j : Int, 0 < j → j ≤ 5000000 → CDivB i j := fun i j h1 h2 => ⟨by omega, Bd.mono (m := 64) (show (_ : Nat) < _ by omega) (by decide)⟩
    refine tSeq_step fun N hN => ?_
    walk_at "rd"
    refine hN _ _ ?_
    clear hN N
    refine tSeq_step fun N hN => ?_
    walk_at "rd"
    refine ⟨dv _ _ (by decide) (by decide), hN _ _ ?_⟩
    clear hN N
    have d0 : 0 ≤ c.fdiv 6 := Int.fdiv_nonneg c0 (by decide)
    generalize c.fdiv 6 = d at d0 ⊢
    generalize c % 6 = w
    have low : ∀ t b : Int, 1 ≤ b → b ≤ 12 → t.natAbs ≤ 999999 → spLow [.int t, .int b] H Q E0 := fun t b b0 b1 ht =>
      ⟨t, b, rfl, by omega, Bd.mono (m := 64) (show (_ : Nat) < _ by omega) (by decide), fun p hp => hq p _ hp (Mt.wg_low b0 b1 ht)⟩
    walk_at "rd"
    split
    · refine ⟨sz_le 2 (by decide), fun p hp => ?_⟩
      rw [← frO_int]
      exact hq p _ hp (Mt.wg_int (by omega))
    split
    · exact ⟨dv _ _ (by decide) (by decide), low _ _ (by omega) (by omega) (by omega)⟩
    · exact ⟨dv _ _ (by decide) (by decide), low _ _ (by omega) (by omega) (by omega)⟩
abbrev s__law_weights : Stmt := top 65
theorem sc__law_weights : FnScope ["_law_script", "_law_begin", "_law_k", "_law_levels"] ["_law_script", "_law_begin", "_law_k"] (defScope s__law_weights) := ⟨rfl, rfl, rfl, by decide +kernel, rfl, by decide +kernel, by decide +kernel⟩
theorem ok__law_weights {f : Addr} {fd : FuncData} (F : Fun K "_law_weights" "_law_weights" s__law_weights f fd) (m : mg "_law_weights" = some (.ref f)) (T : Tx w K mg C_HeightError C_NOUGHT C_NoFraction C_NoSeries C_NoWay C_NoWeights C_ONE C_RISES C_TooFar C_TooHigh C_TooMany) (c__law_row : Callee P w K mg base 2 "_law_row" ["_law_script", "_law_k", "_law_many", "_law_size"] (spRow K)) (c__law_weight_by : Callee P w K mg base 2 "_law_weight_by" ["_law_number"] (spWby)) : Callee P w K mg base 3 "_law_weights" ["_law_script", "_law_begin", "_law_k"] (spWeights K) := by
  refine ⟨f, fd, ?_, m, F.kp, F.binds fun _ _ _ _ _ _ us hl => match us, hl with | [_, _, _], _ => rfl⟩
  refine F.okE sc__law_weights (fun vs H Q E h => ?_) (fun cdv A outer s H vs Q E hr h => ?_)
  · obtain ⟨_, _, _, _, rfl, _⟩ := h
    rfl
  · obtain ⟨a, ns, b, k, rfl, hs, b0, b1, hk, hq⟩ := h
    refine ⟨_, (pss_cons (PCo.ps (i := 3) (coL (pe_c c__law_row (hr.mono (by decide)) np (pa_cons (pv 0) (pa_cons (pv 1) (pa_cons (pe_op op_add (pv 2) pe_int) (pa_cons pe_int pa_nil))))) (fun _ hpi => pe_comp0 ["_law_number"] rfl hpi (fun _ _ _ _ _ => (pg_name (i := 0) (show List.Nodup [("_law_number" : Str)] by decide +kernel) rfl (Or.inl rfl) (Or.inr rfl)).mo) (fun _ _ _ _ _ => PE.mo (pe_c c__law_weight_by (hr.mono (by decide)) np (pa_cons (pv 0) pa_nil))))) sc__law_weights.nd rfl (Or.inl rfl)) (pss_one (ps_ret (pe_tup (pa_cons (pv 3) (pa_cons (PCo.pe (coL (pe_c c__law_row (hr.mono (by decide)) np (pa_cons (pv 0) (pa_cons (pe_op op_add (pv 1) pe_int) (pa_cons (pv 2) (pa_cons pe_int pa_nil))))) (fun _ hpi => pe_comp0 ["_law_number"] rfl hpi (fun _ _ _ _ _ => (pg_name (i := 0) (show List.Nodup [("_law_number" : Str)] by decide +kernel) rfl (Or.inl rfl) (Or.inr rfl)).mo) (fun _ _ _ _ _ => PE.mo (pe_c c__law_weight_by (hr.mono (by decide)) np (pa_cons (pv 0) pa_nil)))))) pa_nil)))))), ?_⟩
    refine tSeq_step fun N hN => ?_
    walk_at "rd"
    refine ⟨a, ns, b, (k : Int) + 1, 143999928, rfl, hs, b0, by omega, by omega, by omega, by decide, by decide, fun C1 H1 cs1 s1 n1 e1 l1 c1 => ⟨C1, rfl, _, SqL.of e1, ?_⟩⟩
    refine CO.frsP (K := K) Mt.Wg (by simp; omega) (fun H' s => s.seq (SqL.of e1)) (fun i H' x R hi s hx kk => ?_) fun D1 H2 x1 f1 s2 n2 d1 k1 lf1 w1 => hN _ _ ?_
    · simp only [List.getElem?_map] at hx
      obtain ⟨c, ec, rfl⟩ := Option.map_eq_some_iff.mp hx
      walk_at "rd"
      exact ⟨c, rfl, (c1 c (List.mem_of_getElem? ec)).1, fun p q np wq => kk p _ q (same_upd np) (Fq.of upd_same) wq⟩
    clear hN N
    walk_at "rd"
    have s12 := s1.trans s2
    refine ⟨a, ns, b + 8, (k : Int), 143999928, rfl, s12.seq hs, by omega, by omega, by omega, by omega, by decide, by decide, fun C3 H3 cs3 s3 n3 e3 l3 c3 => ⟨C3, rfl, _, SqL.of e3, ?_⟩⟩
    refine CO.frsP (K := K) Mt.Wg (by simp; omega) (fun H' s => s.seq (SqL.of e3)) (fun i H' x R hi s hx kk => ?_) fun D2 H4 x2 f2 s4 n4 d2 k2 lf2 w2 => ⟨sz_le 2 (by decide), fun P nP => ?_⟩
    · simp only [List.getElem?_map] at hx
      obtain ⟨c, ec, rfl⟩ := Option.map_eq_some_iff.mp hx
      walk_at "rd"
      exact ⟨c, rfl, (c3 c (List.mem_of_getElem? ec)).1, fun p q np wq => kk p _ q (same_upd np) (Fq.of upd_same) wq⟩
    have s34 := s3.trans s4
    have sP := same_upd (o := .tup [.ref D1, .ref D2]) nP
    have ne : D1 ≠ D2 := fun z => by
      have := s3 _ _ d1
      rw [z, n4] at this
      cases this
    refine hq P D1 D2 _ x1 x2 f1 f2 (s12.trans (s34.trans sP)) (s1.free n2) ((s12.trans s3).free n4) ne upd_same (sP _ _ (s34 _ _ d1)) (sP _ _ d2) (k1.same (s34.trans sP)) (k2.same sP) ⟨w1, w2, ?_, ?_⟩ ?_
    · simp at lf1 lf2; omega
    · simp at lf2; omega
    · simp at lf2; omega
abbrev s__law_power : Stmt := top 66
theorem sc__law_power : FnScope ["_law_n"] ["_law_n"] (defScope s__law_power) := ⟨rfl, rfl, rfl, by decide +kernel, rfl, by decide +kernel, by decide +kernel⟩
theorem ok__law_power {f : Addr} {fd : FuncData} (F : Fun K "_law_power" "_law_power" s__law_power f fd) (m : mg "_law_power" = some (.ref f)) (T : Tx w K mg C_HeightError C_NOUGHT C_NoFraction C_NoSeries C_NoWay C_NoWeights C_ONE C_RISES C_TooFar C_TooHigh C_TooMany) : Callee P w K mg base 1 "_law_power" ["_law_n"] (spPower K) := by
  refine ⟨f, fd, ?_, m, F.kp, F.binds fun _ _ _ _ _ _ us hl => match us, hl with | [_], _ => rfl⟩
  refine F.okE sc__law_power (fun vs H Q E h => ?_) (fun cdv A outer s H vs Q E hr h => ?_)
  · obtain ⟨_, rfl, _⟩ := h
    rfl
  · obtain ⟨n, rfl, hn, hq⟩ := h
    refine ⟨_, (pss_one (ps_ret (pe_callTy call_tuple_of (by rfl) T.b_tuple (by decide +kernel) (pa_cons (pe_op op_cat (PCo.pe (coR T.b_range (pv 0) (fun _ hpi => pe_comp0 ["_law_k"] rfl hpi (fun _ _ _ _ _ => (pg_name (i := 0) (show List.Nodup [("_law_k" : Str)] by decide +kernel) rfl (Or.inl rfl) (Or.inr rfl)).mo) (fun _ _ _ _ _ => PE.mo (pe_tup (pa_cons pe_int (pa_cons pe_int pa_nil))))))) (pe_lst (pa_cons (pe_tup (pa_cons pe_int (pa_cons pe_int pa_nil))) pa_nil))) pa_nil)))), ?_⟩
    walk_at "rd"
    refine ⟨by omega, CO.frs (K := K) (fun _ => 0) (by omega) (fun _ _ => trivial) (fun h H' x R hh sm hx kk => ?_) fun S H1 xs s1 nS hS hfr => ?_⟩
    · subst hx
      walk_at "rd"
      exact ⟨sz_le 2 (by decide), fun p np => kk p _ (same_upd np) (Fq.of upd_same)⟩
    refine ⟨sz_le 2 (by decide), fun u nu => ⟨sz_le 1 (by decide), fun l nl => ?_⟩⟩
    have uu := same_upd (o := .tup [.int 1, .int 1]) nu
    have ul := same_upd (o := .lst [.ref u]) nl
    have lxs := hfr.len
    simp only [List.length_map, List.length_range] at lxs
    refine ⟨S, l, _, _, rfl, rfl, ul _ _ (uu _ _ hS), upd_same, sz_le _ (by simp; omega), fun c nc => ⟨c, rfl, _, .inl ⟨SqL.of upd_same, fun t nt => ?_⟩⟩⟩
    have uc := same_upd (o := .lst (xs ++ [.ref u])) nc
    have ut := same_upd (o := .tup (xs ++ [.ref u])) nt
    have st := uu.trans (ul.trans (uc.trans ut))
    refine hq t _ (s1.trans st) ⟨_, SqT.of upd_same, ?_⟩
    have e : (List.range n).map (fun _ => (0 : Rat)) ++ [1] = Mt.xn n := by
      rw [Mt.xn]
      congr 1
      refine List.ext_getElem (by simp) fun i h1 h2 => by simp
    rw [← e]
    exact Frs.snoc (hfr.same st) (Fq.of ((ul.trans (uc.trans ut)) _ _ upd_same))
abbrev s__law_by_row : Stmt := top 67
theorem sc__law_by_row : FnScope ["_law_weights_here", "_law_n", "_law_m", "_law_total", "_law_product", "_law_one", "_law_other", "_law_j"] ["_law_weights_here", "_law_n", "_law_m"] (defScope s__law_by_row) := ⟨rfl, rfl, rfl, by decide +kernel, rfl, by decide +kernel, by decide +kernel⟩
theorem ok__law_by_row {f : Addr} {fd : FuncData} (F : Fun K "_law_by_row" "_law_by_row" s__law_by_row f fd) (m : mg "_law_by_row" = some (.ref f)) (T : Tx w K mg C_HeightError C_NOUGHT C_NoFraction C_NoSeries C_NoWay C_NoWeights C_ONE C_RISES C_TooFar C_TooHigh C_TooMany) (c__law_add : Callee P w K mg base 2 "_law_add" ["_law_a", "_law_b"] (spBin K (fun a b => a + b))) (c__law_mul : Callee P w K mg base 2 "_law_mul" ["_law_a", "_law_b"] (spBin K (fun a b => a * b))) (c__law_power : Callee P w K mg base 1 "_law_power" ["_law_n"] (spPower K)) (c_in_row : Callee P w K mg base 7 "in_row" ["weights", "poly"] (spInRow K C_TooFar)) : Callee P w K mg base 8 "_law_by_row" ["_law_weights_here", "_law_n", "_law_m"] (spByRow K) := by
  refine ⟨f, fd, ?_, m, F.kp, F.binds fun _ _ _ _ _ _ us hl => match us, hl with | [_, _, _], _ => rfl⟩
  refine F.okE sc__law_by_row (fun vs H Q E h => ?_) (fun cdv A outer s H vs Q E hr h => ?_)
  · obtain ⟨_, _, _, _, _, rfl, _⟩ := h
    rfl
  · obtain ⟨w, L, D, n, m, rfl, hw, ws, hn, hm, hq⟩ := h
    refine ⟨_, (pss_cons (ps_set (i := 3) sc__law_by_row.nd rfl (Or.inl rfl) (pe_tup (pa_cons pe_int (pa_cons pe_int pa_nil)))) (pss_cons (ps_set (i := 4) sc__law_by_row.nd rfl (Or.inl rfl) (pe_tup (pa_cons pe_int (pa_cons pe_int pa_nil)))) (pss_cons (ps_set (i := 5) sc__law_by_row.nd rfl (Or.inl rfl) (pe_c c_in_row (hr.mono (by decide)) np (pa_cons (pv 0) (pa_cons (pe_c c__law_power (hr.mono (by decide)) np (pa_cons (pv 1) pa_nil)) pa_nil)))) (pss_cons (ps_set (i := 6) sc__law_by_row.nd rfl (Or.inl rfl) (pe_c c_in_row (hr.mono (by decide)) np (pa_cons (pv 0) (pa_cons (pe_c c__law_power (hr.mono (by decide)) np (pa_cons (pv 2) pa_nil)) pa_nil)))) (pss_cons (ps_forR rfl PassesOwn.never T.b_range (pe_callB call_len_seq (by rfl) T.b_len PySem.boot_len (pa_cons (pe_ix ix_tup (pv 0) pe_int (fun _ _ => rfl)) pa_nil)) (pg_name (i := 7) sc__law_by_row.nd rfl (Or.inl rfl)) (pss_cons (ps_if (pt_cmpR op_gt (pv 7) pe_int (nomark _)) (pss_one (ps_set (i := 4) sc__law_by_row.nd rfl (Or.inl rfl) (pe_c c__law_mul (hr.mono (by decide)) np (pa_cons (pv 4) (pa_cons (pe_ix ix_tup (pe_ix ix_tup (pv 0) pe_int (fun _ _ => rfl)) (pe_op op_sub (pv 7) pe_int) (fun _ _ => rfl)) pa_nil))))) pss_nil) (pss_one (ps_set (i := 3) sc__law_by_row.nd rfl (Or.inl rfl) (pe_c c__law_add (hr.mono (by decide)) np (pa_cons (pv 3) (pa_cons (pe_c c__law_mul (hr.mono (by decide)) np (pa_cons (pv 4) (pa_cons (pe_c c__law_mul (hr.mono (by decide)) np (pa_cons (pe_ix ix_list (pv 5) (pv 7) (fun _ _ => rfl)) (pa_cons (pe_ix ix_list (pv 6) (pv 7) (fun _ _ => rfl)) pa_nil))) pa_nil))) pa_nil))))))) (pss_one (ps_ret (pv 3)))))))), ?_⟩
    refine tSeq_step fun N hN => ?_
    walk_at "rd"
    refine ⟨sz_le 2 (by decide), fun t0 n0 => hN _ _ ?_⟩
    clear hN N
    have u0 := same_upd (o := .tup [.int 0, .int 1]) n0
    refine tSeq_step fun N hN => ?_
    walk_at "rd"
    refine ⟨sz_le 2 (by decide), fun t1 n1 => hN _ _ ?_⟩
    clear hN N
    have u1 := same_upd (o := .tup [.int 1, .int 1]) n1
    have f0 : Fq K (upd (upd H t0 (.tup [.int 0, .int 1])) t1 (.tup [.int 1, .int 1])) t0 0 := Fq.of (u1 _ _ upd_same)
    have f1 : Fq K (upd (upd H t0 (.tup [.int 0, .int 1])) t1 (.tup [.int 1, .int 1])) t1 1 := Fq.of upd_same
    have s1 := u0.trans u1
    generalize upd (upd H t0 (.tup [.int 0, .int 1])) t1 (.tup [.int 1, .int 1]) = H1 at *
    have wm := ws.m
    have wn := ws.n
    have lxn : ∀ x, (Mt.xn x).length = x + 1 := fun x => by simp [Mt.xn]
    refine tSeq_step fun N hN => ?_
    walk_at "rd"
    refine ⟨n, rfl, by omega, fun p2 H2 s2 h2 => ⟨w, p2, L, D, _, rfl, hw.same (s1.trans s2), ws, h2, (fun z => by rw [lxn] at z; omega), fun _ => ⟨Mt.NZ_xn n, gp_xn n, fun R H3 xs s3 nR hR fR => hN _ _ ?_⟩⟩⟩
    clear hN N
    refine tSeq_step fun N hN => ?_
    walk_at "rd"
    refine ⟨m, rfl, by omega, fun p4 H4 s4 h4 => ⟨w, p4, L, D, _, rfl, hw.same (s1.trans (s2.trans (s3.trans s4))), ws, h4, (fun z => by rw [lxn] at z; omega), fun _ => ⟨Mt.NZ_xn m, gp_xn m, fun R2 H5 ys s5 nR2 hR2 fR2 => hN _ _ ?_⟩⟩⟩
    clear hN N
    have t5 : Same H1 H5 := s2.trans (s3.trans (s4.trans s5))
    have hw5 := hw.same (s1.trans t5)
    have hR5 := (s4.trans s5) _ _ hR
    have fR5 := fR.same (s4.trans s5)
    obtain ⟨wa, wb, hw0, ⟨us, hu, fu⟩, ⟨vs, hv, fv⟩⟩ := id hw5
    have lu := fu.len
    refine tSeq_step fun N hN => ?_
    walk_at "rd"
    have gs : ∀ x y : Nat, x ≤ 7 → Mt.Gd 7 (Mt.sm (Mt.cf L) (Mt.cf D) (D.length + 1) 0 x y) := fun x y hx => Mt.gd_up (Mt.gd_sm (Mt.wg_cf ws.l) (Mt.wg_cf ws.d) x y) hx
    have gp : ∀ x, x ≤ 7 → Mt.Gd 7 (Mt.pr (Mt.cf D) 0 x) := fun x hx => Mt.gd_up (Mt.gd_pr (Mt.wg_cf ws.d) 0 x) hx
    have g3 : ∀ x, x ≤ 7 → Mt.Gd 21 (Mt.pr (Mt.cf D) 0 x * (Mt.sm (Mt.cf L) (Mt.cf D) (D.length + 1) 0 n x * Mt.sm (Mt.cf L) (Mt.cf D) (D.length + 1) 0 m x)) := fun x hx => Mt.gd_mul (gp x hx) (Mt.gd_mul (gs n x (by omega)) (gs m x (by omega)))
    have sSu : ∀ i, i ≤ 8 → Sz 1300 (Mt.Su (fun x => Mt.pr (Mt.cf D) 0 x * (Mt.sm (Mt.cf L) (Mt.cf D) (D.length + 1) 0 n x * Mt.sm (Mt.cf L) (Mt.cf D) (D.length + 1) 0 m x)) i) := fun i hi => by
      have e : Mt.Su (fun x => Mt.pr (Mt.cf D) 0 x * (Mt.sm (Mt.cf L) (Mt.cf D) (D.length + 1) 0 n x * Mt.sm (Mt.cf L) (Mt.cf D) (D.length + 1) 0 m x)) i = Mt.Su (fun x => if x ≤ 7 then Mt.pr (Mt.cf D) 0 x * (Mt.sm (Mt.cf L) (Mt.cf D) (D.length + 1) 0 n x * Mt.sm (Mt.cf L) (Mt.cf D) (D.length + 1) 0 m x) else 0) i := Mt.Su_congr fun x hx => by rw [if_pos (by omega)]
      rw [e]
      have g := Mt.gd_Su (n := 21) (f := fun x => if x ≤ 7 then Mt.pr (Mt.cf D) 0 x * (Mt.sm (Mt.cf L) (Mt.cf D) (D.length + 1) 0 n x * Mt.sm (Mt.cf L) (Mt.cf D) (D.length + 1) 0 m x) else 0) (fun x => by
        show Mt.Gd 21 (if x ≤ 7 then _ else 0)
        split
        · rename_i z; exact g3 x z
        · exact Mt.Gd.zero) i
      exact (lat_sz (m := 1200) g (Nat.pow_pos (by decide)) (gd_le (by decide)).1 (Nat.lt_of_le_of_lt (Nat.mul_le_mul_right _ hi) (gd_le (by decide)).2)).mono (by decide)
    have at1 : ∀ x, x ≤ D.length → ∃ q, xs[x]? = some (.ref q) ∧ Fq K H5 q (Mt.sm (Mt.cf L) (Mt.cf D) (D.length + 1) 0 n x) := fun x hx => by
      obtain ⟨q, e, fq⟩ := fR5.at (j := x) (by simp; omega)
      refine ⟨q, e, ?_⟩
      rw [Mt.cf_map_range, if_pos (by omega), Mt.xn_nb (by omega) (by omega), Mt.smz, if_pos (by omega)] at fq
      exact fq
    have at2 : ∀ x, x ≤ D.length → ∃ q, ys[x]? = some (.ref q) ∧ Fq K H5 q (Mt.sm (Mt.cf L) (Mt.cf D) (D.length + 1) 0 m x) := fun x hx => by
      obtain ⟨q, e, fq⟩ := fR2.at (j := x) (by simp; omega)
      refine ⟨q, e, ?_⟩
      rw [Mt.cf_map_range, if_pos (by omega), Mt.xn_nb (by omega) (by omega), Mt.smz, if_pos (by omega)] at fq
      exact fq
    refine ⟨_, hw0, _, rfl, wa, rfl, us, .inr hu, by omega, fun j σ H' => ∃ (p q : Addr) (r7 : Option V), σ = [some (V.ref w), some (V.int n), some (V.int m), some (V.ref p), some (V.ref q), some (V.ref R), some (V.ref R2), r7] ∧ Same H5 H' ∧ Fq K H' p (Mt.Su (fun x => Mt.pr (Mt.cf D) 0 x * (Mt.sm (Mt.cf L) (Mt.cf D) (D.length + 1) 0 n x * Mt.sm (Mt.cf L) (Mt.cf D) (D.length + 1) 0 m x)) j) ∧ Fq K H' q (Mt.pr (Mt.cf D) 0 (j - 1)), ⟨t0, t1, none, rfl, Same.refl _, f0.same t5, f1.same t5⟩, ?_, ?_⟩
    · rintro j σ H6 hj ⟨p, q, r7, rfl, s6, fp, fq⟩
      rw [← lu] at hj
      obtain ⟨o1, eo1, fo1⟩ := at1 j (by omega)
      obtain ⟨o2, eo2, fo2⟩ := at2 j (by omega)
      refine tSeq_step fun N hN => ?_
      have go : ∀ (q : Addr) H7, Same H6 H7 → Fq K H7 q (Mt.pr (Mt.cf D) 0 j) → N [some (V.ref w), some (V.int n), some (V.int m), some (V.ref p), some (V.ref q), some (V.ref R), some (V.ref R2), some (V.int j)] H7 := by
        intro q H7 s7 fq
        refine hN _ _ ?_
        clear hN N
        have t7 := s6.trans s7
        walk_at "rd"
        refine ⟨_, SqL.of (t7 _ _ hR5), _, atI_nat eo1, _, SqL.of (t7 _ _ hR2), _, atI_nat eo2, o1, o2, _, _, rfl, fo1.same t7, fo2.same t7, (gd_sz (gs n j (by omega)) (by decide)).mono (by decide), (gd_sz (gs m j (by omega)) (by decide)).mono (by decide), fun u H8 s8 _ h8 => ?_⟩
        refine ⟨q, u, _, _, rfl, fq.same s8, Fq.of h8, (gd_sz (gp j (by omega)) (by decide)).mono (by decide), (gd_sz (Mt.gd_mul (gs n j (by omega)) (gs m j (by omega))) (by decide)).mono (by decide), fun v H9 s9 _ h9 => ?_⟩
        refine ⟨p, v, _, _, rfl, fp.same (s7.trans (s8.trans s9)), Fq.of h9, (sSu j (by omega)).mono (by decide), (gd_sz (g3 j (by omega)) (by decide)).mono (by decide), fun x H10 s10 _ h10 => ?_⟩
        exact ⟨x, q, ⟨rfl, rfl⟩, t7.trans (s8.trans (s9.trans s10)), Fq.of h10, fq.same (s8.trans (s9.trans s10))⟩
      walk_at "rd"
      split
      · rename_i j0
        obtain ⟨d, ed, fd⟩ := fv.at (j := j - 1) (by omega)
        have aed : atI vs ((j : Int) - 1) = some (.ref d) := by
          have := atI_nat ed
          rw [show ((j - 1 : Nat) : Int) = (j : Int) - 1 by omega] at this
          exact this
        refine ⟨_, s6.seqT hw0, _, rfl, wb, rfl, vs, s6.seqT hv, _, aed, q, d, _, _, rfl, fq, fd.same s6, (gd_sz (gp (j - 1) (by omega)) (by decide)).mono (by decide), (ws.sD _).mono (by decide), fun u H7 s7 _ h7 => go u H7 s7 ?_⟩
        have e : Mt.pr (Mt.cf D) 0 j = Mt.pr (Mt.cf D) 0 (j - 1) * Mt.cf D (j - 1) := by
          obtain ⟨i, rfl⟩ : ∃ i, j = i + 1 := ⟨j - 1, by omega⟩
          rw [Nat.add_sub_cancel, Mt.pr, Nat.zero_add]
        rw [e]
        exact Fq.of h7
      · rename_i j0
        obtain rfl : j = 0 := by omega
        exact go q H6 (Same.refl _) fq
    · rintro σ H6 ⟨p, q, r7, rfl, s6, fp, fq⟩
      rw [← lu, wn] at fp
      have e : Mt.Su (fun x => Mt.pr (Mt.cf D) 0 x * (Mt.sm (Mt.cf L) (Mt.cf D) (D.length + 1) 0 n x * Mt.sm (Mt.cf L) (Mt.cf D) (D.length + 1) 0 m x)) (D.length + 1) = Mt.sm (Mt.cf L) (Mt.cf D) (D.length + 1) 0 (n + m) 0 := by
        rw [← Mt.comp 0 n 0 m (D.length + 1) (Nat.le_refl _)]
        refine Mt.Su_congr fun x hx => ?_
        rw [Mt.bal (i := 0) (j := x) (Nat.zero_le _), Nat.sub_zero]
        grind
      rw [e] at fp
      refine hN _ _ ?_
      clear hN N
      walk_at "rd"
      exact hq p _ (s1.trans (t5.trans s6)) fp
abbrev s__law_ends_right : Stmt := top 68
theorem sc__law_ends_right : FnScope ["_law_weights_here", "_law_due", "_law_h", "_law_first", "_law_top", "_law_bottom", "_law_told", "_law_n"] ["_law_weights_here", "_law_due", "_law_h", "_law_first"] (defScope s__law_ends_right) := ⟨rfl, rfl, rfl, by decide +kernel, rfl, by decide +kernel, by decide +kernel⟩
theorem ok__law_ends_right {f : Addr} {fd : FuncData} (F : Fun K "_law_ends_right" "_law_ends_right" s__law_ends_right f fd) (m : mg "_law_ends_right" = some (.ref f)) (T : Tx w K mg C_HeightError C_NOUGHT C_NoFraction C_NoSeries C_NoWay C_NoWeights C_ONE C_RISES C_TooFar C_TooHigh C_TooMany) (c_end_of : Callee P w K mg base 6 "end_of" ["weights", "h"] (spEndOf K C_TooFar)) (c_series : Callee P w K mg base 4 "series" ["top", "bottom", "many"] (spSeries K C_NoSeries)) (c_sum_stepped : CalleeD P w K mg base 4 "sum_stepped" ["weights", "length", "first", "last", "below"] [.int 0, .int 0, .non] (spStepped K)) : Callee P w K mg base 7 "_law_ends_right" ["_law_weights_here", "_law_due", "_law_h", "_law_first"] (spEndsR K) := by
  refine ⟨f, fd, ?_, m, F.kp, F.binds fun _ _ _ _ _ _ us hl => match us, hl with | [_, _, _, _], _ => rfl⟩
  refine F.okE sc__law_ends_right (fun vs H Q E h => ?_) (fun cdv A outer s H vs Q E hr h => ?_)
  · obtain ⟨_, _, _, _, _, _, _, rfl, _⟩ := h
    rfl
  · obtain ⟨w, S, L, D, xs, h, f, rfl, hw, ws, hS, fS, hh, hf, hq⟩ := h
    refine ⟨_, (pss_cons (ps_asg (pe_c c_end_of (hr.mono (by decide)) np (pa_cons (pv 0) (pa_cons (pv 2) pa_nil))) (pg_tup rfl (pgs_cons (pg_name (i := 4) sc__law_ends_right.nd rfl (Or.inl rfl)) (pgs_cons (pg_name (i := 5) sc__law_ends_right.nd rfl (Or.inl rfl)) pgs_nil)))) (pss_cons (ps_set (i := 6) sc__law_ends_right.nd rfl (Or.inl rfl) (pe_c c_series (hr.mono (by decide)) np (pa_cons (pv 4) (pa_cons (pv 5) (pa_cons pe_int pa_nil))))) (pss_cons (ps_if (PW.pt (pw_or (pt_cmpR op_ne (pe_callB call_len_seq (by rfl) T.b_len PySem.boot_len (pa_cons (pv 6) pa_nil)) pe_int (nomark _)) (pw_or1 (pt_cmpR (op_neD hr.units) (pe_slice sl_list (pv 6) po_none (po_some (pe_op op_mul pe_int (pv 2)))) (pe_slice sl_list (pe_slice sl_list (pv 1) po_none (po_some (pe_op op_mul pe_int (pv 2)))) po_none (po_some pe_int)) (nomark _))))) (pss_one (ps_ret pe_bl)) pss_nil) (pss_cons (ps_forR3 rfl PassesOwn.never T.b_range (pv 3) pe_int pe_int (pg_name (i := 7) sc__law_ends_right.nd rfl (Or.inl rfl)) (pss_one (ps_if (pt_cmpR (op_neD hr.units) (pe_ix ix_list (pv 6) (pv 7) (fun _ _ => rfl)) (pe_cD 3 c_sum_stepped (hr.mono (by decide)) np (pa_cons (pv 0) (pa_cons (pv 7) (pa_cons pe_int (pa_cons pe_int (pa_cons (pv 2) pa_nil)))))) (nomark _)) (pss_one (ps_ret pe_bl)) pss_nil))) (pss_one (ps_ret pe_bl)))))), ?_⟩
    refine tSeq_step fun N hN => ?_
    walk_at "rd"
    refine ⟨w, h, L, D, rfl, hw, ws, (fun z => by omega), fun _ r H1 s1 hr1 => ?_⟩
    obtain ⟨wa, wb, hw0, h1, h2⟩ := hr1
    refine ⟨r, rfl, _, hw0, rfl, _, _, rfl, _, _, rfl, rfl, hN _ _ ?_⟩
    clear hN N
    refine tSeq_step fun N hN => ?_
    walk_at "rd"
    have wm := ws.m
    have wn := ws.n
    have lb := (gp_bt ws h)
    have lbt : (Mt.bt L D h).length ≤ 100 := by
      have := Mt.len_bt L D h
      omega
    refine ⟨wa, wb, _, _, 16, rfl, h1, h2, by decide, lbt, fun n => (Ln.sz ((gp_bt ws h).ln (by omega)) n).mono (by decide), fun _ i hi => (sn_sz ws (by omega)).mono (by decide), fun _ n j hn hj => (part_sz ws (by omega) (by omega) hj).mono (by decide), fun z => absurd z (Mt.bt0_ne _ _ _), fun _ SE H2 ts s2 nSE hSE fSE => hN _ _ ?_⟩
    clear hN N
    have s12 := s1.trans s2
    have hS2 := s12 _ _ hS
    have fS2 := fS.same s12
    have lts := fSE.len
    rw [Mt.sl_len] at lts
    have lxs := fS2.len
    rw [momL_len] at lxs
    refine tSeq_step fun N hN => ?_
    walk_at "rd"
    refine ⟨_, .inl (SqL.of hSE), .inl ⟨by rw [← lts]; rfl, .inl ⟨by decide, by decide⟩, SE, _, rfl, SqL.of hSE, fun c1 n1 => ⟨.inl ⟨by decide, by decide⟩, ?_⟩⟩⟩
    have e2h : (2 * (h : Int)) = ((2 * h : Nat) : Int) := by omega
    rw [e2h]
    have u1 := same_upd (o := .lst (cutV ts none (some ((2 * h : Nat) : Int)))) n1
    refine ⟨S, _, rfl, SqL.of (u1 _ _ hS2), fun c2 n2 => ⟨c2, _, rfl, SqL.of upd_same, fun c3 n3 => ?_⟩⟩
    have u2 := same_upd (o := .lst (cutV xs none (some ((2 * h : Nat) : Int)))) n2
    have u3 := same_upd (o := .lst (cutV (cutV xs none (some ((2 * h : Nat) : Int))) none (some 16))) n3
    have r1 := rep_lst (u3 _ _ (u2 _ _ upd_same)) ((lst_take fSE (2 * h)).same (u1.trans (u2.trans u3)))
    have r2 := rep_lst (K := K) (H := upd (upd (upd H2 c1 (.lst (cutV ts none (some ((2 * h : Nat) : Int))))) c2 (.lst (cutV xs none (some ((2 * h : Nat) : Int))))) c3 (.lst (cutV (cutV xs none (some ((2 * h : Nat) : Int))) none (some 16)))) upd_same ((lst_take (lst_take fS2 (2 * h)) 16).same (u1.trans (u2.trans u3)))
    rw [ends_take ws hh] at r1
    have s3 := u1.trans (u2.trans u3)
    refine neD_same _ r1 r2 (by have := lstD_dep (((momL L D).take (2 * h)).take 16); omega) (by have := lstD_dep (((momL L D).take (2 * h)).take 16); omega) (.inl ⟨rfl, hN _ _ ?_⟩)
    clear hN N r1 r2
    have hw3 := hw.same (s12.trans s3)
    have hSE3 := s3 _ _ hSE
    have fSE3 := fSE.same s3
    have st3 := s12.trans s3
    generalize upd (upd (upd H2 c1 (.lst (cutV ts none (some ((2 * h : Nat) : Int))))) c2 (.lst (cutV xs none (some ((2 * h : Nat) : Int))))) c3 (.lst (cutV (cutV xs none (some ((2 * h : Nat) : Int))) none (some 16))) = H3 at *
    refine tSeq_step fun N hN => ?_
    walk_at "rd"
    have bdh : bdOf D.length (.int h) = h := by show min (D.length + 1) (h : Int).toNat = h; omega
    have main : ∀ c : Nat, f + 3 * c ≤ 18 → FR3 (f : Int) 3 c (gName 7) (tIfS (tTest (tOp (rEqD K true) (tOp (rIxL K) (tVar 6) (tVar 7)) (tCall (spStepped K) [] E0 (tCons (tVar 0) (tCons (tVar 7) (tCons (tC (V.int 0)) (tCons (tC (V.int 0)) (tCons (tVar 2) tNil)))))))) (tRet (tC (V.bl false))) tNext) { nx := N, rt := Q } [some (V.ref w), some (V.ref S), some (V.int h), some (V.int f), some (V.ref wa), some (V.ref wb), some (V.ref SE), none] H3 := by
      intro c hc
      refine ⟨fun i σ H' => ∃ r7, σ = [some (V.ref w), some (V.ref S), some (V.int h), some (V.int f), some (V.ref wa), some (V.ref wb), some (V.ref SE), r7] ∧ Same H3 H', ⟨none, rfl, Same.refl _⟩, ?_, ?_⟩
      · rintro i σ H4 hi ⟨r7, rfl, s4⟩
        obtain ⟨x, ex, hx⟩ : ∃ x : Nat, (f : Int) + (i : Int) * 3 = x ∧ x < 16 := ⟨f + i * 3, by omega, by omega⟩
        obtain ⟨q, eq, fq⟩ := fSE3.at (j := x) (by rw [Mt.sl_len]; exact hx)
        rw [sl_ends, Mt.cf_map_range, if_pos hx] at fq
        rw [ex]
        walk_at "rd"
        refine ⟨_, SqL.of (s4 _ _ hSE3), _, atI_nat eq, w, L, D, x, 0, 0, .int h, rfl, hw3.same s4, ws, .inr ⟨h, rfl⟩, by omega, by simp [tooFar, lowOf]; omega, fun r H5 s5 h5 => ?_⟩
        rw [bdh] at h5
        exact neD_same (frD _) (rep_fr (fq.same (s4.trans s5))) (rep_fr h5) (by rw [frD_dep]; decide) (by rw [frD_dep]; decide) (.inl ⟨rfl, s4.trans s5⟩)
      · rintro σ H4 ⟨r7, rfl, s4⟩
        refine hN _ _ ?_
        walk_at "rd"
        exact hq _ (st3.trans s4)
    rcases (show f = 0 ∨ f = 1 ∨ f = 2 by omega) with rfl | rfl | rfl
    · exact ⟨by decide, by decide, 6, by decide, main 6 (by decide)⟩
    · exact ⟨by decide, by decide, 5, by decide, main 5 (by decide)⟩
    · exact ⟨by decide, by decide, 5, by decide, main 5 (by decide)⟩
abbrev s_law : Stmt := top 69
theorem sc_law : FnScope ["_law_script", "_law_k", "_law_levels", "_law_downs", "_law_weights_here", "_law_due", "_law_first", "_law_n", "_law_top", "_law_bottom", "_law_m"] ["_law_script"] (defScope s_law) := ⟨rfl, rfl, rfl, by decide +kernel, rfl, by decide +kernel, by decide +kernel⟩
theorem fn_law {f : Addr} {fd : FuncData} (F : Fun K "law" "law" s_law f fd) (T : Tx w K mg C_HeightError C_NOUGHT C_NoFraction C_NoSeries C_NoWay C_NoWeights C_ONE C_RISES C_TooFar C_TooHigh C_TooMany) (c__law_by_row : Callee P w K mg base 8 "_law_by_row" ["_law_weights_here", "_law_n", "_law_m"] (spByRow K)) (c__law_ends_right : Callee P w K mg base 7 "_law_ends_right" ["_law_weights_here", "_law_due", "_law_h", "_law_first"] (spEndsR K)) (c__law_lowest : Callee P w K mg base 1 "_law_lowest" ["_law_top", "_law_bottom"] (spLow)) (c__law_power : Callee P w K mg base 1 "_law_power" ["_law_n"] (spPower K)) (c__law_stir : Callee P w K mg base 1 "_law_stir" ["_law_script", "_law_k"] (spStir2 K)) (c__law_weights : Callee P w K mg base 3 "_law_weights" ["_law_script", "_law_begin", "_law_k"] (spWeights K)) (c_end_of : Callee P w K mg base 6 "end_of" ["weights", "h"] (spEndOf K C_TooFar)) (c_moments : Callee P w K mg base 5 "moments" ["weights"] (spMoments K)) (c_ruled : Callee P w K mg base 3 "ruled" ["moments", "poly"] (spRuledG K C_TooFar)) (c_series : Callee P w K mg base 4 "series" ["top", "bottom", "many"] (spSeries K C_NoSeries)) (c_sum_listed : CalleeD P w K mg base 6 "sum_listed" ["weights", "length", "first", "last", "below"] [.int 0, .int 0, .non] (spSumL K C_TooFar C_TooMany)) (c_sum_stepped : CalleeD P w K mg base 4 "sum_stepped" ["weights", "length", "first", "last", "below"] [.int 0, .int 0, .non] (spStepped K)) (c_weights_of : Callee P w K mg base 1 "weights_of" ["levels", "downs"] (spWof K C_NoWeights)) : FnOk P w K mg base (CXe P w) 9 f fd ["_law_script"] (spLaw K) := by
  refine F.okE sc_law (fun vs H Q E h => ?_) (fun cdv A outer s H vs Q E hr h => ?_)
  · obtain ⟨_, _, rfl, _⟩ := h
    rfl
  · obtain ⟨a, ns, rfl, hs, hl, hq⟩ := h
    refine ⟨_, (pss_cons (ps_set (i := 1) sc_law.nd rfl (Or.inl rfl) (pe_op op_mod (pe_c c__law_stir (hr.mono (by decide)) np (pa_cons (pv 0) (pa_cons pe_int pa_nil))) pe_int)) (pss_cons (ps_if (pt_cmpR op_eq (pe_op op_mod (pe_c c__law_stir (hr.mono (by decide)) np (pa_cons (pv 0) (pa_cons pe_int pa_nil))) pe_int) pe_int (nomark _)) (pss_one (ps_set (i := 1) sc_law.nd rfl (Or.inl rfl) (pe_op op_mod (pv 1) pe_int))) pss_nil) (pss_cons (ps_asg (pe_c c__law_weights (hr.mono (by decide)) np (pa_cons (pv 0) (pa_cons pe_int (pa_cons (pv 1) pa_nil)))) (pg_tup rfl (pgs_cons (pg_name (i := 2) sc_law.nd rfl (Or.inl rfl)) (pgs_cons (pg_name (i := 3) sc_law.nd rfl (Or.inl rfl)) pgs_nil)))) (pss_cons (ps_if (pt_cmpR op_gt (pv 1) pe_int (nomark _)) (pss_cons (PCo.ps (i := 2) (coL (pv 2) (fun _ hpi => pe_comp0 ["_law_a"] rfl hpi (fun _ _ _ _ _ => (pg_name (i := 0) (show List.Nodup [("_law_a" : Str)] by decide +kernel) rfl (Or.inl rfl) (Or.inr rfl)).mo) (fun _ _ _ _ _ => PE.mo (pe_c c__law_lowest (hr.mono (by decide)) np (pa_cons (pe_op op_sub (pe_op op_mod (pe_ix (show IxR _ (rFqI K) from ix_fq) (pv 0) pe_int (fun _ _ => rfl)) pe_int) pe_int) (pa_cons (pe_op op_add pe_int (pe_op op_mod (pe_ix (show IxR _ (rFqI K) from ix_fq) (pv 0) pe_int (fun _ _ => rfl)) pe_int)) pa_nil)))))) sc_law.nd rfl (Or.inl rfl)) (pss_one (PCo.ps (i := 3) (coL (pv 3) (fun _ hpi => pe_comp0 ["_law_a"] rfl hpi (fun _ _ _ _ _ => (pg_name (i := 0) (show List.Nodup [("_law_a" : Str)] by decide +kernel) rfl (Or.inl rfl) (Or.inr rfl)).mo) (fun _ _ _ _ _ => PE.mo (pe_c c__law_lowest (hr.mono (by decide)) np (pa_cons (pe_op op_sub (pe_op op_mod (pe_ix (show IxR _ (rFqI K) from ix_fq) (pv 0) pe_int (fun _ _ => rfl)) pe_int) pe_int) (pa_cons (pe_op op_add pe_int (pe_op op_mod (pe_ix (show IxR _ (rFqI K) from ix_fq) (pv 0) pe_int (fun _ _ => rfl)) pe_int)) pa_nil)))))) sc_law.nd rfl (Or.inl rfl)))) pss_nil) (pss_cons (ps_set (i := 4) sc_law.nd rfl (Or.inl rfl) (pe_c c_weights_of (hr.mono (by decide)) np (pa_cons (pv 2) (pa_cons (pv 3) pa_nil)))) (pss_cons (ps_set (i := 5) sc_law.nd rfl (Or.inl rfl) (pe_c c_moments (hr.mono (by decide)) np (pa_cons (pv 4) pa_nil))) (pss_cons (ps_set (i := 6) sc_law.nd rfl (Or.inl rfl) (pe_op op_mod (pe_c c__law_stir (hr.mono (by decide)) np (pa_cons (pv 0) (pa_cons pe_int pa_nil))) pe_int)) (pss_cons (ps_forR rfl PassesOwn.never T.b_range (pe_callB call_len_seq (by rfl) T.b_len PySem.boot_len (pa_cons (pv 5) pa_nil)) (pg_name (i := 7) sc_law.nd rfl (Or.inl rfl)) (pss_one (ps_if (PW.pt (pw_or (PW.pt (pw_and (pt_cmpR op_eq (pe_op op_mod (pv 7) pe_int) (pv 6) (nomark _)) (pw_and1 (pt_cmpR (op_neD hr.units) (pe_cD 0 c_sum_stepped (hr.mono (by decide)) np (pa_cons (pv 4) (pa_cons (pv 7) pa_nil))) (pe_ix ix_list (pv 5) (pv 7) (fun _ _ => rfl)) (nomark _))))) (pw_or1 (PW.pt (pw_and (pt_cmpR op_lt (pv 7) pe_int (nomark _)) (pw_and1 (pt_cmpR (op_neD hr.units) (pe_cD 0 c_sum_listed (hr.mono (by decide)) np (pa_cons (pv 4) (pa_cons (pv 7) pa_nil))) (pe_ix ix_list (pv 5) (pv 7) (fun _ _ => rfl)) (nomark _)))))))) (pss_one (ps_ret pe_bl)) pss_nil))) (pss_cons (ps_asg (pe_c c_end_of (hr.mono (by decide)) np (pa_cons (pv 4) (pa_cons (pe_op op_add (pv 1) pe_int) pa_nil))) (pg_tup rfl (pgs_cons (pg_name (i := 8) sc_law.nd rfl (Or.inl rfl)) (pgs_cons (pg_name (i := 9) sc_law.nd rfl (Or.inl rfl)) pgs_nil)))) (pss_cons (ps_if (pt_cmpR (op_neD hr.units) (pe_c c_series (hr.mono (by decide)) np (pa_cons (pv 8) (pa_cons (pv 9) (pa_cons (pe_op op_add (pe_op op_mul pe_int (pv 1)) pe_int) pa_nil)))) (pv 5) (nomark _)) (pss_one (ps_ret pe_bl)) pss_nil) (pss_cons (ps_if (pt_not (pt_val (pe_c c__law_ends_right (hr.mono (by decide)) np (pa_cons (pv 4) (pa_cons (pv 5) (pa_cons (pe_op op_mod (pe_c c__law_stir (hr.mono (by decide)) np (pa_cons (pv 0) (pa_cons pe_int pa_nil))) (pe_op op_add (pv 1) pe_int)) (pa_cons (pv 6) pa_nil))))))) (pss_one (ps_ret pe_bl)) pss_nil) (pss_cons (ps_set (i := 7) sc_law.nd rfl (Or.inl rfl) (pe_op op_mod (pe_c c__law_stir (hr.mono (by decide)) np (pa_cons (pv 0) (pa_cons pe_int pa_nil))) (pe_op op_add (pv 1) pe_int))) (pss_cons (ps_set (i := 10) sc_law.nd rfl (Or.inl rfl) (pe_op op_mod (pe_c c__law_stir (hr.mono (by decide)) np (pa_cons (pv 0) (pa_cons pe_int pa_nil))) (pe_op op_add (pv 1) pe_int))) (pss_one (ps_ret (pe_and (pe_cmpR (op_eqD hr.units) (pe_c c__law_by_row (hr.mono (by decide)) np (pa_cons (pv 4) (pa_cons (pv 7) (pa_cons (pv 10) pa_nil)))) (pe_ix ix_list (pv 5) (pe_op op_add (pv 7) (pv 10)) (fun _ _ => rfl)) (nomark _)) (pe_one (pe_cmpR (op_eqD hr.units) (pe_c c_ruled (hr.mono (by decide)) np (pa_cons (pv 5) (pa_cons (pe_c c__law_power (hr.mono (by decide)) np (pa_cons (pe_op op_add (pv 7) (pv 10)) pa_nil)) pa_nil))) (pe_ix ix_list (pv 5) (pe_op op_add (pv 7) (pv 10)) (fun _ _ => rfl)) (nomark _))))))))))))))))))), ?_⟩
    refine tSeq_step fun N hN => ?_
    walk_at "rd"
    refine ⟨a, ns, 0, rfl, hs, by decide, by decide, fun x0 p0 q0 => ⟨x0, rfl, hN _ _ ?_⟩⟩
    clear hN N
    obtain ⟨k0, ek, hk0⟩ : ∃ k : Nat, x0 % 8 = k ∧ k ≤ 7 := ⟨(x0 % 8).toNat, by omega, by omega⟩
    rw [ek]
    refine tSeq_step fun N hN => ?_
    have go1 : ∀ k : Nat, k ≤ 7 → N [some (V.ref a), some (V.int k), none, none, none, none, none, none, none, none, none] H := by
      intro k hk
      refine hN _ _ ?_
      clear hN N
      refine tSeq_step fun N hN => ?_
      walk_at "rd"
      refine ⟨a, ns, 1, k, rfl, hs, by decide, by decide, hk, fun P D1 D2 H2 x1 x2 L D s2 n1 n2 ne eP e1 e2 f1 f2 ws lD => ?_⟩
      refine ⟨P, rfl, _, SqT.of eP, rfl, _, _, rfl, _, _, rfl, rfl, hN _ _ ?_⟩
      clear hN N
      have hs2 := s2.seqL hs
      refine tSeq_step fun N hN => ?_
      have go2 : ∀ (D1 D2 : Addr) (x1 x2 : List V) (L D : List Rat) H3, Same H2 H3 → H3 D1 = some (.lst x1) → H3 D2 = some (.lst x2) → Frs K H3 L x1 → Frs K H3 D x2 → Ws L D → D.length = k → N [some (V.ref a), some (V.int k), some (V.ref D1), some (V.ref D2), none, none, none, none, none, none, none] H3 := by
        intro D1 D2 x1 x2 L D H3 s3 e1 e2 f1 f2 ws lD
        refine hN _ _ ?_
        clear hN N
        have hs3 := s3.seqL hs2
        have wn := ws.n
        have wm := ws.m
        refine tSeq_step fun N hN => ?_
        walk_at "rd"
        refine ⟨D1, D2, x1, x2, L, D, rfl, e1, e2, f1, f2, (fun bad => absurd ⟨wn, by omega⟩ bad), fun _ _ w H4 s4 hw => hN _ _ ?_⟩
        clear hN N
        have hs4 := s4.seqL hs3
        refine tSeq_step fun N hN => ?_
        walk_at "rd"
        refine ⟨w, L, D, rfl, hw, ws, fun S H5 ys s5 nS hS fS => hN _ _ ?_⟩
        clear hN N
        have hs5 := s5.seqL hs4
        have hw5 := hw.same s5
        have lys := fS.len
        rw [momL_len] at lys
        refine tSeq_step fun N hN => ?_
        walk_at "rd"
        refine ⟨a, ns, 34, rfl, hs5, by decide, by decide, fun x34 _ _ => ⟨x34, rfl, hN _ _ ?_⟩⟩
        clear hN N
        obtain ⟨f, ef, hf⟩ : ∃ f : Nat, x34 % 3 = f ∧ f < 3 := ⟨(x34 % 3).toNat, by omega, by omega⟩
        rw [ef]
        refine tSeq_step fun N hN => ?_
        walk_at "rd"
        have msm : ∀ n, n < 2 * D.length + 2 → ∃ q, ys[n]? = some (.ref q) ∧ Fq K H5 q (Mt.sm (Mt.cf L) (Mt.cf D) (D.length + 1) 0 n 0) := fun n hn => by
          obtain ⟨q, e, fq⟩ := fS.at (j := n) (by rw [momL_len]; exact hn)
          rw [momL_at hn] at fq
          exact ⟨q, e, fq⟩
        refine ⟨_, .inl (SqL.of hS), by omega, fun n σ H' => ∃ r7, σ = [some (V.ref a), some (V.int k), some (V.ref D1), some (V.ref D2), some (V.ref w), some (V.ref S), some (V.int f), r7, none, none, none] ∧ Same H5 H', ⟨none, rfl, Same.refl _⟩, ?_, ?_⟩
        · rintro n σ H6 hn ⟨r7, rfl, s6⟩
          rw [← lys] at hn
          obtain ⟨q, eq, fq⟩ := msm n hn
          have tf : tooFar D.length n 0 0 .non = false := by simp [tooFar, lowOf]; omega
          walk_at "rd"
          have lst : ∀ H7, Same H6 H7 → (n : Int) < 8 → spSumL K C_TooFar C_TooMany [V.ref w, V.int n, V.int 0, V.int 0, V.non] H7 (fun x H1 => ∃ x_1, SqL K H1 S x_1 ∧ ∃ x_2, atI x_1 (n : Int) = some x_2 ∧ rEqD K true x x_2 H1 fun x H' => x = V.bl false ∧ Same H5 H' ∨ x = V.bl true ∧ Q (V.bl false) H') E0 := by
            intro H7 s7 lt8
            have t7 := s6.trans s7
            refine ⟨w, L, D, n, 0, 0, .non, rfl, hw5.same t7, ws, .inl rfl, by omega, by decide, by decide, (fun z => by rw [tf] at z; cases z), (fun _ big => absurd (few7 n (by omega)) (by have : 400 < cnt none 0 n 0 := big; omega)), fun _ _ r H8 s8 h8 => ⟨_, SqL.of ((t7.trans s8) _ _ hS), _, atI_nat eq, ?_⟩⟩
            exact neD_same (frD _) (rep_fr h8) (rep_fr (fq.same (t7.trans s8))) (by rw [frD_dep]; decide) (by rw [frD_dep]; decide) (.inl ⟨rfl, t7.trans s8⟩)
          split
          · refine ⟨w, L, D, n, 0, 0, .non, rfl, hw5.same s6, ws, .inl rfl, by omega, tf, fun r H7 s7 h7 => ⟨_, SqL.of ((s6.trans s7) _ _ hS), _, atI_nat eq, ?_⟩⟩
            refine neD_same (frD _) (rep_fr h7) (rep_fr (fq.same (s6.trans s7))) (by rw [frD_dep]; decide) (by rw [frD_dep]; decide) (.inl ⟨rfl, ?_⟩)
            split
            · rename_i lt8
              exact lst H7 s7 lt8
            · exact s6.trans s7
          · split
            · rename_i lt8
              exact lst H6 (Same.refl _) lt8
            · exact s6
        · rintro σ H6 ⟨r7, rfl, s6⟩
          refine hN _ _ ?_
          clear hN N
          have hw6 := hw5.same s6
          have hs6 := s6.seqL hs5
          have hS6 := s6 _ _ hS
          have fS6 := fS.same s6
          refine tSeq_step fun N hN => ?_
          walk_at "rd"
          refine ⟨w, k + 1, L, D, by simp, hw6, ws, (fun z => by omega), fun _ r H7 s7 hr7 => ?_⟩
          obtain ⟨wa, wb, hw0, h1, h2⟩ := hr7
          refine ⟨r, rfl, _, hw0, rfl, _, _, rfl, _, _, rfl, rfl, hN _ _ ?_⟩
          clear hN N
          have hw7 := hw6.same s7
          have hs7 := s7.seqL hs6
          have hS7 := s7 _ _ hS6
          have fS7 := fS6.same s7
          have lbt := Mt.len_bt L D (k + 1)
          refine tSeq_step fun N hN => ?_
          walk_at "rd"
          refine ⟨.inl ⟨by decide, by decide⟩, wa, wb, _, _, 2 * k + 2, by simp, h1, h2, by omega, by omega, fun n => (Ln.sz ((gp_bt ws (k + 1)).ln (by omega)) n).mono (by decide), fun _ i hi => (sn_sz ws (by omega)).mono (by decide), fun _ n j hn hj => (part_sz ws (by omega) (by omega) hj).mono (by decide), fun z => absurd z (Mt.bt0_ne _ _ _), fun _ SE H8 ts s8 nSE hSE fSE => ?_⟩
          have em : Mt.sl (Mt.tp L D (k + 1)) (Mt.bt L D (k + 1)) (2 * k + 2) = momL L D := by
            rw [sl_ends, momL, lD]
          rw [em] at fSE
          refine neD_same _ (rep_lst hSE fSE) (rep_lst (s8 _ _ hS7) (fS7.same s8)) (by have := lstD_dep (momL L D); omega) (by have := lstD_dep (momL L D); omega) (.inl ⟨rfl, hN _ _ ?_⟩)
          clear hN N
          have hw8 := hw7.same s8
          have hs8 := s8.seqL hs7
          have hS8 := s8 _ _ hS7
          have fS8 := fS7.same s8
          refine tSeq_step fun N hN => ?_
          walk_at "rd"
          refine ⟨a, ns, 31, rfl, hs8, by decide, by decide, fun x31 _ _ => ⟨x31, rfl, by omega, ?_⟩⟩
          obtain ⟨h, eh, hh⟩ : ∃ h : Nat, x31 % ((k : Int) + 2) = h ∧ h ≤ k + 1 := by
            have h0 := Int.emod_nonneg x31 (show (k : Int) + 2 ≠ 0 by omega)
            have h1 := Int.emod_lt_of_pos x31 (show 0 < (k : Int) + 2 by omega)
            exact ⟨(x31 % ((k : Int) + 2)).toNat, by omega, by omega⟩
          rw [eh]
          refine ⟨w, S, L, D, ys, h, f, rfl, hw8, ws, hS8, fS8, by omega, hf, fun H9 s9 => .inr ⟨rfl, hN _ _ ?_⟩⟩
          clear hN N
          have hs9 := s9.seqL hs8
          refine tSeq_step fun N hN => ?_
          walk_at "rd"
          refine ⟨a, ns, 32, rfl, hs9, by decide, by decide, fun x32 _ _ => ⟨x32, rfl, hN _ _ ?_⟩⟩
          clear hN N
          obtain ⟨n, en, hn⟩ : ∃ n : Nat, x32 % ((k : Int) + 1) = n ∧ n ≤ k := by
            have h0 := Int.emod_nonneg x32 (show (k : Int) + 1 ≠ 0 by omega)
            have h1 := Int.emod_lt_of_pos x32 (show 0 < (k : Int) + 1 by omega)
            exact ⟨(x32 % ((k : Int) + 1)).toNat, by omega, by omega⟩
          rw [en]
          refine tSeq_step fun N hN => ?_
          walk_at "rd"
          refine ⟨a, ns, 33, rfl, hs9, by decide, by decide, fun x33 _ _ => ⟨x33, rfl, hN _ _ ?_⟩⟩
          clear hN N
          obtain ⟨m, em2, hm⟩ : ∃ n : Nat, x33 % ((k : Int) + 1) = n ∧ n ≤ k := by
            have h0 := Int.emod_nonneg x33 (show (k : Int) + 1 ≠ 0 by omega)
            have h1 := Int.emod_lt_of_pos x33 (show 0 < (k : Int) + 1 by omega)
            exact ⟨(x33 % ((k : Int) + 1)).toNat, by omega, by omega⟩
          rw [em2]
          have hw9 := hw8.same s9
          have hS9 := s9 _ _ hS8
          have fS9 := fS8.same s9
          walk_at "rd"
          have enm : (n : Int) + m = ((n + m : Nat) : Int) := by omega
          rw [enm]
          obtain ⟨q, eq, fq⟩ := fS9.at (j := n + m) (by rw [momL_len]; omega)
          have fq2 := fq
          rw [momL_at (by omega)] at fq2
          refine ⟨w, L, D, n, m, rfl, hw9, ws, by omega, by omega, fun r H10 s10 h10 => ⟨_, SqL.of (s10 _ _ hS9), _, atI_nat eq, ?_⟩⟩
          refine eqD_same (frD _) (rep_fr h10) (rep_fr (fq2.same s10)) (by rw [frD_dep]; decide) (by rw [frD_dep]; decide) (.inr ⟨rfl, n + m, rfl, by omega, fun p H11 s11 h11 => ?_⟩)
          have t11 := s10.trans s11
          refine ⟨S, p, ys, momL L D, _, rfl, SqL.of (t11 _ _ hS9), fS9.same t11, h11, by simp [Mt.xn]; omega, mom_sz ws, ?_, ?_, (fun z => by rw [momL_len] at z; simp [Mt.xn] at z; omega), fun _ r2 H12 s12 h12 => ⟨_, SqL.of ((t11.trans s12) _ _ hS9), _, atI_nat eq, ?_⟩⟩
          · intro x
            rw [cf_xn]
            split
            · exact wg_sz wg_one
            · exact Sz.zero (by decide)
          · intro i _
            rw [Su_xn]
            split
            · exact (mom_sz ws _).mono (by decide)
            · exact Sz.zero (by decide)
          · rw [dot_xj] at h12
            exact eqD_same (frD _) (rep_fr h12) (rep_fr (fq.same (t11.trans s12))) (by rw [frD_dep]; decide) (by rw [frD_dep]; decide) (hq _)
      walk_at "rd"
      have low : ∀ (p : Addr) (q : Rat) (H' : Hp) (R : VK), Fq K H' p q → (∀ r H3 q', Same H' H3 → Fq K H3 r q' → Mt.Wg q' → R (.ref r) H3) → spLow [V.int (q.num % 199 - 99), V.int (1 + (q.den : Int) % 4)] H' R E0 := fun p q H' R fq kk => ⟨_, _, rfl, by omega, Bd.mono (m := 64) (show (_ : Nat) < _ by omega) (by decide), fun u nu => kk u _ _ (same_upd nu) (Fq.of upd_same) (Mt.wg_low (by omega) (by omega) (by omega))⟩
      split
      · refine ⟨x1, SqL.of e1, ?_⟩
        refine CO.frsP (K := K) Mt.Wg (by have := f1.len; have := ws.n; have := ws.m; omega) (fun H' sm => SqL.of (sm _ _ e1)) (fun i H' x R hi sm hx kk => ?_) fun S1 H3 xs1 g1 s3 nS1 hS1 fS1 lg1 wg1 => ?_
        · have hi2 : i < L.length := by have := f1.len; omega
          obtain ⟨p, e, fq⟩ := f1.at (j := i) (by omega)
          rw [hx] at e
          obtain rfl := Option.some.inj e
          have fq' := fq.same sm
          walk_at "rd"
          exact ⟨_, fq', _, fq', low p _ H' R fq' fun r H3 q' s h w => kk r H3 q' s h w⟩
        refine ⟨x2, SqL.of (s3 _ _ e2), ?_⟩
        refine CO.frsP (K := K) Mt.Wg (by have := f2.len; have := ws.m; omega) (fun H' sm => SqL.of (sm _ _ (s3 _ _ e2))) (fun i H' x R hi sm hx kk => ?_) fun S2 H4 xs2 g2 s4 nS2 hS2 fS2 lg2 wg2 => ?_
        · have hi2 : i < D.length := by have := f2.len; omega
          obtain ⟨p, e, fq⟩ := f2.at (j := i) (by omega)
          rw [hx] at e
          obtain rfl := Option.some.inj e
          have fq' := fq.same (s3.trans sm)
          walk_at "rd"
          exact ⟨_, fq', _, fq', low p _ H' R fq' fun r H3 q' s h w => kk r H3 q' s h w⟩
        refine go2 S1 S2 xs1 xs2 g1 g2 H4 (s3.trans s4) (s4 _ _ hS1) hS2 (fS1.same s4) fS2 ⟨wg1, wg2, ?_, ?_⟩ ?_
        · have := f1.len; have := f2.len; have := ws.n; omega
        · have := f2.len; have := ws.m; omega
        · have := f2.len; omega
      · exact go2 D1 D2 x1 x2 L D H2 (Same.refl _) e1 e2 f1 f2 ws lD
    walk_at "rd"
    refine ⟨a, ns, 30, rfl, hs, by decide, by decide, fun x30 _ _ => ⟨x30, rfl, ?_⟩⟩
    split
    · obtain ⟨k5, e5, h5⟩ : ∃ k : Nat, ((k0 : Nat) : Int) % 5 = k ∧ k ≤ 7 := ⟨k0 % 5, by omega, by omega⟩
      rw [e5]
      exact go1 k5 h5
    · exact go1 k0 hk0
end
theorem all_mk {l : PySem.W.OpenLaw} {w : World} {K : PySem.W.Frag} {h : Heap} {mg : Str → Option Value} {fa : Addr} {f_shared_part : Addr} {od_shared_part an_shared_part : Option Addr} {sl_shared_part : Array (Option Value)} {oc_shared_part kV_shared_part dc_shared_part pm_shared_part cd_shared_part ct_shared_part : Value} {f_plus : Addr} {od_plus an_plus : Option Addr} {sl_plus : Array (Option Value)} {oc_plus kV_plus dc_plus pm_plus cd_plus ct_plus : Value} {f_minus : Addr} {od_minus an_minus : Option Addr} {sl_minus : Array (Option Value)} {oc_minus kV_minus dc_minus pm_minus cd_minus ct_minus : Value} {f_times : Addr} {od_times an_times : Option Addr} {sl_times : Array (Option Value)} {oc_times kV_times dc_times pm_times cd_times ct_times : Value} {f_over : Addr} {od_over an_over : Option Addr} {sl_over : Array (Option Value)} {oc_over kV_over dc_over pm_over cd_over ct_over : Value} {f_poly_of : Addr} {od_poly_of an_poly_of : Option Addr} {sl_poly_of : Array (Option Value)} {oc_poly_of kV_poly_of dc_poly_of pm_poly_of cd_poly_of ct_poly_of : Value} {f_number_at : Addr} {od_number_at an_number_at : Option Addr} {sl_number_at : Array (Option Value)} {oc_number_at kV_number_at dc_number_at pm_number_at cd_number_at ct_number_at : Value} {f_poly_plus : Addr} {od_poly_plus an_poly_plus : Option Addr} {sl_poly_plus : Array (Option Value)} {oc_poly_plus kV_poly_plus dc_poly_plus pm_poly_plus cd_poly_plus ct_poly_plus : Value} {f_poly_scaled : Addr} {od_poly_scaled an_poly_scaled : Option Addr} {sl_poly_scaled : Array (Option Value)} {oc_poly_scaled kV_poly_scaled dc_poly_scaled pm_poly_scaled cd_poly_scaled ct_poly_scaled : Value} {f_poly_minus : Addr} {od_poly_minus an_poly_minus : Option Addr} {sl_poly_minus : Array (Option Value)} {oc_poly_minus kV_poly_minus dc_poly_minus pm_poly_minus cd_poly_minus ct_poly_minus : Value} {f_poly_times : Addr} {od_poly_times an_poly_times : Option Addr} {sl_poly_times : Array (Option Value)} {oc_poly_times kV_poly_times dc_poly_times pm_poly_times cd_poly_times ct_poly_times : Value} {f_degree_of : Addr} {od_degree_of an_degree_of : Option Addr} {sl_degree_of : Array (Option Value)} {oc_degree_of kV_degree_of dc_degree_of pm_degree_of cd_degree_of ct_degree_of : Value} {f_heights_along : Addr} {od_heights_along an_heights_along : Option Addr} {sl_heights_along : Array (Option Value)} {oc_heights_along kV_heights_along dc_heights_along pm_heights_along cd_heights_along ct_heights_along : Value} {f_is_within : Addr} {od_is_within an_is_within : Option Addr} {sl_is_within : Array (Option Value)} {oc_is_within kV_is_within dc_is_within pm_is_within cd_is_within ct_is_within : Value} {f_one_step_longer : Addr} {od_one_step_longer an_one_step_longer : Option Addr} {sl_one_step_longer : Array (Option Value)} {oc_one_step_longer kV_one_step_longer dc_one_step_longer pm_one_step_longer cd_one_step_longer ct_one_step_longer : Value} {f_ways_to_go : Addr} {od_ways_to_go an_ways_to_go : Option Addr} {sl_ways_to_go : Array (Option Value)} {oc_ways_to_go kV_ways_to_go dc_ways_to_go pm_ways_to_go cd_ways_to_go ct_ways_to_go : Value} {f_ways_counted : Addr} {od_ways_counted an_ways_counted : Option Addr} {sl_ways_counted : Array (Option Value)} {oc_ways_counted kV_ways_counted dc_ways_counted pm_ways_counted cd_ways_counted ct_ways_counted : Value} {dV_ways_counted : Value} {f_way_at : Addr} {od_way_at an_way_at : Option Addr} {sl_way_at : Array (Option Value)} {oc_way_at kV_way_at dc_way_at pm_way_at cd_way_at ct_way_at : Value} {f_ways_listed : Addr} {od_ways_listed an_ways_listed : Option Addr} {sl_ways_listed : Array (Option Value)} {oc_ways_listed kV_ways_listed dc_ways_listed pm_ways_listed cd_ways_listed ct_ways_listed : Value} {dV_ways_listed : Value} {f_weights_of : Addr} {od_weights_of an_weights_of : Option Addr} {sl_weights_of : Array (Option Value)} {oc_weights_of kV_weights_of dc_weights_of pm_weights_of cd_weights_of ct_weights_of : Value} {f_height_of : Addr} {od_height_of an_height_of : Option Addr} {sl_height_of : Array (Option Value)} {oc_height_of kV_height_of dc_height_of pm_height_of cd_height_of ct_height_of : Value} {f_step_weight : Addr} {od_step_weight an_step_weight : Option Addr} {sl_step_weight : Array (Option Value)} {oc_step_weight kV_step_weight dc_step_weight pm_step_weight cd_step_weight ct_step_weight : Value} {f_weight_of : Addr} {od_weight_of an_weight_of : Option Addr} {sl_weight_of : Array (Option Value)} {oc_weight_of kV_weight_of dc_weight_of pm_weight_of cd_weight_of ct_weight_of : Value} {dV_weight_of : Value} {f_one_less : Addr} {od_one_less an_one_less : Option Addr} {sl_one_less : Array (Option Value)} {oc_one_less kV_one_less dc_one_less pm_one_less cd_one_less ct_one_less : Value} {f_one_below : Addr} {od_one_below an_one_below : Option Addr} {sl_one_below : Array (Option Value)} {oc_one_below kV_one_below dc_one_below pm_one_below cd_one_below ct_one_below : Value} {f_end_of : Addr} {od_end_of an_end_of : Option Addr} {sl_end_of : Array (Option Value)} {oc_end_of kV_end_of dc_end_of pm_end_of cd_end_of ct_end_of : Value} {f_series : Addr} {od_series an_series : Option Addr} {sl_series : Array (Option Value)} {oc_series kV_series dc_series pm_series cd_series ct_series : Value} {f_one_further : Addr} {od_one_further an_one_further : Option Addr} {sl_one_further : Array (Option Value)} {oc_one_further kV_one_further dc_one_further pm_one_further cd_one_further ct_one_further : Value} {f_row_of : Addr} {od_row_of an_row_of : Option Addr} {sl_row_of : Array (Option Value)} {oc_row_of kV_row_of dc_row_of pm_row_of cd_row_of ct_row_of : Value} {f_ruled : Addr} {od_ruled an_ruled : Option Addr} {sl_ruled : Array (Option Value)} {oc_ruled kV_ruled dc_ruled pm_ruled cd_ruled ct_ruled : Value} {f_in_row : Addr} {od_in_row an_in_row : Option Addr} {sl_in_row : Array (Option Value)} {oc_in_row kV_in_row dc_in_row pm_in_row cd_in_row ct_in_row : Value} {f_check_reach : Addr} {od_check_reach an_check_reach : Option Addr} {sl_check_reach : Array (Option Value)} {oc_check_reach kV_check_reach dc_check_reach pm_check_reach cd_check_reach ct_check_reach : Value} {f_sum_listed : Addr} {od_sum_listed an_sum_listed : Option Addr} {sl_sum_listed : Array (Option Value)} {oc_sum_listed kV_sum_listed dc_sum_listed pm_sum_listed cd_sum_listed ct_sum_listed : Value} {dV_sum_listed : Value} {f_one_step_on : Addr} {od_one_step_on an_one_step_on : Option Addr} {sl_one_step_on : Array (Option Value)} {oc_one_step_on kV_one_step_on dc_one_step_on pm_one_step_on cd_one_step_on ct_one_step_on : Value} {f_sum_stepped : Addr} {od_sum_stepped an_sum_stepped : Option Addr} {sl_sum_stepped : Array (Option Value)} {oc_sum_stepped kV_sum_stepped dc_sum_stepped pm_sum_stepped cd_sum_stepped ct_sum_stepped : Value} {dV_sum_stepped : Value} {f_moments : Addr} {od_moments an_moments : Option Addr} {sl_moments : Array (Option Value)} {oc_moments kV_moments dc_moments pm_moments cd_moments ct_moments : Value} {f__law_stir : Addr} {od__law_stir an__law_stir : Option Addr} {sl__law_stir : Array (Option Value)} {oc__law_stir kV__law_stir dc__law_stir pm__law_stir cd__law_stir ct__law_stir : Value} {f__law_lowest : Addr} {od__law_lowest an__law_lowest : Option Addr} {sl__law_lowest : Array (Option Value)} {oc__law_lowest kV__law_lowest dc__law_lowest pm__law_lowest cd__law_lowest ct__law_lowest : Value} {f__law_add : Addr} {od__law_add an__law_add : Option Addr} {sl__law_add : Array (Option Value)} {oc__law_add kV__law_add dc__law_add pm__law_add cd__law_add ct__law_add : Value} {f__law_mul : Addr} {od__law_mul an__law_mul : Option Addr} {sl__law_mul : Array (Option Value)} {oc__law_mul kV__law_mul dc__law_mul pm__law_mul cd__law_mul ct__law_mul : Value} {f__law_row : Addr} {od__law_row an__law_row : Option Addr} {sl__law_row : Array (Option Value)} {oc__law_row kV__law_row dc__law_row pm__law_row cd__law_row ct__law_row : Value} {f__law_weight_by : Addr} {od__law_weight_by an__law_weight_by : Option Addr} {sl__law_weight_by : Array (Option Value)} {oc__law_weight_by kV__law_weight_by dc__law_weight_by pm__law_weight_by cd__law_weight_by ct__law_weight_by : Value} {f__law_weights : Addr} {od__law_weights an__law_weights : Option Addr} {sl__law_weights : Array (Option Value)} {oc__law_weights kV__law_weights dc__law_weights pm__law_weights cd__law_weights ct__law_weights : Value} {f__law_power : Addr} {od__law_power an__law_power : Option Addr} {sl__law_power : Array (Option Value)} {oc__law_power kV__law_power dc__law_power pm__law_power cd__law_power ct__law_power : Value} {f__law_by_row : Addr} {od__law_by_row an__law_by_row : Option Addr} {sl__law_by_row : Array (Option Value)} {oc__law_by_row kV__law_by_row dc__law_by_row pm__law_by_row cd__law_by_row ct__law_by_row : Value} {f__law_ends_right : Addr} {od__law_ends_right an__law_ends_right : Option Addr} {sl__law_ends_right : Array (Option Value)} {oc__law_ends_right kV__law_ends_right dc__law_ends_right pm__law_ends_right cd__law_ends_right ct__law_ends_right : Value} {f_law : Addr} {od_law an_law : Option Addr} {sl_law : Array (Option Value)} {oc_law kV_law dc_law pm_law cd_law ct_law : Value} {C_HeightError : Addr} {C_NOUGHT : Addr} {C_NoFraction : Addr} {C_NoSeries : Addr} {C_NoWay : Addr} {C_NoWeights : Addr} {C_ONE : Addr} {C_RISES : Addr} {C_TooFar : Addr} {C_TooHigh : Addr} {C_TooMany : Addr} {f_NoWay_init : Addr} {od_NoWay_init an_NoWay_init : Option Addr} {sl_NoWay_init : Array (Option Value)} {oc_NoWay_init kV_NoWay_init dc_NoWay_init pm_NoWay_init cd_NoWay_init ct_NoWay_init : Value} {f_TooHigh_init : Addr} {od_TooHigh_init an_TooHigh_init : Option Addr} {sl_TooHigh_init : Array (Option Value)} {oc_TooHigh_init kV_TooHigh_init dc_TooHigh_init pm_TooHigh_init cd_TooHigh_init ct_TooHigh_init : Value} {tk_MOST_LISTED : Tok} {tk_MOST_LEVELS : Tok} {h1 h2 h3 : Int} {t1 t2 t3 u1 u2 u3 : Tok} {ep : Nat}     (X : K.In h) (G : h.Ns mainGlobals mg) (hfa : mg "law" = some (.ref fa))
    (a_shared_part : PySem.W.nsIn K mainGlobals "shared_part" = some (some (.ref f_shared_part)))
    (l_shared_part : K.lookup f_shared_part = some ⟨oc_shared_part, od_shared_part, .func (PySem.W.fnOf "shared_part" "shared_part" (defArgs s_shared_part) (defBody s_shared_part) (defScope s_shared_part) .none kV_shared_part dc_shared_part pm_shared_part an_shared_part cd_shared_part ct_shared_part), sl_shared_part⟩)
    (e_shared_part : PySem.W.codeIn K cd_shared_part "shared_part" = true)
    (k_shared_part : PySem.W.keepIn K (.ref f_shared_part) = true)
    (a_plus : PySem.W.nsIn K mainGlobals "plus" = some (some (.ref f_plus)))
    (l_plus : K.lookup f_plus = some ⟨oc_plus, od_plus, .func (PySem.W.fnOf "plus" "plus" (defArgs s_plus) (defBody s_plus) (defScope s_plus) .none kV_plus dc_plus pm_plus an_plus cd_plus ct_plus), sl_plus⟩)
    (e_plus : PySem.W.codeIn K cd_plus "plus" = true)
    (k_plus : PySem.W.keepIn K (.ref f_plus) = true)
    (a_minus : PySem.W.nsIn K mainGlobals "minus" = some (some (.ref f_minus)))
    (l_minus : K.lookup f_minus = some ⟨oc_minus, od_minus, .func (PySem.W.fnOf "minus" "minus" (defArgs s_minus) (defBody s_minus) (defScope s_minus) .none kV_minus dc_minus pm_minus an_minus cd_minus ct_minus), sl_minus⟩)
    (e_minus : PySem.W.codeIn K cd_minus "minus" = true)
    (k_minus : PySem.W.keepIn K (.ref f_minus) = true)
    (a_times : PySem.W.nsIn K mainGlobals "times" = some (some (.ref f_times)))
    (l_times : K.lookup f_times = some ⟨oc_times, od_times, .func (PySem.W.fnOf "times" "times" (defArgs s_times) (defBody s_times) (defScope s_times) .none kV_times dc_times pm_times an_times cd_times ct_times), sl_times⟩)
    (e_times : PySem.W.codeIn K cd_times "times" = true)
    (k_times : PySem.W.keepIn K (.ref f_times) = true)
    (a_over : PySem.W.nsIn K mainGlobals "over" = some (some (.ref f_over)))
    (l_over : K.lookup f_over = some ⟨oc_over, od_over, .func (PySem.W.fnOf "over" "over" (defArgs s_over) (defBody s_over) (defScope s_over) .none kV_over dc_over pm_over an_over cd_over ct_over), sl_over⟩)
    (e_over : PySem.W.codeIn K cd_over "over" = true)
    (k_over : PySem.W.keepIn K (.ref f_over) = true)
    (a_poly_of : PySem.W.nsIn K mainGlobals "poly_of" = some (some (.ref f_poly_of)))
    (l_poly_of : K.lookup f_poly_of = some ⟨oc_poly_of, od_poly_of, .func (PySem.W.fnOf "poly_of" "poly_of" (defArgs s_poly_of) (defBody s_poly_of) (defScope s_poly_of) .none kV_poly_of dc_poly_of pm_poly_of an_poly_of cd_poly_of ct_poly_of), sl_poly_of⟩)
    (e_poly_of : PySem.W.codeIn K cd_poly_of "poly_of" = true)
    (k_poly_of : PySem.W.keepIn K (.ref f_poly_of) = true)
    (a_number_at : PySem.W.nsIn K mainGlobals "number_at" = some (some (.ref f_number_at)))
    (l_number_at : K.lookup f_number_at = some ⟨oc_number_at, od_number_at, .func (PySem.W.fnOf "number_at" "number_at" (defArgs s_number_at) (defBody s_number_at) (defScope s_number_at) .none kV_number_at dc_number_at pm_number_at an_number_at cd_number_at ct_number_at), sl_number_at⟩)
    (e_number_at : PySem.W.codeIn K cd_number_at "number_at" = true)
    (k_number_at : PySem.W.keepIn K (.ref f_number_at) = true)
    (a_poly_plus : PySem.W.nsIn K mainGlobals "poly_plus" = some (some (.ref f_poly_plus)))
    (l_poly_plus : K.lookup f_poly_plus = some ⟨oc_poly_plus, od_poly_plus, .func (PySem.W.fnOf "poly_plus" "poly_plus" (defArgs s_poly_plus) (defBody s_poly_plus) (defScope s_poly_plus) .none kV_poly_plus dc_poly_plus pm_poly_plus an_poly_plus cd_poly_plus ct_poly_plus), sl_poly_plus⟩)
    (e_poly_plus : PySem.W.codeIn K cd_poly_plus "poly_plus" = true)
    (k_poly_plus : PySem.W.keepIn K (.ref f_poly_plus) = true)
    (a_poly_scaled : PySem.W.nsIn K mainGlobals "poly_scaled" = some (some (.ref f_poly_scaled)))
    (l_poly_scaled : K.lookup f_poly_scaled = some ⟨oc_poly_scaled, od_poly_scaled, .func (PySem.W.fnOf "poly_scaled" "poly_scaled" (defArgs s_poly_scaled) (defBody s_poly_scaled) (defScope s_poly_scaled) .none kV_poly_scaled dc_poly_scaled pm_poly_scaled an_poly_scaled cd_poly_scaled ct_poly_scaled), sl_poly_scaled⟩)
    (e_poly_scaled : PySem.W.codeIn K cd_poly_scaled "poly_scaled" = true)
    (k_poly_scaled : PySem.W.keepIn K (.ref f_poly_scaled) = true)
    (a_poly_minus : PySem.W.nsIn K mainGlobals "poly_minus" = some (some (.ref f_poly_minus)))
    (l_poly_minus : K.lookup f_poly_minus = some ⟨oc_poly_minus, od_poly_minus, .func (PySem.W.fnOf "poly_minus" "poly_minus" (defArgs s_poly_minus) (defBody s_poly_minus) (defScope s_poly_minus) .none kV_poly_minus dc_poly_minus pm_poly_minus an_poly_minus cd_poly_minus ct_poly_minus), sl_poly_minus⟩)
    (e_poly_minus : PySem.W.codeIn K cd_poly_minus "poly_minus" = true)
    (k_poly_minus : PySem.W.keepIn K (.ref f_poly_minus) = true)
    (a_poly_times : PySem.W.nsIn K mainGlobals "poly_times" = some (some (.ref f_poly_times)))
    (l_poly_times : K.lookup f_poly_times = some ⟨oc_poly_times, od_poly_times, .func (PySem.W.fnOf "poly_times" "poly_times" (defArgs s_poly_times) (defBody s_poly_times) (defScope s_poly_times) .none kV_poly_times dc_poly_times pm_poly_times an_poly_times cd_poly_times ct_poly_times), sl_poly_times⟩)
    (e_poly_times : PySem.W.codeIn K cd_poly_times "poly_times" = true)
    (k_poly_times : PySem.W.keepIn K (.ref f_poly_times) = true)
    (a_degree_of : PySem.W.nsIn K mainGlobals "degree_of" = some (some (.ref f_degree_of)))
    (l_degree_of : K.lookup f_degree_of = some ⟨oc_degree_of, od_degree_of, .func (PySem.W.fnOf "degree_of" "degree_of" (defArgs s_degree_of) (defBody s_degree_of) (defScope s_degree_of) .none kV_degree_of dc_degree_of pm_degree_of an_degree_of cd_degree_of ct_degree_of), sl_degree_of⟩)
    (e_degree_of : PySem.W.codeIn K cd_degree_of "degree_of" = true)
    (k_degree_of : PySem.W.keepIn K (.ref f_degree_of) = true)
    (a_heights_along : PySem.W.nsIn K mainGlobals "heights_along" = some (some (.ref f_heights_along)))
    (l_heights_along : K.lookup f_heights_along = some ⟨oc_heights_along, od_heights_along, .func (PySem.W.fnOf "heights_along" "heights_along" (defArgs s_heights_along) (defBody s_heights_along) (defScope s_heights_along) .none kV_heights_along dc_heights_along pm_heights_along an_heights_along cd_heights_along ct_heights_along), sl_heights_along⟩)
    (e_heights_along : PySem.W.codeIn K cd_heights_along "heights_along" = true)
    (k_heights_along : PySem.W.keepIn K (.ref f_heights_along) = true)
    (a_is_within : PySem.W.nsIn K mainGlobals "is_within" = some (some (.ref f_is_within)))
    (l_is_within : K.lookup f_is_within = some ⟨oc_is_within, od_is_within, .func (PySem.W.fnOf "is_within" "is_within" (defArgs s_is_within) (defBody s_is_within) (defScope s_is_within) .none kV_is_within dc_is_within pm_is_within an_is_within cd_is_within ct_is_within), sl_is_within⟩)
    (e_is_within : PySem.W.codeIn K cd_is_within "is_within" = true)
    (k_is_within : PySem.W.keepIn K (.ref f_is_within) = true)
    (a_one_step_longer : PySem.W.nsIn K mainGlobals "one_step_longer" = some (some (.ref f_one_step_longer)))
    (l_one_step_longer : K.lookup f_one_step_longer = some ⟨oc_one_step_longer, od_one_step_longer, .func (PySem.W.fnOf "one_step_longer" "one_step_longer" (defArgs s_one_step_longer) (defBody s_one_step_longer) (defScope s_one_step_longer) .none kV_one_step_longer dc_one_step_longer pm_one_step_longer an_one_step_longer cd_one_step_longer ct_one_step_longer), sl_one_step_longer⟩)
    (e_one_step_longer : PySem.W.codeIn K cd_one_step_longer "one_step_longer" = true)
    (k_one_step_longer : PySem.W.keepIn K (.ref f_one_step_longer) = true)
    (a_ways_to_go : PySem.W.nsIn K mainGlobals "ways_to_go" = some (some (.ref f_ways_to_go)))
    (l_ways_to_go : K.lookup f_ways_to_go = some ⟨oc_ways_to_go, od_ways_to_go, .func (PySem.W.fnOf "ways_to_go" "ways_to_go" (defArgs s_ways_to_go) (defBody s_ways_to_go) (defScope s_ways_to_go) .none kV_ways_to_go dc_ways_to_go pm_ways_to_go an_ways_to_go cd_ways_to_go ct_ways_to_go), sl_ways_to_go⟩)
    (e_ways_to_go : PySem.W.codeIn K cd_ways_to_go "ways_to_go" = true)
    (k_ways_to_go : PySem.W.keepIn K (.ref f_ways_to_go) = true)
    (a_ways_counted : PySem.W.nsIn K mainGlobals "ways_counted" = some (some (.ref f_ways_counted)))
    (l_ways_counted : K.lookup f_ways_counted = some ⟨oc_ways_counted, od_ways_counted, .func (PySem.W.fnOf "ways_counted" "ways_counted" (defArgs s_ways_counted) (defBody s_ways_counted) (defScope s_ways_counted) dV_ways_counted kV_ways_counted dc_ways_counted pm_ways_counted an_ways_counted cd_ways_counted ct_ways_counted), sl_ways_counted⟩)
    (e_ways_counted : PySem.W.codeIn K cd_ways_counted "ways_counted" = true)
    (k_ways_counted : PySem.W.keepIn K (.ref f_ways_counted) = true)
    (d_ways_counted : dflIn K dV_ways_counted [.int 0, .int 0, .non] = true)
    (a_way_at : PySem.W.nsIn K mainGlobals "way_at" = some (some (.ref f_way_at)))
    (l_way_at : K.lookup f_way_at = some ⟨oc_way_at, od_way_at, .func (PySem.W.fnOf "way_at" "way_at" (defArgs s_way_at) (defBody s_way_at) (defScope s_way_at) .none kV_way_at dc_way_at pm_way_at an_way_at cd_way_at ct_way_at), sl_way_at⟩)
    (e_way_at : PySem.W.codeIn K cd_way_at "way_at" = true)
    (k_way_at : PySem.W.keepIn K (.ref f_way_at) = true)
    (a_ways_listed : PySem.W.nsIn K mainGlobals "ways_listed" = some (some (.ref f_ways_listed)))
    (l_ways_listed : K.lookup f_ways_listed = some ⟨oc_ways_listed, od_ways_listed, .func (PySem.W.fnOf "ways_listed" "ways_listed" (defArgs s_ways_listed) (defBody s_ways_listed) (defScope s_ways_listed) dV_ways_listed kV_ways_listed dc_ways_listed pm_ways_listed an_ways_listed cd_ways_listed ct_ways_listed), sl_ways_listed⟩)
    (e_ways_listed : PySem.W.codeIn K cd_ways_listed "ways_listed" = true)
    (k_ways_listed : PySem.W.keepIn K (.ref f_ways_listed) = true)
    (d_ways_listed : dflIn K dV_ways_listed [.int 0, .int 0, .non] = true)
    (a_weights_of : PySem.W.nsIn K mainGlobals "weights_of" = some (some (.ref f_weights_of)))
    (l_weights_of : K.lookup f_weights_of = some ⟨oc_weights_of, od_weights_of, .func (PySem.W.fnOf "weights_of" "weights_of" (defArgs s_weights_of) (defBody s_weights_of) (defScope s_weights_of) .none kV_weights_of dc_weights_of pm_weights_of an_weights_of cd_weights_of ct_weights_of), sl_weights_of⟩)
    (e_weights_of : PySem.W.codeIn K cd_weights_of "weights_of" = true)
    (k_weights_of : PySem.W.keepIn K (.ref f_weights_of) = true)
    (a_height_of : PySem.W.nsIn K mainGlobals "height_of" = some (some (.ref f_height_of)))
    (l_height_of : K.lookup f_height_of = some ⟨oc_height_of, od_height_of, .func (PySem.W.fnOf "height_of" "height_of" (defArgs s_height_of) (defBody s_height_of) (defScope s_height_of) .none kV_height_of dc_height_of pm_height_of an_height_of cd_height_of ct_height_of), sl_height_of⟩)
    (e_height_of : PySem.W.codeIn K cd_height_of "height_of" = true)
    (k_height_of : PySem.W.keepIn K (.ref f_height_of) = true)
    (a_step_weight : PySem.W.nsIn K mainGlobals "step_weight" = some (some (.ref f_step_weight)))
    (l_step_weight : K.lookup f_step_weight = some ⟨oc_step_weight, od_step_weight, .func (PySem.W.fnOf "step_weight" "step_weight" (defArgs s_step_weight) (defBody s_step_weight) (defScope s_step_weight) .none kV_step_weight dc_step_weight pm_step_weight an_step_weight cd_step_weight ct_step_weight), sl_step_weight⟩)
    (e_step_weight : PySem.W.codeIn K cd_step_weight "step_weight" = true)
    (k_step_weight : PySem.W.keepIn K (.ref f_step_weight) = true)
    (a_weight_of : PySem.W.nsIn K mainGlobals "weight_of" = some (some (.ref f_weight_of)))
    (l_weight_of : K.lookup f_weight_of = some ⟨oc_weight_of, od_weight_of, .func (PySem.W.fnOf "weight_of" "weight_of" (defArgs s_weight_of) (defBody s_weight_of) (defScope s_weight_of) dV_weight_of kV_weight_of dc_weight_of pm_weight_of an_weight_of cd_weight_of ct_weight_of), sl_weight_of⟩)
    (e_weight_of : PySem.W.codeIn K cd_weight_of "weight_of" = true)
    (k_weight_of : PySem.W.keepIn K (.ref f_weight_of) = true)
    (d_weight_of : dflIn K dV_weight_of [.int 0] = true)
    (a_one_less : PySem.W.nsIn K mainGlobals "one_less" = some (some (.ref f_one_less)))
    (l_one_less : K.lookup f_one_less = some ⟨oc_one_less, od_one_less, .func (PySem.W.fnOf "one_less" "one_less" (defArgs s_one_less) (defBody s_one_less) (defScope s_one_less) .none kV_one_less dc_one_less pm_one_less an_one_less cd_one_less ct_one_less), sl_one_less⟩)
    (e_one_less : PySem.W.codeIn K cd_one_less "one_less" = true)
    (k_one_less : PySem.W.keepIn K (.ref f_one_less) = true)
    (a_one_below : PySem.W.nsIn K mainGlobals "one_below" = some (some (.ref f_one_below)))
    (l_one_below : K.lookup f_one_below = some ⟨oc_one_below, od_one_below, .func (PySem.W.fnOf "one_below" "one_below" (defArgs s_one_below) (defBody s_one_below) (defScope s_one_below) .none kV_one_below dc_one_below pm_one_below an_one_below cd_one_below ct_one_below), sl_one_below⟩)
    (e_one_below : PySem.W.codeIn K cd_one_below "one_below" = true)
    (k_one_below : PySem.W.keepIn K (.ref f_one_below) = true)
    (a_end_of : PySem.W.nsIn K mainGlobals "end_of" = some (some (.ref f_end_of)))
    (l_end_of : K.lookup f_end_of = some ⟨oc_end_of, od_end_of, .func (PySem.W.fnOf "end_of" "end_of" (defArgs s_end_of) (defBody s_end_of) (defScope s_end_of) .none kV_end_of dc_end_of pm_end_of an_end_of cd_end_of ct_end_of), sl_end_of⟩)
    (e_end_of : PySem.W.codeIn K cd_end_of "end_of" = true)
    (k_end_of : PySem.W.keepIn K (.ref f_end_of) = true)
    (a_series : PySem.W.nsIn K mainGlobals "series" = some (some (.ref f_series)))
    (l_series : K.lookup f_series = some ⟨oc_series, od_series, .func (PySem.W.fnOf "series" "series" (defArgs s_series) (defBody s_series) (defScope s_series) .none kV_series dc_series pm_series an_series cd_series ct_series), sl_series⟩)
    (e_series : PySem.W.codeIn K cd_series "series" = true)
    (k_series : PySem.W.keepIn K (.ref f_series) = true)
    (a_one_further : PySem.W.nsIn K mainGlobals "one_further" = some (some (.ref f_one_further)))
    (l_one_further : K.lookup f_one_further = some ⟨oc_one_further, od_one_further, .func (PySem.W.fnOf "one_further" "one_further" (defArgs s_one_further) (defBody s_one_further) (defScope s_one_further) .none kV_one_further dc_one_further pm_one_further an_one_further cd_one_further ct_one_further), sl_one_further⟩)
    (e_one_further : PySem.W.codeIn K cd_one_further "one_further" = true)
    (k_one_further : PySem.W.keepIn K (.ref f_one_further) = true)
    (a_row_of : PySem.W.nsIn K mainGlobals "row_of" = some (some (.ref f_row_of)))
    (l_row_of : K.lookup f_row_of = some ⟨oc_row_of, od_row_of, .func (PySem.W.fnOf "row_of" "row_of" (defArgs s_row_of) (defBody s_row_of) (defScope s_row_of) .none kV_row_of dc_row_of pm_row_of an_row_of cd_row_of ct_row_of), sl_row_of⟩)
    (e_row_of : PySem.W.codeIn K cd_row_of "row_of" = true)
    (k_row_of : PySem.W.keepIn K (.ref f_row_of) = true)
    (a_ruled : PySem.W.nsIn K mainGlobals "ruled" = some (some (.ref f_ruled)))
    (l_ruled : K.lookup f_ruled = some ⟨oc_ruled, od_ruled, .func (PySem.W.fnOf "ruled" "ruled" (defArgs s_ruled) (defBody s_ruled) (defScope s_ruled) .none kV_ruled dc_ruled pm_ruled an_ruled cd_ruled ct_ruled), sl_ruled⟩)
    (e_ruled : PySem.W.codeIn K cd_ruled "ruled" = true)
    (k_ruled : PySem.W.keepIn K (.ref f_ruled) = true)
    (a_in_row : PySem.W.nsIn K mainGlobals "in_row" = some (some (.ref f_in_row)))
    (l_in_row : K.lookup f_in_row = some ⟨oc_in_row, od_in_row, .func (PySem.W.fnOf "in_row" "in_row" (defArgs s_in_row) (defBody s_in_row) (defScope s_in_row) .none kV_in_row dc_in_row pm_in_row an_in_row cd_in_row ct_in_row), sl_in_row⟩)
    (e_in_row : PySem.W.codeIn K cd_in_row "in_row" = true)
    (k_in_row : PySem.W.keepIn K (.ref f_in_row) = true)
    (a_check_reach : PySem.W.nsIn K mainGlobals "check_reach" = some (some (.ref f_check_reach)))
    (l_check_reach : K.lookup f_check_reach = some ⟨oc_check_reach, od_check_reach, .func (PySem.W.fnOf "check_reach" "check_reach" (defArgs s_check_reach) (defBody s_check_reach) (defScope s_check_reach) .none kV_check_reach dc_check_reach pm_check_reach an_check_reach cd_check_reach ct_check_reach), sl_check_reach⟩)
    (e_check_reach : PySem.W.codeIn K cd_check_reach "check_reach" = true)
    (k_check_reach : PySem.W.keepIn K (.ref f_check_reach) = true)
    (a_sum_listed : PySem.W.nsIn K mainGlobals "sum_listed" = some (some (.ref f_sum_listed)))
    (l_sum_listed : K.lookup f_sum_listed = some ⟨oc_sum_listed, od_sum_listed, .func (PySem.W.fnOf "sum_listed" "sum_listed" (defArgs s_sum_listed) (defBody s_sum_listed) (defScope s_sum_listed) dV_sum_listed kV_sum_listed dc_sum_listed pm_sum_listed an_sum_listed cd_sum_listed ct_sum_listed), sl_sum_listed⟩)
    (e_sum_listed : PySem.W.codeIn K cd_sum_listed "sum_listed" = true)
    (k_sum_listed : PySem.W.keepIn K (.ref f_sum_listed) = true)
    (d_sum_listed : dflIn K dV_sum_listed [.int 0, .int 0, .non] = true)
    (a_one_step_on : PySem.W.nsIn K mainGlobals "one_step_on" = some (some (.ref f_one_step_on)))
    (l_one_step_on : K.lookup f_one_step_on = some ⟨oc_one_step_on, od_one_step_on, .func (PySem.W.fnOf "one_step_on" "one_step_on" (defArgs s_one_step_on) (defBody s_one_step_on) (defScope s_one_step_on) .none kV_one_step_on dc_one_step_on pm_one_step_on an_one_step_on cd_one_step_on ct_one_step_on), sl_one_step_on⟩)
    (e_one_step_on : PySem.W.codeIn K cd_one_step_on "one_step_on" = true)
    (k_one_step_on : PySem.W.keepIn K (.ref f_one_step_on) = true)
    (a_sum_stepped : PySem.W.nsIn K mainGlobals "sum_stepped" = some (some (.ref f_sum_stepped)))
    (l_sum_stepped : K.lookup f_sum_stepped = some ⟨oc_sum_stepped, od_sum_stepped, .func (PySem.W.fnOf "sum_stepped" "sum_stepped" (defArgs s_sum_stepped) (defBody s_sum_stepped) (defScope s_sum_stepped) dV_sum_stepped kV_sum_stepped dc_sum_stepped pm_sum_stepped an_sum_stepped cd_sum_stepped ct_sum_stepped), sl_sum_stepped⟩)
    (e_sum_stepped : PySem.W.codeIn K cd_sum_stepped "sum_stepped" = true)
    (k_sum_stepped : PySem.W.keepIn K (.ref f_sum_stepped) = true)
    (d_sum_stepped : dflIn K dV_sum_stepped [.int 0, .int 0, .non] = true)
    (a_moments : PySem.W.nsIn K mainGlobals "moments" = some (some (.ref f_moments)))
    (l_moments : K.lookup f_moments = some ⟨oc_moments, od_moments, .func (PySem.W.fnOf "moments" "moments" (defArgs s_moments) (defBody s_moments) (defScope s_moments) .none kV_moments dc_moments pm_moments an_moments cd_moments ct_moments), sl_moments⟩)
    (e_moments : PySem.W.codeIn K cd_moments "moments" = true)
    (k_moments : PySem.W.keepIn K (.ref f_moments) = true)
    (a__law_stir : PySem.W.nsIn K mainGlobals "_law_stir" = some (some (.ref f__law_stir)))
    (l__law_stir : K.lookup f__law_stir = some ⟨oc__law_stir, od__law_stir, .func (PySem.W.fnOf "_law_stir" "_law_stir" (defArgs s__law_stir) (defBody s__law_stir) (defScope s__law_stir) .none kV__law_stir dc__law_stir pm__law_stir an__law_stir cd__law_stir ct__law_stir), sl__law_stir⟩)
    (e__law_stir : PySem.W.codeIn K cd__law_stir "_law_stir" = true)
    (k__law_stir : PySem.W.keepIn K (.ref f__law_stir) = true)
    (a__law_lowest : PySem.W.nsIn K mainGlobals "_law_lowest" = some (some (.ref f__law_lowest)))
    (l__law_lowest : K.lookup f__law_lowest = some ⟨oc__law_lowest, od__law_lowest, .func (PySem.W.fnOf "_law_lowest" "_law_lowest" (defArgs s__law_lowest) (defBody s__law_lowest) (defScope s__law_lowest) .none kV__law_lowest dc__law_lowest pm__law_lowest an__law_lowest cd__law_lowest ct__law_lowest), sl__law_lowest⟩)
    (e__law_lowest : PySem.W.codeIn K cd__law_lowest "_law_lowest" = true)
    (k__law_lowest : PySem.W.keepIn K (.ref f__law_lowest) = true)
    (a__law_add : PySem.W.nsIn K mainGlobals "_law_add" = some (some (.ref f__law_add)))
    (l__law_add : K.lookup f__law_add = some ⟨oc__law_add, od__law_add, .func (PySem.W.fnOf "_law_add" "_law_add" (defArgs s__law_add) (defBody s__law_add) (defScope s__law_add) .none kV__law_add dc__law_add pm__law_add an__law_add cd__law_add ct__law_add), sl__law_add⟩)
    (e__law_add : PySem.W.codeIn K cd__law_add "_law_add" = true)
    (k__law_add : PySem.W.keepIn K (.ref f__law_add) = true)
    (a__law_mul : PySem.W.nsIn K mainGlobals "_law_mul" = some (some (.ref f__law_mul)))
    (l__law_mul : K.lookup f__law_mul = some ⟨oc__law_mul, od__law_mul, .func (PySem.W.fnOf "_law_mul" "_law_mul" (defArgs s__law_mul) (defBody s__law_mul) (defScope s__law_mul) .none kV__law_mul dc__law_mul pm__law_mul an__law_mul cd__law_mul ct__law_mul), sl__law_mul⟩)
    (e__law_mul : PySem.W.codeIn K cd__law_mul "_law_mul" = true)
    (k__law_mul : PySem.W.keepIn K (.ref f__law_mul) = true)
    (a__law_row : PySem.W.nsIn K mainGlobals "_law_row" = some (some (.ref f__law_row)))
    (l__law_row : K.lookup f__law_row = some ⟨oc__law_row, od__law_row, .func (PySem.W.fnOf "_law_row" "_law_row" (defArgs s__law_row) (defBody s__law_row) (defScope s__law_row) .none kV__law_row dc__law_row pm__law_row an__law_row cd__law_row ct__law_row), sl__law_row⟩)
    (e__law_row : PySem.W.codeIn K cd__law_row "_law_row" = true)
    (k__law_row : PySem.W.keepIn K (.ref f__law_row) = true)
    (a__law_weight_by : PySem.W.nsIn K mainGlobals "_law_weight_by" = some (some (.ref f__law_weight_by)))
    (l__law_weight_by : K.lookup f__law_weight_by = some ⟨oc__law_weight_by, od__law_weight_by, .func (PySem.W.fnOf "_law_weight_by" "_law_weight_by" (defArgs s__law_weight_by) (defBody s__law_weight_by) (defScope s__law_weight_by) .none kV__law_weight_by dc__law_weight_by pm__law_weight_by an__law_weight_by cd__law_weight_by ct__law_weight_by), sl__law_weight_by⟩)
    (e__law_weight_by : PySem.W.codeIn K cd__law_weight_by "_law_weight_by" = true)
    (k__law_weight_by : PySem.W.keepIn K (.ref f__law_weight_by) = true)
    (a__law_weights : PySem.W.nsIn K mainGlobals "_law_weights" = some (some (.ref f__law_weights)))
    (l__law_weights : K.lookup f__law_weights = some ⟨oc__law_weights, od__law_weights, .func (PySem.W.fnOf "_law_weights" "_law_weights" (defArgs s__law_weights) (defBody s__law_weights) (defScope s__law_weights) .none kV__law_weights dc__law_weights pm__law_weights an__law_weights cd__law_weights ct__law_weights), sl__law_weights⟩)
    (e__law_weights : PySem.W.codeIn K cd__law_weights "_law_weights" = true)
    (k__law_weights : PySem.W.keepIn K (.ref f__law_weights) = true)
    (a__law_power : PySem.W.nsIn K mainGlobals "_law_power" = some (some (.ref f__law_power)))
    (l__law_power : K.lookup f__law_power = some ⟨oc__law_power, od__law_power, .func (PySem.W.fnOf "_law_power" "_law_power" (defArgs s__law_power) (defBody s__law_power) (defScope s__law_power) .none kV__law_power dc__law_power pm__law_power an__law_power cd__law_power ct__law_power), sl__law_power⟩)
    (e__law_power : PySem.W.codeIn K cd__law_power "_law_power" = true)
    (k__law_power : PySem.W.keepIn K (.ref f__law_power) = true)
    (a__law_by_row : PySem.W.nsIn K mainGlobals "_law_by_row" = some (some (.ref f__law_by_row)))
    (l__law_by_row : K.lookup f__law_by_row = some ⟨oc__law_by_row, od__law_by_row, .func (PySem.W.fnOf "_law_by_row" "_law_by_row" (defArgs s__law_by_row) (defBody s__law_by_row) (defScope s__law_by_row) .none kV__law_by_row dc__law_by_row pm__law_by_row an__law_by_row cd__law_by_row ct__law_by_row), sl__law_by_row⟩)
    (e__law_by_row : PySem.W.codeIn K cd__law_by_row "_law_by_row" = true)
    (k__law_by_row : PySem.W.keepIn K (.ref f__law_by_row) = true)
    (a__law_ends_right : PySem.W.nsIn K mainGlobals "_law_ends_right" = some (some (.ref f__law_ends_right)))
    (l__law_ends_right : K.lookup f__law_ends_right = some ⟨oc__law_ends_right, od__law_ends_right, .func (PySem.W.fnOf "_law_ends_right" "_law_ends_right" (defArgs s__law_ends_right) (defBody s__law_ends_right) (defScope s__law_ends_right) .none kV__law_ends_right dc__law_ends_right pm__law_ends_right an__law_ends_right cd__law_ends_right ct__law_ends_right), sl__law_ends_right⟩)
    (e__law_ends_right : PySem.W.codeIn K cd__law_ends_right "_law_ends_right" = true)
    (k__law_ends_right : PySem.W.keepIn K (.ref f__law_ends_right) = true)
    (a_law : PySem.W.nsIn K mainGlobals "law" = some (some (.ref f_law)))
    (l_law : K.lookup f_law = some ⟨oc_law, od_law, .func (PySem.W.fnOf "law" "law" (defArgs s_law) (defBody s_law) (defScope s_law) .none kV_law dc_law pm_law an_law cd_law ct_law), sl_law⟩)
    (e_law : PySem.W.codeIn K cd_law "law" = true)
    (k_law : PySem.W.keepIn K (.ref f_law) = true)
    (a_HeightError : PySem.W.nsIn K mainGlobals "HeightError" = some (some (.ref C_HeightError)))
    (a_NOUGHT : PySem.W.nsIn K mainGlobals "NOUGHT" = some (some (.ref C_NOUGHT)))
    (a_NoFraction : PySem.W.nsIn K mainGlobals "NoFraction" = some (some (.ref C_NoFraction)))
    (a_NoSeries : PySem.W.nsIn K mainGlobals "NoSeries" = some (some (.ref C_NoSeries)))
    (a_NoWay : PySem.W.nsIn K mainGlobals "NoWay" = some (some (.ref C_NoWay)))
    (a_NoWeights : PySem.W.nsIn K mainGlobals "NoWeights" = some (some (.ref C_NoWeights)))
    (a_ONE : PySem.W.nsIn K mainGlobals "ONE" = some (some (.ref C_ONE)))
    (a_RISES : PySem.W.nsIn K mainGlobals "RISES" = some (some (.ref C_RISES)))
    (a_TooFar : PySem.W.nsIn K mainGlobals "TooFar" = some (some (.ref C_TooFar)))
    (a_TooHigh : PySem.W.nsIn K mainGlobals "TooHigh" = some (some (.ref C_TooHigh)))
    (a_TooMany : PySem.W.nsIn K mainGlobals "TooMany" = some (some (.ref C_TooMany)))
    (a_NoWay_init : PySem.W.findIn K (.ref C_NoWay) "__init__" = some (some (.ref f_NoWay_init)))
    (l_NoWay_init : K.lookup f_NoWay_init = some ⟨oc_NoWay_init, od_NoWay_init, .func (PySem.W.fnOf "__init__" "NoWay.__init__" (defArgs s_NoWay_init) (defBody s_NoWay_init) (defScope s_NoWay_init) .none kV_NoWay_init dc_NoWay_init pm_NoWay_init an_NoWay_init cd_NoWay_init ct_NoWay_init), sl_NoWay_init⟩)
    (e_NoWay_init : PySem.W.codeIn K cd_NoWay_init "NoWay.__init__" = true)
    (k_NoWay_init : PySem.W.keepIn K (.ref f_NoWay_init) = true)
    (y_NoWay_init : excInit K C_NoWay f_NoWay_init = true)
    (kc_NoWay_init : PySem.W.keepIn K (.ref C_NoWay) = true)
    (a_TooHigh_init : PySem.W.findIn K (.ref C_TooHigh) "__init__" = some (some (.ref f_TooHigh_init)))
    (l_TooHigh_init : K.lookup f_TooHigh_init = some ⟨oc_TooHigh_init, od_TooHigh_init, .func (PySem.W.fnOf "__init__" "TooHigh.__init__" (defArgs s_TooHigh_init) (defBody s_TooHigh_init) (defScope s_TooHigh_init) .none kV_TooHigh_init dc_TooHigh_init pm_TooHigh_init an_TooHigh_init cd_TooHigh_init ct_TooHigh_init), sl_TooHigh_init⟩)
    (e_TooHigh_init : PySem.W.codeIn K cd_TooHigh_init "TooHigh.__init__" = true)
    (k_TooHigh_init : PySem.W.keepIn K (.ref f_TooHigh_init) = true)
    (y_TooHigh_init : excInit K C_TooHigh f_TooHigh_init = true)
    (kc_TooHigh_init : PySem.W.keepIn K (.ref C_TooHigh) = true)
    (n_abs : PySem.W.nsIn K mainGlobals "abs" = some none)
    (n_enumerate : PySem.W.nsIn K mainGlobals "enumerate" = some none)
    (n_len : PySem.W.nsIn K mainGlobals "len" = some none)
    (n_list : PySem.W.nsIn K mainGlobals "list" = some none)
    (n_max : PySem.W.nsIn K mainGlobals "max" = some none)
    (n_min : PySem.W.nsIn K mainGlobals "min" = some none)
    (n_range : PySem.W.nsIn K mainGlobals "range" = some none)
    (n_reversed : PySem.W.nsIn K mainGlobals "reversed" = some none)
    (n_tuple : PySem.W.nsIn K mainGlobals "tuple" = some none)
    (a_MOST_LISTED : PySem.W.nsIn K mainGlobals "MOST_LISTED" = some (some (.int 400 tk_MOST_LISTED)))
    (a_MOST_LEVELS : PySem.W.nsIn K mainGlobals "MOST_LEVELS" = some (some (.int 8 tk_MOST_LEVELS)))
    (l_RISES : K.lookup C_RISES = some ⟨.type "dict", none, .dict #[⟨h1, .str "d" t1, .int (-1) u1⟩, ⟨h2, .str "l" t2, .int 0 u2⟩, ⟨h3, .str "u" t3, .int 1 u3⟩] ep, #[]⟩)
    (q1_RISES : h1 = hashStr w "d")
    (q2_RISES : h2 = hashStr w "l")
    (q3_RISES : h3 = hashStr w "u")
    (q4_RISES : (C_RISES == sysModules) = false)
    (x_ih : initOf K C_HeightError = true)
    (x_saw : PySem.W.findIn K (.ref C_NoWay) "__setattr__" = some (some (.builtin "object.__setattr__")))
    (x_npw : PySem.W.findIn K (.ref C_NoWay) "at" = some none)
    (x_cdw : (PySem.W.clsIn K C_NoWay).any (fun cd => cd.hasDict && refsV cd.mro) = true)
    (x_obw : PySem.W.mroIn K C_NoWay (.type "object") = some true)
    (x_sah : PySem.W.findIn K (.ref C_TooHigh) "__setattr__" = some (some (.builtin "object.__setattr__")))
    (x_nph : PySem.W.findIn K (.ref C_TooHigh) "height" = some none)
    (x_cdh : (PySem.W.clsIn K C_TooHigh).any (fun cd => cd.hasDict && refsV cd.mro) = true)
    (x_obh : PySem.W.mroIn K C_TooHigh (.type "object") = some true)
    (x_tm : PySem.W.excIn K C_TooMany vmro "ValueError.__new__" = true)
    (x_nought : frIn K C_NOUGHT 0 1 = true)
    (x_one : frIn K C_ONE 1 1 = true)
    (x_nw : PySem.W.excIn K C_NoWeights vmro "ValueError.__new__" = true)
    (x_tf : PySem.W.excIn K C_TooFar vmro "ValueError.__new__" = true)
    (x_nf : PySem.W.excIn K C_NoFraction vmro "ValueError.__new__" = true)
    (x_nser : PySem.W.excIn K C_NoSeries vmro "ValueError.__new__" = true)
    : ∃ fd : FuncData, (∀ (s : Shared) (v : Value), BindsTo s fd ⟨[v], []⟩ [("_law_script", v)]) ∧ ∀ base : Heap, K.In base → base.Ns mainGlobals mg → FnOk l.prog w K mg base (CXe l.prog w) 9 fa fd ["_law_script"] (spLaw K) := by
  have e := hfa.symm.trans (PySem.W.mg_of X G a_law)
  cases e
  have T : Tx w K mg C_HeightError C_NOUGHT C_NoFraction C_NoSeries C_NoWay C_NoWeights C_ONE C_RISES C_TooFar C_TooHigh C_TooMany := { b_abs := PySem.W.mg_none_of X G n_abs, b_enumerate := PySem.W.mg_none_of X G n_enumerate, b_len := PySem.W.mg_none_of X G n_len, b_list := PySem.W.mg_none_of X G n_list, b_max := PySem.W.mg_none_of X G n_max, b_min := PySem.W.mg_none_of X G n_min, b_range := PySem.W.mg_none_of X G n_range, b_reversed := PySem.W.mg_none_of X G n_reversed, b_tuple := PySem.W.mg_none_of X G n_tuple, m_HeightError := PySem.W.mg_of X G a_HeightError, m_NOUGHT := PySem.W.mg_of X G a_NOUGHT, m_NoFraction := PySem.W.mg_of X G a_NoFraction, m_NoSeries := PySem.W.mg_of X G a_NoSeries, m_NoWay := PySem.W.mg_of X G a_NoWay, m_NoWeights := PySem.W.mg_of X G a_NoWeights, m_ONE := PySem.W.mg_of X G a_ONE, m_RISES := PySem.W.mg_of X G a_RISES, m_TooFar := PySem.W.mg_of X G a_TooFar, m_TooHigh := PySem.W.mg_of X G a_TooHigh, m_TooMany := PySem.W.mg_of X G a_TooMany, rises := kd_rises l_RISES q1_RISES q2_RISES q3_RISES q4_RISES, i_HeightError := x_ih, y_NoWay := ⟨x_saw, x_npw, x_obw, x_cdw⟩, y_TooHigh := ⟨x_sah, x_nph, x_obh, x_cdh⟩, j_NoWay := ⟨_, y_NoWay_init⟩, j_TooHigh := ⟨_, y_TooHigh_init⟩, x_TooMany := x_tm, g_MOST_L := ⟨_, PySem.W.mg_of X G a_MOST_LISTED⟩, nought := frIn_sq x_nought, one := frIn_sq x_one, x_NoWeights := x_nw, x_TooFar := x_tf, g_MOST := ⟨_, PySem.W.mg_of X G a_MOST_LEVELS⟩, x_NoFraction := x_nf, x_NoSeries := x_nser }
  refine ⟨PySem.W.fnOf "law" "law" (defArgs s_law) (defBody s_law) (defScope s_law) .none kV_law dc_law pm_law an_law cd_law ct_law, fun s v => .of_eq rfl, fun base _ _ => ?_⟩
  have h_shared_part := ok_shared_part (P := l.prog) (w := w) (base := base) (fun_mk (st := s_shared_part) l_shared_part e_shared_part k_shared_part) (PySem.W.mg_of X G a_shared_part) T 
  have h_plus := ok_plus (P := l.prog) (w := w) (base := base) (fun_mk (st := s_plus) l_plus e_plus k_plus) (PySem.W.mg_of X G a_plus) T h_shared_part
  have h_minus := ok_minus (P := l.prog) (w := w) (base := base) (fun_mk (st := s_minus) l_minus e_minus k_minus) (PySem.W.mg_of X G a_minus) T h_plus
  have h_times := ok_times (P := l.prog) (w := w) (base := base) (fun_mk (st := s_times) l_times e_times k_times) (PySem.W.mg_of X G a_times) T h_shared_part
  have h_over := ok_over (P := l.prog) (w := w) (base := base) (fun_mk (st := s_over) l_over e_over k_over) (PySem.W.mg_of X G a_over) T h_times
  have h_poly_of := ok_poly_of (P := l.prog) (w := w) (base := base) (fun_mk (st := s_poly_of) l_poly_of e_poly_of k_poly_of) (PySem.W.mg_of X G a_poly_of) T 
  have h_number_at := ok_number_at (P := l.prog) (w := w) (base := base) (fun_mk (st := s_number_at) l_number_at e_number_at k_number_at) (PySem.W.mg_of X G a_number_at) T 
  have h_poly_plus := ok_poly_plus (P := l.prog) (w := w) (base := base) (fun_mk (st := s_poly_plus) l_poly_plus e_poly_plus k_poly_plus) (PySem.W.mg_of X G a_poly_plus) T h_number_at h_plus h_poly_of
  have h_poly_scaled := ok_poly_scaled (P := l.prog) (w := w) (base := base) (fun_mk (st := s_poly_scaled) l_poly_scaled e_poly_scaled k_poly_scaled) (PySem.W.mg_of X G a_poly_scaled) T h_poly_of h_times
  have h_poly_minus := ok_poly_minus (P := l.prog) (w := w) (base := base) (fun_mk (st := s_poly_minus) l_poly_minus e_poly_minus k_poly_minus) (PySem.W.mg_of X G a_poly_minus) T h_poly_plus h_poly_scaled
  have h_poly_times := ok_poly_times (P := l.prog) (w := w) (base := base) (fun_mk (st := s_poly_times) l_poly_times e_poly_times k_poly_times) (PySem.W.mg_of X G a_poly_times) T h_plus h_poly_of h_times
  have h_degree_of := ok_degree_of (P := l.prog) (w := w) (base := base) (fun_mk (st := s_degree_of) l_degree_of e_degree_of k_degree_of) (PySem.W.mg_of X G a_degree_of) T 
  have h_NoWay_init := ok_NoWay_init (P := l.prog) (w := w) (base := base) (fun_mk (st := s_NoWay_init) l_NoWay_init e_NoWay_init k_NoWay_init) y_NoWay_init kc_NoWay_init T 
  have h_heights_along := ok_heights_along (P := l.prog) (w := w) (base := base) (fun_mk (st := s_heights_along) l_heights_along e_heights_along k_heights_along) (PySem.W.mg_of X G a_heights_along) T h_NoWay_init
  have h_is_within := ok_is_within (P := l.prog) (w := w) (base := base) (fun_mk (st := s_is_within) l_is_within e_is_within k_is_within) (PySem.W.mg_of X G a_is_within) T 
  have h_one_step_longer := ok_one_step_longer (P := l.prog) (w := w) (base := base) (fun_mk (st := s_one_step_longer) l_one_step_longer e_one_step_longer k_one_step_longer) (PySem.W.mg_of X G a_one_step_longer) T h_is_within
  have h_ways_to_go := ok_ways_to_go (P := l.prog) (w := w) (base := base) (fun_mk (st := s_ways_to_go) l_ways_to_go e_ways_to_go k_ways_to_go) (PySem.W.mg_of X G a_ways_to_go) T h_is_within h_one_step_longer
  have h_ways_counted := ok_ways_counted (P := l.prog) (w := w) (base := base) (funD_mk (st := s_ways_counted) l_ways_counted e_ways_counted k_ways_counted d_ways_counted) (PySem.W.mg_of X G a_ways_counted) T h_ways_to_go
  have h_way_at := ok_way_at (P := l.prog) (w := w) (base := base) (fun_mk (st := s_way_at) l_way_at e_way_at k_way_at) (PySem.W.mg_of X G a_way_at) T 
  have h_ways_listed := ok_ways_listed (P := l.prog) (w := w) (base := base) (funD_mk (st := s_ways_listed) l_ways_listed e_ways_listed k_ways_listed d_ways_listed) (PySem.W.mg_of X G a_ways_listed) T h_way_at h_ways_counted h_ways_to_go
  have h_weights_of := ok_weights_of (P := l.prog) (w := w) (base := base) (fun_mk (st := s_weights_of) l_weights_of e_weights_of k_weights_of) (PySem.W.mg_of X G a_weights_of) T 
  have h_height_of := ok_height_of (P := l.prog) (w := w) (base := base) (fun_mk (st := s_height_of) l_height_of e_height_of k_height_of) (PySem.W.mg_of X G a_height_of) T 
  have h_TooHigh_init := ok_TooHigh_init (P := l.prog) (w := w) (base := base) (fun_mk (st := s_TooHigh_init) l_TooHigh_init e_TooHigh_init k_TooHigh_init) y_TooHigh_init kc_TooHigh_init T 
  have h_step_weight := ok_step_weight (P := l.prog) (w := w) (base := base) (fun_mk (st := s_step_weight) l_step_weight e_step_weight k_step_weight) (PySem.W.mg_of X G a_step_weight) T h_TooHigh_init h_height_of
  have h_weight_of := ok_weight_of (P := l.prog) (w := w) (base := base) (funD_mk (st := s_weight_of) l_weight_of e_weight_of k_weight_of d_weight_of) (PySem.W.mg_of X G a_weight_of) T h_heights_along h_step_weight h_times
  have h_one_less := ok_one_less (P := l.prog) (w := w) (base := base) (fun_mk (st := s_one_less) l_one_less e_one_less k_one_less) (PySem.W.mg_of X G a_one_less) T h_minus h_poly_of
  have h_one_below := ok_one_below (P := l.prog) (w := w) (base := base) (fun_mk (st := s_one_below) l_one_below e_one_below k_one_below) (PySem.W.mg_of X G a_one_below) T h_one_less h_poly_minus h_poly_of h_poly_times
  have h_end_of := ok_end_of (P := l.prog) (w := w) (base := base) (fun_mk (st := s_end_of) l_end_of e_end_of k_end_of) (PySem.W.mg_of X G a_end_of) T h_height_of h_one_below h_one_less
  have h_series := ok_series (P := l.prog) (w := w) (base := base) (fun_mk (st := s_series) l_series e_series k_series) (PySem.W.mg_of X G a_series) T h_degree_of h_minus h_number_at h_over h_times
  have h_one_further := ok_one_further (P := l.prog) (w := w) (base := base) (fun_mk (st := s_one_further) l_one_further e_one_further k_one_further) (PySem.W.mg_of X G a_one_further) T h_minus h_poly_minus h_poly_of h_poly_scaled h_poly_times
  have h_row_of := ok_row_of (P := l.prog) (w := w) (base := base) (fun_mk (st := s_row_of) l_row_of e_row_of k_row_of) (PySem.W.mg_of X G a_row_of) T h_one_further
  have h_ruled := ok_ruled (P := l.prog) (w := w) (base := base) (fun_mk (st := s_ruled) l_ruled e_ruled k_ruled) (PySem.W.mg_of X G a_ruled) T h_degree_of h_plus h_times
  have h_in_row := ok_in_row (P := l.prog) (w := w) (base := base) (fun_mk (st := s_in_row) l_in_row e_in_row k_in_row) (PySem.W.mg_of X G a_in_row) T h_degree_of h_height_of h_number_at h_poly_minus h_poly_scaled h_row_of
  have h_check_reach := ok_check_reach (P := l.prog) (w := w) (base := base) (fun_mk (st := s_check_reach) l_check_reach e_check_reach k_check_reach) (PySem.W.mg_of X G a_check_reach) T h_height_of
  have h_sum_listed := ok_sum_listed (P := l.prog) (w := w) (base := base) (funD_mk (st := s_sum_listed) l_sum_listed e_sum_listed k_sum_listed d_sum_listed) (PySem.W.mg_of X G a_sum_listed) T h_check_reach h_plus h_ways_listed h_weight_of
  have h_one_step_on := ok_one_step_on (P := l.prog) (w := w) (base := base) (fun_mk (st := s_one_step_on) l_one_step_on e_one_step_on k_one_step_on) (PySem.W.mg_of X G a_one_step_on) T h_plus h_times
  have h_sum_stepped := ok_sum_stepped (P := l.prog) (w := w) (base := base) (funD_mk (st := s_sum_stepped) l_sum_stepped e_sum_stepped k_sum_stepped d_sum_stepped) (PySem.W.mg_of X G a_sum_stepped) T h_check_reach h_height_of h_one_step_on
  have h_moments := ok_moments (P := l.prog) (w := w) (base := base) (fun_mk (st := s_moments) l_moments e_moments k_moments) (PySem.W.mg_of X G a_moments) T h_height_of h_sum_stepped
  have h__law_stir := ok__law_stir (P := l.prog) (w := w) (base := base) (fun_mk (st := s__law_stir) l__law_stir e__law_stir k__law_stir) (PySem.W.mg_of X G a__law_stir) T 
  have h__law_lowest := ok__law_lowest (P := l.prog) (w := w) (base := base) (fun_mk (st := s__law_lowest) l__law_lowest e__law_lowest k__law_lowest) (PySem.W.mg_of X G a__law_lowest) T 
  have h__law_add := ok__law_add (P := l.prog) (w := w) (base := base) (fun_mk (st := s__law_add) l__law_add e__law_add k__law_add) (PySem.W.mg_of X G a__law_add) T h__law_lowest
  have h__law_mul := ok__law_mul (P := l.prog) (w := w) (base := base) (fun_mk (st := s__law_mul) l__law_mul e__law_mul k__law_mul) (PySem.W.mg_of X G a__law_mul) T h__law_lowest
  have h__law_row := ok__law_row (P := l.prog) (w := w) (base := base) (fun_mk (st := s__law_row) l__law_row e__law_row k__law_row) (PySem.W.mg_of X G a__law_row) T h__law_stir
  have h__law_weight_by := ok__law_weight_by (P := l.prog) (w := w) (base := base) (fun_mk (st := s__law_weight_by) l__law_weight_by e__law_weight_by k__law_weight_by) (PySem.W.mg_of X G a__law_weight_by) T h__law_lowest
  have h__law_weights := ok__law_weights (P := l.prog) (w := w) (base := base) (fun_mk (st := s__law_weights) l__law_weights e__law_weights k__law_weights) (PySem.W.mg_of X G a__law_weights) T h__law_row h__law_weight_by
  have h__law_power := ok__law_power (P := l.prog) (w := w) (base := base) (fun_mk (st := s__law_power) l__law_power e__law_power k__law_power) (PySem.W.mg_of X G a__law_power) T 
  have h__law_by_row := ok__law_by_row (P := l.prog) (w := w) (base := base) (fun_mk (st := s__law_by_row) l__law_by_row e__law_by_row k__law_by_row) (PySem.W.mg_of X G a__law_by_row) T h__law_add h__law_mul h__law_power h_in_row
  have h__law_ends_right := ok__law_ends_right (P := l.prog) (w := w) (base := base) (fun_mk (st := s__law_ends_right) l__law_ends_right e__law_ends_right k__law_ends_right) (PySem.W.mg_of X G a__law_ends_right) T h_end_of h_series h_sum_stepped
  exact fn_law (fun_mk (st := s_law) l_law e_law k_law) T h__law_by_row h__law_ends_right h__law_lowest h__law_power h__law_stir h__law_weights h_end_of h_moments h_ruled h_series h_sum_listed h_sum_stepped h_weights_of
theorem walk {l : PySem.W.OpenLaw} {q : Program} {loose : List Str} {XP : (Str → Option Value) → Heap → Prop} {YP : World → Heap → Prop} {d : DefRec} {K : Params → PySem.W.Frag} (hn : l.most = some 63) (hdf : d.params.defaults = [])
    (hY : ∀ (w : World) (h : Heap), YP w h → (K w.params).In h)
    (F : ∀ (w : World) (mg : Str → Option Value) (fa : Addr) (h : Heap), (K w.params).In h → h.Ns mainGlobals mg → mg d.name = some (.ref fa) →
      ∃ fd : FuncData, (∀ (s : Shared) (u : Value), BindsTo s fd ⟨[u], []⟩ [("_law_script", u)]) ∧ ∀ base : Heap, (K w.params).In base → base.Ns mainGlobals mg → FnOk l.prog w (K w.params) mg base (CXe l.prog w) 9 fa fd ["_law_script"] (spLaw (K w.params))) :
    PySem.W.WalkO q loose XP YP l.row.toRowW d [] (fun f vs => PySem.call f vs) :=
  L2.walk_of (n := 63) (k := 9) (x := "_law_script") (CX := fun w => CXe l.prog w) (sp := fun w => spLaw (K w.params)) hn (by decide) hdf ⟨rfl, by decide, by decide⟩ hY F (fun _ _ a ns hl _ hS => ⟨a, ns, rfl, hS, hl, fun _ => rfl⟩) fun _ _ _ _ _ ⟨_, _, _, _, _, _, _, _, z⟩ => z
end K51
theorem PySem.W.Fast.tw7202948596441917216 : True := trivial
theorem PySem.W.Fast.tw3564353637285269251 : True := trivial
theorem PySem.W.Fast.tw2791488380463883043 : True := trivial
theorem PySem.W.Fast.tw10942423827762496004 : True := trivial
theorem PySem.W.Fast.tw1174758604330456581 : True := trivial
theorem PySem.W.Fast.tw10206125410127369990 : True := trivial
theorem PySem.W.Fast.tw3709212182469028072 : True := trivial
theorem PySem.W.Fast.tw3873290429733071624 : True := trivial
theorem PySem.W.Fast.tw2952764368254554282 : True := trivial
theorem PySem.W.Fast.tw10692640818660118638 : True := trivial
theorem PySem.W.Fast.tw3326184225827550926 : True := trivial
theorem PySem.W.Fast.tw16206623481462780917 : True := trivial
theorem PySem.W.Fast.tw10723058808375053656 : True := trivial
theorem PySem.W.Fast.tw6975493750945920760 : True := trivial
theorem PySem.W.Fast.tw11455603396304200924 : True := trivial
theorem PySem.W.Fast.tw4155061607658583580 : True := trivial
theorem PySem.W.Fast.tw6084987375770607103 : True := trivial
theorem PySem.W.Fast.tw13250348879408517801 : True := trivial
theorem PySem.W.Fast.tw2639616132536508847 : True := trivial
theorem PySem.W.Fast.tw7936800830756430678 : True := trivial
theorem PySem.W.Fast.tw16261548983590651542 : True := trivial
theorem PySem.W.Fast.tw18329658830751048153 : True := trivial
theorem PySem.W.Fast.tw16860997375948464976 : True := trivial
theorem PySem.W.Fast.tw11809198306671149667 : True := trivial
theorem PySem.W.Fast.tw16398607865718509087 : True := trivial
theorem PySem.W.Fast.tw5120587032709354817 : True := trivial
theorem PySem.W.Fast.tw729900782015613313 : True := trivial
theorem PySem.W.Fast.tw17501434178261644344 : True := trivial
theorem PySem.W.Fast.tw713023293433064113 : True := trivial
theorem PySem.W.Fast.tw14878249866137046233 : True := trivial
theorem PySem.W.Fast.tw5760630486005546690 : True := trivial
theorem PySem.W.Fast.tw269277102501880487 : True := trivial
theorem PySem.W.Fast.tw9833592091778886523 : True := trivial
theorem PySem.W.Fast.tw5794058797461134523 : True := trivial
theorem PySem.W.Fast.tw2623974927180690838 : True := trivial
theorem PySem.W.Fast.tw7478834052375103454 : True := trivial
theorem PySem.W.Fast.tw9505725673300679068 : True := trivial
theorem PySem.W.Fast.tw5275898716962791225 : True := trivial
theorem PySem.W.Fast.tw2324714536024732719 : True := trivial
theorem PySem.W.Fast.tw2400904709057444402 : True := trivial
theorem PySem.W.Fast.tw8623911154658315410 : True := trivial
theorem PySem.W.Fast.tw4903732813365542455 : True := trivial
theorem PySem.W.Fast.tw2693698488496464614 : True := trivial
theorem PySem.W.Fast.tw8766720490002428932 : True := trivial
theorem PySem.W.Fast.tw3383454947900074362 : True := trivial
theorem PySem.W.Fast.tw12163228900523289402 : True := trivial
theorem PySem.W.Fast.tw5793468887172133738 : True := trivial
theorem PySem.W.Fast.tw5913742353123069520 : True := trivial
theorem PySem.W.Fast.tw17931055278634628574 : True := trivial
theorem PySem.W.Fast.tw14379467737439529368 : True := trivial
theorem PySem.W.Fast.tw10405320420321110252 : True := trivial
theorem PySem.W.Fast.tw6611693917508235140 : True := trivial
theorem PySem.W.Fast.tw6477585345855234183 : True := trivial
theorem PySem.W.Fast.tw14016070586223711885 : True := trivial
theorem PySem.W.Fast.tw10540878924343225674 : True := trivial
theorem PySem.W.Fast.tw4416382279223488921 : True := trivial
theorem PySem.W.Fast.tw7764846408355473645 : True := trivial
theorem PySem.W.Fast.tw15649170759216513241 : True := trivial
theorem PySem.W.Fast.tw10408280547854996004 : True := trivial
theorem PySem.W.Fast.tw3447115218754410231 : True := trivial
theorem PySem.W.Fast.tw17864040277259027589 : True := trivial
theorem PySem.W.Fast.tw864606684709526630 : True := trivial
theorem PySem.W.Fast.tw16172051288462169404 : True := trivial
theorem PySem.W.Fast.tw1054505621352881390 : True := trivial
theorem PySem.W.Fast.tw1383685124751604687 : True := trivial
theorem PySem.W.Fast.tw4272619164268971864 : True := trivial
theorem PySem.W.Fast.tw17349134873267538300 : True := trivial
theorem PySem.W.Fast.tw9596392347174210841 : True := trivial
theorem PySem.W.Fast.tw7691108539626509658 : True := trivial
theorem PySem.W.Fast.tw7025494146459193488 : True := trivial
theorem PySem.W.Fast.tw16317151162379631239 : True := trivial
theorem PySem.W.Fast.tw1248788010710267700 : True := trivial
theorem PySem.W.Fast.tw18375039634087752915 : True := trivial
theorem PySem.W.Fast.tw16516151645213733738 : True := trivial
theorem PySem.W.Fast.tw11509959089146755072 : True := trivial
theorem PySem.W.Fast.tw3161488004156722549 : True := trivial
theorem PySem.W.Fast.tw8936929363403190878 : True := trivial
theorem PySem.W.Fast.tw593938779929528822 : True := trivial
theorem PySem.W.Fast.tw17354741073855643568 : True := trivial
theorem PySem.W.Fast.tw14864942166636124198 : True := trivial
theorem PySem.W.Fast.tw5746440329908677105 : True := trivial
theorem PySem.W.Fast.tw7633923257696151114 : True := trivial
theorem PySem.W.Fast.tw11074060639024144707 : True := trivial
theorem PySem.W.Fast.tw16461047457158667427 : True := trivial
theorem PySem.W.Fast.tw13835140685931963675 : True := trivial
theorem PySem.W.Fast.tw2562409342509845380 : True := trivial
theorem PySem.W.Fast.tw6076215703542199616 : True := trivial
theorem PySem.W.Fast.tw15774012252884042489 : True := trivial
theorem PySem.W.Fast.tw8239152048020062213 : True := trivial
theorem PySem.W.Fast.tw17622552257960263361 : True := trivial
theorem PySem.W.Fast.tw243704405835626439 : True := trivial
theorem PySem.W.Fast.tw13068713962411911933 : True := trivial
theorem PySem.W.Fast.tw12335536576668003295 : True := trivial
theorem PySem.W.Fast.tw4204716980905606413 : True := trivial
theorem PySem.W.Fast.tw7381315905238045447 : True := trivial
theorem PySem.W.Fast.tw17752839053949308559 : True := trivial
theorem PySem.W.Fast.tw8573550894925529509 : True := trivial
theorem PySem.W.Fast.tw15856793555944678090 : True := trivial
theorem PySem.W.Fast.tw4899895077037412798 : True := trivial
theorem PySem.W.Fast.tw14509509517374708831 : True := trivial
theorem PySem.W.Fast.tw3848660517229439917 : True := trivial
theorem PySem.W.Fast.tw10445965119553440410 : True := trivial
theorem PySem.W.Fast.tw5358202931607376056 : True := trivial
theorem PySem.W.Fast.tw14835328025743157789 : True := trivial
theorem PySem.W.Fast.tw11927432259037144436 : True := trivial
theorem PySem.W.Fast.tw11786160924956078304 : True := trivial
theorem PySem.W.Fast.tw18192912593416921210 : True := trivial
theorem PySem.W.Fast.tw12403094784062481883 : True := trivial
theorem PySem.W.Fast.tw7623795481987794767 : True := trivial
theorem PySem.W.Fast.tw7285411438669731055 : True := trivial
theorem PySem.W.Fast.tw9458366892067728938 : True := trivial
theorem PySem.W.Fast.tw15461246440562498328 : True := trivial
theorem PySem.W.Fast.tw10383771575570774789 : True := trivial
theorem PySem.W.Fast.tw7790311798575823979 : True := trivial
theorem PySem.W.Fast.tw16109238327447720282 : True := trivial
theorem PySem.W.Fast.tw18373006066574476737 : True := trivial
theorem PySem.W.Fast.tw8814454404057824660 : True := trivial
theorem PySem.W.Fast.tw17782769869610158655 : True := trivial
theorem PySem.W.Fast.tw18216125724737587307 : True := trivial
theorem PySem.W.Fast.tw10003406012139802210 : True := trivial
theorem PySem.W.Fast.tw5480564383159083967 : True := trivial
theorem PySem.W.Fast.tw630795597762650643 : True := trivial
theorem PySem.W.Fast.tw6615149060183118944 : True := trivial
theorem PySem.W.Fast.tw15357754312194462593 : True := trivial
theorem PySem.W.Fast.tw10553376734251900454 : True := trivial
theorem PySem.W.Fast.tw4168330409612613702 : True := trivial
theorem PySem.W.Fast.tw4090472379584599882 : True := trivial
theorem PySem.W.Fast.tw8266027184622778656 : True := trivial
theorem PySem.W.Fast.tw10793118788467943937 : True := trivial
theorem PySem.W.Fast.tw774834418782459571 : True := trivial
theorem PySem.W.Fast.tw1039455142516963176 : True := trivial
theorem PySem.W.Fast.tw473939636446615026 : True := trivial
theorem PySem.W.Fast.tw17607626999527739651 : True := trivial
theorem PySem.W.Fast.tw8144622987938193608 : True := trivial
theorem PySem.W.Fast.tw14238360352778131962 : True := trivial
theorem PySem.W.Fast.tw17949567346433562960 : True := trivial
theorem PySem.W.Fast.tw13904781258402288221 : True := trivial
theorem PySem.W.Fast.tw11897845852000104824 : True := trivial
theorem PySem.W.Fast.tw16870698703950884385 : True := trivial
theorem PySem.W.Fast.tw8792978185218085858 : True := trivial
open PySem PySem.W PyProof.Rows
set_option maxRecDepth 100000 in
set_option maxHeartbeats 0 in
theorem PySem.Challenge.cw_heightfractions_k51_whole_four_roads_holds : PySem.Challenge.rw_heightfractions_k51_whole_four_roads.Holds := by
  w_on; o_law; k_head; (case hw => w_witness2)
  k_fill
  refine K51.walk (l := PySem.Challenge.rw_heightfractions_k51_whole_four_roads) rfl rfl (fun w h Y => PySem.W.kIn_of Y) ?F
  case F =>
    intro w mg fa h KX G hmg
    refine' K51.all_mk KX G hmg ?a_shared_part ?l_shared_part ?e_shared_part ?k_shared_part ?a_plus ?l_plus ?e_plus ?k_plus ?a_minus ?l_minus ?e_minus ?k_minus ?a_times ?l_times ?e_times ?k_times ?a_over ?l_over ?e_over ?k_over ?a_poly_of ?l_poly_of ?e_poly_of ?k_poly_of ?a_number_at ?l_number_at ?e_number_at ?k_number_at ?a_poly_plus ?l_poly_plus ?e_poly_plus ?k_poly_plus ?a_poly_scaled ?l_poly_scaled ?e_poly_scaled ?k_poly_scaled ?a_poly_minus ?l_poly_minus ?e_poly_minus ?k_poly_minus ?a_poly_times ?l_poly_times ?e_poly_times ?k_poly_times ?a_degree_of ?l_degree_of ?e_degree_of ?k_degree_of ?a_heights_along ?l_heights_along ?e_heights_along ?k_heights_along ?a_is_within ?l_is_within ?e_is_within ?k_is_within ?a_one_step_longer ?l_one_step_longer ?e_one_step_longer ?k_one_step_longer ?a_ways_to_go ?l_ways_to_go ?e_ways_to_go ?k_ways_to_go ?a_ways_counted ?l_ways_counted ?e_ways_counted ?k_ways_counted ?d_ways_counted ?a_way_at ?l_way_at ?e_way_at ?k_way_at ?a_ways_listed ?l_ways_listed ?e_ways_listed ?k_ways_listed ?d_ways_listed ?a_weights_of ?l_weights_of ?e_weights_of ?k_weights_of ?a_height_of ?l_height_of ?e_height_of ?k_height_of ?a_step_weight ?l_step_weight ?e_step_weight ?k_step_weight ?a_weight_of ?l_weight_of ?e_weight_of ?k_weight_of ?d_weight_of ?a_one_less ?l_one_less ?e_one_less ?k_one_less ?a_one_below ?l_one_below ?e_one_below ?k_one_below ?a_end_of ?l_end_of ?e_end_of ?k_end_of ?a_series ?l_series ?e_series ?k_series ?a_one_further ?l_one_further ?e_one_further ?k_one_further ?a_row_of ?l_row_of ?e_row_of ?k_row_of ?a_ruled ?l_ruled ?e_ruled ?k_ruled ?a_in_row ?l_in_row ?e_in_row ?k_in_row ?a_check_reach ?l_check_reach ?e_check_reach ?k_check_reach ?a_sum_listed ?l_sum_listed ?e_sum_listed ?k_sum_listed ?d_sum_listed ?a_one_step_on ?l_one_step_on ?e_one_step_on ?k_one_step_on ?a_sum_stepped ?l_sum_stepped ?e_sum_stepped ?k_sum_stepped ?d_sum_stepped ?a_moments ?l_moments ?e_moments ?k_moments ?a__law_stir ?l__law_stir ?e__law_stir ?k__law_stir ?a__law_lowest ?l__law_lowest ?e__law_lowest ?k__law_lowest ?a__law_add ?l__law_add ?e__law_add ?k__law_add ?a__law_mul ?l__law_mul ?e__law_mul ?k__law_mul ?a__law_row ?l__law_row ?e__law_row ?k__law_row ?a__law_weight_by ?l__law_weight_by ?e__law_weight_by ?k__law_weight_by ?a__law_weights ?l__law_weights ?e__law_weights ?k__law_weights ?a__law_power ?l__law_power ?e__law_power ?k__law_power ?a__law_by_row ?l__law_by_row ?e__law_by_row ?k__law_by_row ?a__law_ends_right ?l__law_ends_right ?e__law_ends_right ?k__law_ends_right ?a_law ?l_law ?e_law ?k_law ?a_HeightError ?a_NOUGHT ?a_NoFraction ?a_NoSeries ?a_NoWay ?a_NoWeights ?a_ONE ?a_RISES ?a_TooFar ?a_TooHigh ?a_TooMany ?a_NoWay_init ?l_NoWay_init ?e_NoWay_init ?k_NoWay_init ?y_NoWay_init ?kc_NoWay_init ?a_TooHigh_init ?l_TooHigh_init ?e_TooHigh_init ?k_TooHigh_init ?y_TooHigh_init ?kc_TooHigh_init ?n_abs ?n_enumerate ?n_len ?n_list ?n_max ?n_min ?n_range ?n_reversed ?n_tuple ?a_MOST_LISTED ?a_MOST_LEVELS ?l_RISES ?q1_RISES ?q2_RISES ?q3_RISES ?q4_RISES ?x_ih ?x_saw ?x_npw ?x_cdw ?x_obw ?x_sah ?x_nph ?x_cdh ?x_obh ?x_tm ?x_nought ?x_one ?x_nw ?x_tf ?x_nf ?x_nser
    (case a_shared_part => k_is)
    (case l_shared_part => k_is)
    (case e_shared_part => k_is)
    (case k_shared_part => k_is)
    (case a_plus => k_is)
    (case l_plus => k_is)
    (case e_plus => k_is)
    (case k_plus => k_is)
    (case a_minus => k_is)
    (case l_minus => k_is)
    (case e_minus => k_is)
    (case k_minus => k_is)
    (case a_times => k_is)
    (case l_times => k_is)
    (case e_times => k_is)
    (case k_times => k_is)
    (case a_over => k_is)
    (case l_over => k_is)
    (case e_over => k_is)
    (case k_over => k_is)
    (case a_poly_of => k_is)
    (case l_poly_of => k_is)
    (case e_poly_of => k_is)
    (case k_poly_of => k_is)
    (case a_number_at => k_is)
    (case l_number_at => k_is)
    (case e_number_at => k_is)
    (case k_number_at => k_is)
    (case a_poly_plus => k_is)
    (case l_poly_plus => k_is)
    (case e_poly_plus => k_is)
    (case k_poly_plus => k_is)
    (case a_poly_scaled => k_is)
    (case l_poly_scaled => k_is)
    (case e_poly_scaled => k_is)
    (case k_poly_scaled => k_is)
    (case a_poly_minus => k_is)
    (case l_poly_minus => k_is)
    (case e_poly_minus => k_is)
    (case k_poly_minus => k_is)
    (case a_poly_times => k_is)
    (case l_poly_times => k_is)
    (case e_poly_times => k_is)
    (case k_poly_times => k_is)
    (case a_degree_of => k_is)
    (case l_degree_of => k_is)
    (case e_degree_of => k_is)
    (case k_degree_of => k_is)
    (case a_heights_along => k_is)
    (case l_heights_along => k_is)
    (case e_heights_along => k_is)
    (case k_heights_along => k_is)
    (case a_is_within => k_is)
    (case l_is_within => k_is)
    (case e_is_within => k_is)
    (case k_is_within => k_is)
    (case a_one_step_longer => k_is)
    (case l_one_step_longer => k_is)
    (case e_one_step_longer => k_is)
    (case k_one_step_longer => k_is)
    (case a_ways_to_go => k_is)
    (case l_ways_to_go => k_is)
    (case e_ways_to_go => k_is)
    (case k_ways_to_go => k_is)
    (case a_ways_counted => k_is)
    (case l_ways_counted => k_is)
    (case e_ways_counted => k_is)
    (case k_ways_counted => k_is)
    (case d_ways_counted => kernel_rfl)
    (case a_way_at => k_is)
    (case l_way_at => k_is)
    (case e_way_at => k_is)
    (case k_way_at => k_is)
    (case a_ways_listed => k_is)
    (case l_ways_listed => k_is)
    (case e_ways_listed => k_is)
    (case k_ways_listed => k_is)
    (case d_ways_listed => kernel_rfl)
    (case a_weights_of => k_is)
    (case l_weights_of => k_is)
    (case e_weights_of => k_is)
    (case k_weights_of => k_is)
    (case a_height_of => k_is)
    (case l_height_of => k_is)
    (case e_height_of => k_is)
    (case k_height_of => k_is)
    (case a_step_weight => k_is)
    (case l_step_weight => k_is)
    (case e_step_weight => k_is)
    (case k_step_weight => k_is)
    (case a_weight_of => k_is)
    (case l_weight_of => k_is)
    (case e_weight_of => k_is)
    (case k_weight_of => k_is)
    (case d_weight_of => kernel_rfl)
    (case a_one_less => k_is)
    (case l_one_less => k_is)
    (case e_one_less => k_is)
    (case k_one_less => k_is)
    (case a_one_below => k_is)
    (case l_one_below => k_is)
    (case e_one_below => k_is)
    (case k_one_below => k_is)
    (case a_end_of => k_is)
    (case l_end_of => k_is)
    (case e_end_of => k_is)
    (case k_end_of => k_is)
    (case a_series => k_is)
    (case l_series => k_is)
    (case e_series => k_is)
    (case k_series => k_is)
    (case a_one_further => k_is)
    (case l_one_further => k_is)
    (case e_one_further => k_is)
    (case k_one_further => k_is)
    (case a_row_of => k_is)
    (case l_row_of => k_is)
    (case e_row_of => k_is)
    (case k_row_of => k_is)
    (case a_ruled => k_is)
    (case l_ruled => k_is)
    (case e_ruled => k_is)
    (case k_ruled => k_is)
    (case a_in_row => k_is)
    (case l_in_row => k_is)
    (case e_in_row => k_is)
    (case k_in_row => k_is)
    (case a_check_reach => k_is)
    (case l_check_reach => k_is)
    (case e_check_reach => k_is)
    (case k_check_reach => k_is)
    (case a_sum_listed => k_is)
    (case l_sum_listed => k_is)
    (case e_sum_listed => k_is)
    (case k_sum_listed => k_is)
    (case d_sum_listed => kernel_rfl)
    (case a_one_step_on => k_is)
    (case l_one_step_on => k_is)
    (case e_one_step_on => k_is)
    (case k_one_step_on => k_is)
    (case a_sum_stepped => k_is)
    (case l_sum_stepped => k_is)
    (case e_sum_stepped => k_is)
    (case k_sum_stepped => k_is)
    (case d_sum_stepped => kernel_rfl)
    (case a_moments => k_is)
    (case l_moments => k_is)
    (case e_moments => k_is)
    (case k_moments => k_is)
    (case a__law_stir => k_is)
    (case l__law_stir => k_is)
    (case e__law_stir => k_is)
    (case k__law_stir => k_is)
    (case a__law_lowest => k_is)
    (case l__law_lowest => k_is)
    (case e__law_lowest => k_is)
    (case k__law_lowest => k_is)
    (case a__law_add => k_is)
    (case l__law_add => k_is)
    (case e__law_add => k_is)
    (case k__law_add => k_is)
    (case a__law_mul => k_is)
    (case l__law_mul => k_is)
    (case e__law_mul => k_is)
    (case k__law_mul => k_is)
    (case a__law_row => k_is)
    (case l__law_row => k_is)
    (case e__law_row => k_is)
    (case k__law_row => k_is)
    (case a__law_weight_by => k_is)
    (case l__law_weight_by => k_is)
    (case e__law_weight_by => k_is)
    (case k__law_weight_by => k_is)
    (case a__law_weights => k_is)
    (case l__law_weights => k_is)
    (case e__law_weights => k_is)
    (case k__law_weights => k_is)
    (case a__law_power => k_is)
    (case l__law_power => k_is)
    (case e__law_power => k_is)
    (case k__law_power => k_is)
    (case a__law_by_row => k_is)
    (case l__law_by_row => k_is)
    (case e__law_by_row => k_is)
    (case k__law_by_row => k_is)
    (case a__law_ends_right => k_is)
    (case l__law_ends_right => k_is)
    (case e__law_ends_right => k_is)
    (case k__law_ends_right => k_is)
    (case a_law => k_is)
    (case l_law => k_is)
    (case e_law => k_is)
    (case k_law => k_is)
    (case a_HeightError => k_is)
    (case a_NOUGHT => k_is)
    (case a_NoFraction => k_is)
    (case a_NoSeries => k_is)
    (case a_NoWay => k_is)
    (case a_NoWeights => k_is)
    (case a_ONE => k_is)
    (case a_RISES => k_is)
    (case a_TooFar => k_is)
    (case a_TooHigh => k_is)
    (case a_TooMany => k_is)
    (case a_NoWay_init => k_is)
    (case l_NoWay_init => k_is)
    (case e_NoWay_init => k_is)
    (case k_NoWay_init => k_is)
    (case y_NoWay_init => kernel_rfl)
    (case kc_NoWay_init => k_is)
    (case a_TooHigh_init => k_is)
    (case l_TooHigh_init => k_is)
    (case e_TooHigh_init => k_is)
    (case k_TooHigh_init => k_is)
    (case y_TooHigh_init => kernel_rfl)
    (case kc_TooHigh_init => k_is)
    (case n_abs => k_is)
    (case n_enumerate => k_is)
    (case n_len => k_is)
    (case n_list => k_is)
    (case n_max => k_is)
    (case n_min => k_is)
    (case n_range => k_is)
    (case n_reversed => k_is)
    (case n_tuple => k_is)
    (case a_MOST_LISTED => k_is)
    (case a_MOST_LEVELS => k_is)
    (case l_RISES => k_is)
    (case q1_RISES => kernel_rfl)
    (case q2_RISES => kernel_rfl)
    (case q3_RISES => kernel_rfl)
    (case q4_RISES => kernel_rfl)
    (case x_ih => kernel_rfl)
    (case x_saw => kernel_rfl)
    (case x_npw => kernel_rfl)
    (case x_cdw => kernel_rfl)
    (case x_obw => kernel_rfl)
    (case x_sah => kernel_rfl)
    (case x_nph => kernel_rfl)
    (case x_cdh => kernel_rfl)
    (case x_obh => kernel_rfl)
    (case x_tm => kernel_rfl)
    (case x_nought => kernel_rfl)
    (case x_one => kernel_rfl)
    (case x_nw => kernel_rfl)
    (case x_tf => kernel_rfl)
    (case x_nf => kernel_rfl)
    (case x_nser => kernel_rfl)
