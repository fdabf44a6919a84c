import PyProof.Rows.All
import Wide.All
import OpenK.AllK
import Wide.FinOn
import HandS.ForMost
import HandS.ForExc
import HandS.TupAny
import HandS.IsInst
import HandS.Wide
import HandS.Conv
import HandS.Zip
import HandS.More
import HandS.Style
import HandS.Flow
import KE.GoesEnum
import HandS.Iter
import HandS.SetBool
import HandS.Strs
import HandS.DictComp
import HandS.SortKw
import HandS.SortRule
import HandS.ExcIs
import HandS.FStr
import PyProof.StrBlock2
import HandS.SetFor
import HandS.ExcValue
import KE.KDictZip
import KE.SortData
import KE.DataMinMax
import PySem.Challenge.RW_hammersale_k08_courses_looked_at
set_option Elab.async false
set_option linter.all false
set_option maxRecDepth 100000
set_option maxHeartbeats 4000000
/-! Mi: values as plain data, one store of lists and dicts; what a def does as a function over these. -/
namespace Mi
open PySem PySem.Spec PyProof.Rows L2

/-! ### data -/
inductive D where
  | non
  | bl (b : Bool)
  | int (i : Int)
  | str (x : Str)
  | tup (ds : List D)
  | ref (n : Nat)
  | fn (x : Str)
  | fro (ds : List D)
  | hot (a : Addr)
inductive O where
  | lst (xs : List D)
  | dic (kvs : List (Key × D))
  | fdic (kvs : List (Key × D))
  | ins (c : Str) (fs : List (Str × D))
  | dT (kvs : List (List Key × D))
abbrev Mem := List O
abbrev En := List (Option D)
inductive R (α : Type) where
  | ok (a : α) (m : Mem)
  | exc (c : Str) (m : Mem)
  | bad
def R.bind {α β : Type} (r : R α) (f : α → Mem → R β) : R β := match r with
  | .ok a m => f a m
  | .exc c m => .exc c m
  | .bad => .bad
abbrev M (α : Type) := Mem → R α
inductive RS where
  | nx (e : En) (m : Mem)
  | rt (d : D) (m : Mem)
  | bk (e : En) (m : Mem)
  | ct (e : En) (m : Mem)
  | exc (c : Str) (e : En) (m : Mem)
  | bad
abbrev ME := En → M D
abbrev MT := En → M Bool
abbrev MA := En → M (List D)
abbrev MS := En → Mem → RS

/-! ### how data lie in the abstract heap -/
structure Gx where
  K : PySem.W.Frag
  mg : Str → Option Value
/-- a list that stays as it is: locked, or of the module -/
def Fz (K : PySem.W.Frag) (H : Hp) (a : Addr) (xs : List V) : Prop := (∃ o, H a = some (.frz o (.lst xs))) ∨ SqL K (fun _ => none) a xs
theorem sq_none {K : PySem.W.Frag} {H : Hp} {a : Addr} {xs : List V} (h : SqL K (fun _ => none) a xs) : SqL K H a xs := by
  rcases h with (h | ⟨o, h⟩) | h
  · cases h
  · cases h
  · exact .inr h
theorem Fz.sq {K : PySem.W.Frag} {H : Hp} {a : Addr} {xs : List V} (h : Fz K H a xs) : SqL K H a xs := by
  rcases h with ⟨o, h⟩ | h
  · exact .inl (.inr ⟨o, h⟩)
  · exact sq_none h
mutual
inductive RD (g : Gx) (p : List Addr) (H : Hp) : D → V → Prop
  | non : RD g p H .non .non
  | bl (b : Bool) : RD g p H (.bl b) (.bl b)
  | int (i : Int) : RD g p H (.int i) (.int i)
  | str (x : Str) : RD g p H (.str x) (.str x)
  | tup {a : Addr} {xs : List V} {ds : List D} : SqT g.K H a xs → RDs g p H ds xs → RD g p H (.tup ds) (.ref a)
  | ref {n : Nat} {a : Addr} : p[n]? = some a → RD g p H (.ref n) (.ref a)
  | fn {x : Str} {f : Addr} : g.mg x = some (.ref f) → RD g p H (.fn x) (.ref f)
  | fro {a : Addr} {xs : List V} {ds : List D} : Fz g.K H a xs → RDs g p H ds xs → RD g p H (.fro ds) (.ref a)
  | hot (a : Addr) : RD g p H (.hot a) (.ref a)
inductive RDs (g : Gx) (p : List Addr) (H : Hp) : List D → List V → Prop
  | nil : RDs g p H [] []
  | cons {d : D} {v : V} {ds : List D} {vs : List V} : RD g p H d v → RDs g p H ds vs → RDs g p H (d :: ds) (v :: vs)
end
section
variable {g : Gx} {p p' : List Addr} {H H' : Hp}
theorem RDs.length : ∀ {ds : List D} {vs : List V}, RDs g p H ds vs → ds.length = vs.length
  | _, _, .nil => rfl
  | _, _, .cons _ t => congrArg (· + 1) t.length
theorem RDs.get : ∀ {ds : List D} {vs : List V} {i : Nat} {d : D}, RDs g p H ds vs → ds[i]? = some d → ∃ v, vs[i]? = some v ∧ RD g p H d v
  | _, _, _, _, .nil, e => by simp at e
  | _, _, 0, _, .cons r _, e => by simp at e; subst e; exact ⟨_, rfl, r⟩
  | _, _, i + 1, d, .cons _ t, e => by
    obtain ⟨v, h1, h2⟩ := RDs.get (i := i) (d := d) t (by simpa using e)
    exact ⟨v, by simpa using h1, h2⟩
theorem RDs.getV : ∀ {ds : List D} {vs : List V} {i : Nat} {v : V}, RDs g p H ds vs → vs[i]? = some v → ∃ d, ds[i]? = some d ∧ RD g p H d v
  | _, _, _, _, .nil, e => by simp at e
  | _, _, 0, _, .cons r _, e => by simp at e; subst e; exact ⟨_, rfl, r⟩
  | _, _, i + 1, v, .cons _ t, e => by
    obtain ⟨d, h1, h2⟩ := RDs.getV (i := i) (v := v) t (by simpa using e)
    exact ⟨d, by simpa using h1, h2⟩
theorem RDs.app : ∀ {ds es : List D} {vs ws : List V}, RDs g p H ds vs → RDs g p H es ws → RDs g p H (ds ++ es) (vs ++ ws)
  | _, _, _, _, .nil, s => s
  | _, _, _, _, .cons r t, s => .cons r (t.app s)
theorem RDs.set : ∀ {ds : List D} {vs : List V} {d : D} {v : V} (i : Nat), RDs g p H ds vs → RD g p H d v → RDs g p H (ds.set i d) (vs.set i v)
  | _, _, _, _, _, .nil, _ => .nil
  | _, _, _, _, 0, .cons _ t, r => .cons r t
  | _, _, _, _, i + 1, .cons q t, r => .cons q (t.set i r)
theorem RDs.take : ∀ {ds : List D} {vs : List V} (n : Nat), RDs g p H ds vs → RDs g p H (ds.take n) (vs.take n)
  | _, _, 0, _ => .nil
  | _, _, _ + 1, .nil => .nil
  | _, _, n + 1, .cons r t => .cons r (t.take n)
theorem RDs.drop : ∀ {ds : List D} {vs : List V} (n : Nat), RDs g p H ds vs → RDs g p H (ds.drop n) (vs.drop n)
  | _, _, 0, t => t
  | _, _, _ + 1, .nil => .nil
  | _, _, n + 1, .cons _ t => t.drop n
theorem RDs.erase : ∀ {ds : List D} {vs : List V} (n : Nat), RDs g p H ds vs → RDs g p H (ds.eraseIdx n) (vs.eraseIdx n)
  | _, _, _, .nil => .nil
  | _, _, 0, .cons _ t => t
  | _, _, n + 1, .cons r t => .cons r (t.erase n)
theorem RDs.rev {ds : List D} {vs : List V} (r : RDs g p H ds vs) : RDs g p H ds.reverse vs.reverse := by
  induction ds generalizing vs with
  | nil => cases r; exact .nil
  | cons d ds ih =>
    cases r with
    | cons r t =>
      rw [List.reverse_cons, List.reverse_cons]
      exact (ih t).app (.cons r .nil)
theorem RDs.ints : ∀ (ns : List Int), RDs g p H (ns.map D.int) (ns.map V.int)
  | [] => .nil
  | i :: ns => .cons (.int i) (RDs.ints ns)
theorem RDs.ints_eq : ∀ {ns : List Int} {vs : List V}, RDs g p H (ns.map D.int) vs → vs = ns.map V.int
  | [], _, .nil => rfl
  | i :: ns, _, .cons r t => by
    cases r
    rw [RDs.ints_eq t]
    rfl
theorem RDs.bls_eq : ∀ {bs : List Bool} {vs : List V}, RDs g p H (bs.map D.bl) vs → vs = bs.map V.bl
  | [], _, .nil => rfl
  | i :: ns, _, .cons r t => by
    cases r
    rw [RDs.bls_eq t]
    rfl
theorem RDs.strs_eq : ∀ {xs : List Str} {vs : List V}, RDs g p H (xs.map D.str) vs → vs = xs.map V.str
  | [], _, .nil => rfl
  | i :: ns, _, .cons r t => by
    cases r
    rw [RDs.strs_eq t]
    rfl
end

def ROb (g : Gx) (p : List Addr) (H : Hp) (a : Addr) : O → Prop
  | .lst xs => ∃ vs, H a = some (.lst vs) ∧ RDs g p H xs vs
  | .dic kvs => ∃ vs : List (Key × V), H a = some (.dK vs) ∧ vs.map (·.1) = kvs.map (·.1) ∧ RDs g p H (kvs.map (·.2)) (vs.map (·.2))
  | .fdic kvs => ∃ (ob : Obj) (vs : List (Key × V)), H a = some (.frz ob (.dK vs)) ∧ vs.map (·.1) = kvs.map (·.1) ∧ RDs g p H (kvs.map (·.2)) (vs.map (·.2))
  | .ins c fs => ∃ (C dx : Addr) (vs : List (Str × V)), g.mg c = some (.ref C) ∧ H a = some (.ins C dx vs) ∧ vs.map (·.1) = fs.map (·.1) ∧ RDs g p H (fs.map (·.2)) (vs.map (·.2))
  | .dT kvs => ∃ vs : List (List Key × V), H a = some (.dT vs) ∧ vs.map (·.1) = kvs.map (·.1) ∧ RDs g p H (kvs.map (·.2)) (vs.map (·.2))
theorem ROb.mv {g : Gx} {p p' : List Addr} {H H' : Hp} {a : Addr} {o : O} (r : ROb g p H a o) (hq : ∀ u, H a = some u → H' a = some u) (go : ∀ (ds : List D) (vs : List V), RDs g p H ds vs → RDs g p' H' ds vs) : ROb g p' H' a o := by
  cases o with
  | lst xs => obtain ⟨vs, q, r⟩ := r; exact ⟨vs, hq _ q, go _ _ r⟩
  | dic xs => obtain ⟨vs, q, q2, r⟩ := r; exact ⟨vs, hq _ q, q2, go _ _ r⟩
  | fdic xs => obtain ⟨ob, vs, q, q2, r⟩ := r; exact ⟨ob, vs, hq _ q, q2, go _ _ r⟩
  | ins c fs => obtain ⟨C, dx, vs, hc, q, q2, r⟩ := r; exact ⟨C, dx, vs, hc, hq _ q, q2, go _ _ r⟩
  | dT xs => obtain ⟨vs, q, q2, r⟩ := r; exact ⟨vs, hq _ q, q2, go _ _ r⟩
theorem ROb.there {g : Gx} {p : List Addr} {H : Hp} {a : Addr} {o : O} (r : ROb g p H a o) : ∃ u, H a = some u ∧ (∀ xs, u ≠ .tup xs) ∧ (∀ ob w, u = .frz ob w → ∃ vs, w = .dK vs) := by
  cases o with
  | lst xs => obtain ⟨vs, q, r⟩ := r; exact ⟨_, q, (fun _ z => nomatch z), fun _ _ z => nomatch z⟩
  | dic xs => obtain ⟨vs, q, q2, r⟩ := r; exact ⟨_, q, (fun _ z => nomatch z), fun _ _ z => nomatch z⟩
  | fdic xs => obtain ⟨ob, vs, q, q2, r⟩ := r; exact ⟨_, q, (fun _ z => nomatch z), fun _ _ z => by cases z; exact ⟨_, rfl⟩⟩
  | ins c fs => obtain ⟨C, dx, vs, hc, q, q2, r⟩ := r; exact ⟨_, q, (fun _ z => nomatch z), fun _ _ z => nomatch z⟩
  | dT xs => obtain ⟨vs, q, q2, r⟩ := r; exact ⟨_, q, (fun _ z => nomatch z), fun _ _ z => nomatch z⟩
structure Ok (g : Gx) (p : List Addr) (m : Mem) (H : Hp) : Prop where
  len : p.length = m.length
  nd : p.Nodup
  ob : ∀ (n : Nat) (a : Addr) (o : O), p[n]? = some a → m[n]? = some o → ROb g p H a o
theorem Ok.get {g : Gx} {p : List Addr} {m : Mem} {H : Hp} (k : Ok g p m H) {n : Nat} {o : O} (h : m[n]? = some o) : ∃ a, p[n]? = some a ∧ ROb g p H a o := by
  have hn : n < p.length := by rw [k.len]; exact (List.getElem?_eq_some_iff.mp h).1
  exact ⟨p[n], by simp [hn], k.ob n _ o (by simp [hn]) h⟩
theorem Ok.mem {g : Gx} {p : List Addr} {m : Mem} {H : Hp} (k : Ok g p m H) {a : Addr} (h : a ∈ p) : ∃ o : O, ROb g p H a o := by
  obtain ⟨n, hn, e⟩ := List.getElem_of_mem h
  have hm : n < m.length := by rw [← k.len]; exact hn
  exact ⟨m[n], k.ob n a _ (by rw [← e]; simp [hn]) (by simp [hm])⟩
theorem Ok.there {g : Gx} {p : List Addr} {m : Mem} {H : Hp} (k : Ok g p m H) {a : Addr} (h : a ∈ p) : H a ≠ none := by
  obtain ⟨o, r⟩ := k.mem h
  obtain ⟨u, q, _⟩ := r.there
  intro e
  rw [e] at q
  cases q
theorem Ok.notTup {g : Gx} {p : List Addr} {m : Mem} {H : Hp} (k : Ok g p m H) {a : Addr} {xs : List V} (h : H a = some (.tup xs)) : a ∉ p := by
  intro hp
  obtain ⟨o, r⟩ := k.mem hp
  obtain ⟨u, q, n, _⟩ := r.there
  rw [h] at q
  cases q
  exact n _ rfl
theorem Ok.notFrz {g : Gx} {p : List Addr} {m : Mem} {H : Hp} (k : Ok g p m H) {a : Addr} {ob : Obj} {u : HO} (h : H a = some (.frz ob u)) (hu : ∀ vs, u ≠ .dK vs) : a ∉ p := by
  intro hp
  obtain ⟨o, r⟩ := k.mem hp
  obtain ⟨u', q, _, n⟩ := r.there
  rw [h] at q
  cases q
  obtain ⟨vs, z⟩ := n _ _ rfl
  exact hu vs z
theorem Ok.notFrzTup {g : Gx} {p : List Addr} {m : Mem} {H : Hp} (k : Ok g p m H) {a : Addr} {ob : Obj} {xs : List V} (h : H a = some (.frz ob (.tup xs))) : a ∉ p := k.notFrz h fun _ z => nomatch z
structure Ext (g : Gx) (p : List Addr) (H : Hp) (p' : List Addr) (m' : Mem) (H' : Hp) : Prop where
  ok : Ok g p' m' H'
  pre : ∃ r, p' = p ++ r ∧ ∀ a ∈ r, H a = none
  fr : ∀ a o, H a = some o → a ∉ p → H' a = some o
  sea : ∀ a o u, H a = some (.frz o u) → H' a = some (.frz o u)
section
variable {g : Gx} {p p1 p2 : List Addr} {m m1 m2 : Mem} {H H1 H2 : Hp}
theorem Ext.refl (k : Ok g p m H) : Ext g p H p m H := ⟨k, ⟨[], by simp, by simp⟩, fun _ _ h _ => h, fun _ _ _ h => h⟩
theorem Ext.trans (k : Ok g p m H) (a : Ext g p H p1 m1 H1) (b : Ext g p1 H1 p2 m2 H2) : Ext g p H p2 m2 H2 := by
  obtain ⟨r, e, hr⟩ := a.pre
  obtain ⟨r', e', hr'⟩ := b.pre
  refine ⟨b.ok, ⟨r ++ r', by rw [e', e, List.append_assoc], fun c hc => ?_⟩, fun c o h hc => ?_, fun c o u h => b.sea c o u (a.sea c o u h)⟩
  · rcases List.mem_append.mp hc with hc | hc
    · exact hr c hc
    · cases q : H c with
      | none => rfl
      | some o =>
        exfalso
        by_cases hp : c ∈ p
        · exact a.ok.there (by rw [e]; exact List.mem_append_left _ hp) (hr' c hc)
        · have z := a.fr c o q hp
          rw [hr' c hc] at z
          cases z
  · refine b.fr c o (a.fr c o h hc) fun z => ?_
    rw [e] at z
    rcases List.mem_append.mp z with z | z
    · exact hc z
    · rw [hr c z] at h
      cases h
theorem Ext.at (a : Ext g p H p1 m1 H1) {n : Nat} {b : Addr} (h : p[n]? = some b) : p1[n]? = some b := by
  obtain ⟨r, e, _⟩ := a.pre
  rw [e, List.getElem?_append_left (List.getElem?_eq_some_iff.mp h).1]
  exact h
theorem Ext.sqT (k : Ok g p m H) (a : Ext g p H p1 m1 H1) {b : Addr} {xs : List V} (h : SqT g.K H b xs) : SqT g.K H1 b xs := by
  rcases h with (h | ⟨o, h⟩) | h
  · exact .inl (.inl (a.fr _ _ h (k.notTup h)))
  · exact .inl (.inr ⟨o, a.fr _ _ h (k.notFrzTup h)⟩)
  · exact .inr h
theorem Ext.fz (k : Ok g p m H) (a : Ext g p H p1 m1 H1) {b : Addr} {xs : List V} (h : Fz g.K H b xs) : Fz g.K H1 b xs := by
  rcases h with ⟨o, h⟩ | h
  · exact .inl ⟨o, a.fr _ _ h (k.notFrz h (fun _ z => nomatch z))⟩
  · exact .inr h
mutual
theorem RD.ext (k : Ok g p m H) (a : Ext g p H p1 m1 H1) : ∀ {d : D} {v : V}, RD g p H d v → RD g p1 H1 d v
  | _, _, .non => .non
  | _, _, .bl b => .bl b
  | _, _, .int i => .int i
  | _, _, .str x => .str x
  | _, _, .tup h r => .tup (a.sqT k h) (RDs.ext k a r)
  | _, _, .ref h => .ref (a.at h)
  | _, _, .fn h => .fn h
  | _, _, .fro h r => .fro (a.fz k h) (RDs.ext k a r)
  | _, _, .hot b => .hot b
theorem RDs.ext (k : Ok g p m H) (a : Ext g p H p1 m1 H1) : ∀ {ds : List D} {vs : List V}, RDs g p H ds vs → RDs g p1 H1 ds vs
  | _, _, .nil => .nil
  | _, _, .cons r t => .cons (RD.ext k a r) (RDs.ext k a t)
end
end
/-- what stays while others are changed: the store goes on, tuples and locked things stand -/
structure ExtW (g : Gx) (p : List Addr) (H : Hp) (p' : List Addr) (m' : Mem) (H' : Hp) : Prop where
  ok : Ok g p' m' H'
  pre : ∃ r, p' = p ++ r
  tup : ∀ a xs, H a = some (.tup xs) → H' a = some (.tup xs)
  sea : ∀ a o u, H a = some (.frz o u) → H' a = some (.frz o u)
section
variable {g : Gx} {p p1 p2 : List Addr} {m m1 m2 : Mem} {H H1 H2 : Hp}
theorem Ext.w (k : Ok g p m H) (a : Ext g p H p1 m1 H1) : ExtW g p H p1 m1 H1 := ⟨a.ok, by obtain ⟨r, e, _⟩ := a.pre; exact ⟨r, e⟩, fun b xs h => a.fr _ _ h (k.notTup h), a.sea⟩
theorem ExtW.trans (a : ExtW g p H p1 m1 H1) (b : ExtW g p1 H1 p2 m2 H2) : ExtW g p H p2 m2 H2 := by
  obtain ⟨r, e⟩ := a.pre
  obtain ⟨r', e'⟩ := b.pre
  exact ⟨b.ok, ⟨r ++ r', by rw [e', e, List.append_assoc]⟩, fun c xs h => b.tup c xs (a.tup c xs h), fun c o u h => b.sea c o u (a.sea c o u h)⟩
theorem ExtW.at (a : ExtW g p H p1 m1 H1) {n : Nat} {b : Addr} (h : p[n]? = some b) : p1[n]? = some b := by
  obtain ⟨r, e⟩ := a.pre
  rw [e, List.getElem?_append_left (List.getElem?_eq_some_iff.mp h).1]
  exact h
theorem ExtW.sqT (_ : Ok g p m H) (a : ExtW g p H p1 m1 H1) {b : Addr} {xs : List V} (h : SqT g.K H b xs) : SqT g.K H1 b xs := by
  rcases h with (h | ⟨o, h⟩) | h
  · exact .inl (.inl (a.tup _ _ h))
  · exact .inl (.inr ⟨o, a.sea _ _ _ h⟩)
  · exact .inr h
theorem ExtW.fz (_ : Ok g p m H) (a : ExtW g p H p1 m1 H1) {b : Addr} {xs : List V} (h : Fz g.K H b xs) : Fz g.K H1 b xs := by
  rcases h with ⟨o, h⟩ | h
  · exact .inl ⟨o, a.sea _ _ _ h⟩
  · exact .inr h
mutual
theorem RD.extW (k : Ok g p m H) (a : ExtW g p H p1 m1 H1) : ∀ {d : D} {v : V}, RD g p H d v → RD g p1 H1 d v
  | _, _, .non => .non
  | _, _, .bl b => .bl b
  | _, _, .int i => .int i
  | _, _, .str x => .str x
  | _, _, .tup h r => .tup (a.sqT k h) (RDs.extW k a r)
  | _, _, .ref h => .ref (a.at h)
  | _, _, .fn h => .fn h
  | _, _, .fro h r => .fro (a.fz k h) (RDs.extW k a r)
  | _, _, .hot b => .hot b
theorem RDs.extW (k : Ok g p m H) (a : ExtW g p H p1 m1 H1) : ∀ {ds : List D} {vs : List V}, RDs g p H ds vs → RDs g p1 H1 ds vs
  | _, _, .nil => .nil
  | _, _, .cons r t => .cons (RD.extW k a r) (RDs.extW k a t)
end
end
/-- the names' values -/
structure RDo (g : Gx) (p : List Addr) (H : Hp) (e : En) (σ : L2.St) : Prop where
  len : e.length = σ.length
  at_ : ∀ (i : Nat) (d : D), e[i]? = some (some d) → ∃ v, σ[i]? = some (some v) ∧ RD g p H d v
section
variable {g : Gx} {p p1 : List Addr} {m m1 : Mem} {H H1 : Hp} {e : En} {σ : L2.St}
theorem RDo.ext (k : Ok g p m H) (a : Ext g p H p1 m1 H1) (r : RDo g p H e σ) : RDo g p1 H1 e σ := ⟨r.len, fun i d h => by
  obtain ⟨v, h1, h2⟩ := r.at_ i d h
  exact ⟨v, h1, h2.ext k a⟩⟩
theorem RDo.set (r : RDo g p H e σ) (i : Nat) {d : D} {v : V} (h : RD g p H d v) : RDo g p H (e.set i (some d)) (σ.set i (some v)) := by
  refine ⟨by simp [r.len], fun j d' hj => ?_⟩
  by_cases hij : i = j
  · subst hij
    by_cases hl : i < e.length
    · rw [List.getElem?_set_self hl] at hj
      cases hj
      exact ⟨v, by rw [List.getElem?_set_self (by rw [← r.len]; exact hl)], h⟩
    · rw [List.getElem?_eq_none (by simp; omega)] at hj
      cases hj
  · rw [List.getElem?_set_ne hij] at hj ⊢
    exact r.at_ j d' hj
end

theorem RDo.extW {g : Gx} {p p1 : List Addr} {m m1 : Mem} {H H1 : Hp} {e : En} {σ : L2.St} (k : Ok g p m H) (a : ExtW g p H p1 m1 H1) (r : RDo g p H e σ) : RDo g p1 H1 e σ := ⟨r.len, fun i d h => by
  obtain ⟨v, h1, h2⟩ := r.at_ i d h
  exact ⟨v, h1, h2.extW k a⟩⟩

/-! ### new objects, changed objects -/
section
variable {g : Gx} {p : List Addr} {m : Mem} {H : Hp}
theorem RDs.of_list {ds : List D} {vs : List V} (hl : ds.length = vs.length) (h : ∀ (i : Nat) d v, ds[i]? = some d → vs[i]? = some v → RD g p H d v) : RDs g p H ds vs := by
  induction ds generalizing vs with
  | nil => cases vs with
    | nil => exact .nil
    | cons => simp at hl
  | cons d ds ih => cases vs with
    | nil => simp at hl
    | cons v vs => exact .cons (h 0 d v rfl rfl) (ih (by simpa using hl) fun i d v h1 h2 => h (i + 1) d v (by simpa using h1) (by simpa using h2))
/-- a tuple (or any thing that the store does not count) is new -/
theorem Ext.fresh (k : Ok g p m H) {a : Addr} {o : HO} (h : H a = none) : Ext g p H p m (upd H a o) := by
  have fr : ∀ b u, H b = some u → upd H a o b = some u := fun b u e => by rw [upd_ne (ne_of_none e h)]; exact e
  have hs : ∀ {b xs}, SqT g.K H b xs → SqT g.K (upd H a o) b xs := fun {b xs} z => by
    rcases z with (z | ⟨u, z⟩) | z
    · exact .inl (.inl (fr _ _ z))
    · exact .inl (.inr ⟨u, fr _ _ z⟩)
    · exact .inr z
  have hz : ∀ {b xs}, Fz g.K H b xs → Fz g.K (upd H a o) b xs := fun {b xs} z => by
    rcases z with ⟨u, z⟩ | z
    · exact .inl ⟨u, fr _ _ z⟩
    · exact .inr z
  have go : ∀ (ds : List D) (vs : List V), RDs g p H ds vs → RDs g p (upd H a o) ds vs := by
    intro ds vs r
    exact RDs.rec (g := g) (p := p) (H := H) (motive_1 := fun d v _ => RD g p (upd H a o) d v) (motive_2 := fun d v _ => RDs g p (upd H a o) d v) .non .bl .int .str (fun h _ ih => .tup (hs h) ih) (fun h => .ref h) (fun h => .fn h) (fun h _ ih => .fro (hz h) ih) .hot .nil (fun _ _ i1 i2 => .cons i1 i2) r
  refine ⟨⟨k.len, k.nd, fun n b ob h1 h2 => ?_⟩, ⟨[], by simp, by simp⟩, fun b u e _ => fr b u e, fun b o u e => fr b _ e⟩
  have r := k.ob n b ob h1 h2
  exact r.mv (fun _ q => fr _ _ q) go
/-- a new object of the store: what stands at a is o -/
theorem Ext.new (k : Ok g p m H) {a : Addr} {u : HO} {o : O} (h : H a = none) (hr : ∀ H', (∀ b w, H b = some w → H' b = some w) → H' a = some u → (∀ (ds : List D) (vs : List V), RDs g p H ds vs → RDs g (p ++ [a]) H' ds vs) → ROb g (p ++ [a]) H' a o) :
    Ext g p H (p ++ [a]) (m ++ [o]) (upd H a u) := by
  have fr : ∀ b w, H b = some w → upd H a u b = some w := fun b w e => by rw [upd_ne (ne_of_none e h)]; exact e
  have hs : ∀ {b xs}, SqT g.K H b xs → SqT g.K (upd H a u) b xs := fun {b xs} z => by
    rcases z with (z | ⟨w, z⟩) | z
    · exact .inl (.inl (fr _ _ z))
    · exact .inl (.inr ⟨w, fr _ _ z⟩)
    · exact .inr z
  have hz : ∀ {b xs}, Fz g.K H b xs → Fz g.K (upd H a u) b xs := fun {b xs} z => by
    rcases z with ⟨w, z⟩ | z
    · exact .inl ⟨w, fr _ _ z⟩
    · exact .inr z
  have ix : ∀ {n b}, p[n]? = some b → (p ++ [a])[n]? = some b := fun {n b} e => by rw [List.getElem?_append_left (List.getElem?_eq_some_iff.mp e).1]; exact e
  have go : ∀ (ds : List D) (vs : List V), RDs g p H ds vs → RDs g (p ++ [a]) (upd H a u) ds vs := by
    intro ds vs r
    exact RDs.rec (g := g) (p := p) (H := H) (motive_1 := fun d v _ => RD g (p ++ [a]) (upd H a u) d v) (motive_2 := fun d v _ => RDs g (p ++ [a]) (upd H a u) d v) .non .bl .int .str (fun h _ ih => .tup (hs h) ih) (fun h => .ref (ix h)) (fun h => .fn h) (fun h _ ih => .fro (hz h) ih) .hot .nil (fun _ _ i1 i2 => .cons i1 i2) r
  have hn : a ∉ p := fun z => k.there z h
  refine ⟨⟨by simp [k.len], ?_, fun n b ob h1 h2 => ?_⟩, ⟨[a], rfl, by simpa using h⟩, fun b w e _ => fr b w e, fun b o u e => fr b _ e⟩
  · rw [List.nodup_append]
    exact ⟨k.nd, by simp, fun x hx y hy => by simp at hy; subst hy; intro e; subst e; exact hn hx⟩
  · by_cases hl : n < p.length
    · rw [List.getElem?_append_left hl] at h1
      rw [List.getElem?_append_left (by rw [← k.len]; exact hl)] at h2
      have r := k.ob n b ob h1 h2
      exact r.mv (fun _ q => fr _ _ q) go
    · have hz : n = p.length := by
        have := (List.getElem?_eq_some_iff.mp h1).1
        simp at this
        omega
      subst hz
      rw [List.getElem?_append_right (Nat.le_refl _)] at h1
      simp at h1
      subst h1
      rw [List.getElem?_append_right (by rw [k.len]; exact Nat.le_refl _)] at h2
      simp [k.len] at h2
      subst h2
      exact hr _ fr upd_same go
/-- an object of the store is changed -/
theorem Ext.put (k : Ok g p m H) {n : Nat} {a : Addr} {u u0 : HO} {o : O} (hp : p[n]? = some a) (h0 : H a = some u0) (hu : ∀ xs, u0 ≠ .tup xs) (hu2 : ∀ ob w, u0 ≠ .frz ob w)
    (hr : ∀ H', H' a = some u → (∀ (ds : List D) (vs : List V), RDs g p H ds vs → RDs g p H' ds vs) → ROb g p H' a o) : Ext g p H p (m.set n o) (upd H a u) := by
  have hs : ∀ {b xs}, SqT g.K H b xs → SqT g.K (upd H a u) b xs := fun {b xs} z => by
    rcases z with (z | ⟨w, z⟩) | z
    · exact .inl (.inl (by rw [upd_ne]; exact z; intro e; subst e; rw [h0] at z; exact hu _ (Option.some.inj z)))
    · exact .inl (.inr ⟨w, by rw [upd_ne]; exact z; intro e; subst e; rw [h0] at z; exact hu2 _ _ (Option.some.inj z)⟩)
    · exact .inr z
  have hz : ∀ {b xs}, Fz g.K H b xs → Fz g.K (upd H a u) b xs := fun {b xs} z => by
    rcases z with ⟨w, z⟩ | z
    · exact .inl ⟨w, by rw [upd_ne]; exact z; intro e; subst e; rw [h0] at z; exact hu2 _ _ (Option.some.inj z)⟩
    · exact .inr z
  have go : ∀ (ds : List D) (vs : List V), RDs g p H ds vs → RDs g p (upd H a u) ds vs := by
    intro ds vs r
    exact RDs.rec (g := g) (p := p) (H := H) (motive_1 := fun d v _ => RD g p (upd H a u) d v) (motive_2 := fun d v _ => RDs g p (upd H a u) d v) .non .bl .int .str (fun h _ ih => .tup (hs h) ih) (fun h => .ref h) (fun h => .fn h) (fun h _ ih => .fro (hz h) ih) .hot .nil (fun _ _ i1 i2 => .cons i1 i2) r
  refine ⟨⟨by simp [k.len], k.nd, fun n' b ob h1 h2 => ?_⟩, ⟨[], by simp, by simp⟩, fun b w e hb => ?_, fun b o' u' e => by rw [upd_ne]; exact e; intro z; subst z; rw [h0] at e; exact hu2 _ _ (Option.some.inj e)⟩
  · by_cases hn : n = n'
    · subst hn
      rw [hp] at h1
      cases h1
      rw [List.getElem?_set_self (by rw [← k.len]; exact (List.getElem?_eq_some_iff.mp hp).1)] at h2
      cases h2
      exact hr _ upd_same go
    · rw [List.getElem?_set_ne hn] at h2
      have nb : b ≠ a := fun e => by
        subst e
        exact hn (nd_ix k.nd hp h1)
      have r := k.ob n' b ob h1 h2
      exact r.mv (fun _ q => by rw [upd_ne nb]; exact q) go
  · rw [upd_ne]
    · exact e
    · intro z
      subst z
      exact hb (List.mem_of_getElem? hp)
end
end Mi
namespace Mi
open PySem PySem.Spec PyProof.Rows L2

/-! ### readings that follow a function over data -/
abbrev gx (X : Cx) : Gx := ⟨X.K, X.mg⟩
def GoV (g : Gx) (p : List Addr) (H : Hp) (r : R D) (Q : VK) (E : XK) : Prop := match r with
  | .ok d m' => ∀ p' H' v, Ext g p H p' m' H' → RD g p' H' d v → Q v H'
  | .exc c m' => ∀ p' H' C, Ext g p H p' m' H' → g.mg c = some (.ref C) → E (.ref C) none H'
  | .bad => False
def GoB (g : Gx) (p : List Addr) (H : Hp) (r : R Bool) (Q : Bool → Hp → Prop) (E : XK) : Prop := match r with
  | .ok d m' => ∀ p' H', Ext g p H p' m' H' → Q d H'
  | .exc c m' => ∀ p' H' C, Ext g p H p' m' H' → g.mg c = some (.ref C) → E (.ref C) none H'
  | .bad => False
def GoL (g : Gx) (p : List Addr) (H : Hp) (r : R (List D)) (Q : List V → Hp → Prop) (E : XK) : Prop := match r with
  | .ok d m' => ∀ p' H' v, Ext g p H p' m' H' → RDs g p' H' d v → Q v H'
  | .exc c m' => ∀ p' H' C, Ext g p H p' m' H' → g.mg c = some (.ref C) → E (.ref C) none H'
  | .bad => False
def GoS (g : Gx) (p : List Addr) (H : Hp) (r : RS) (D : Ends) (W : WX) : Prop := match r with
  | .nx e m' => ∀ p' H' σ', Ext g p H p' m' H' → RDo g p' H' e σ' → D.nx σ' H'
  | .rt d m' => ∀ p' H' v, Ext g p H p' m' H' → RD g p' H' d v → D.rt v H'
  | .bk e m' => ∀ p' H' σ', Ext g p H p' m' H' → RDo g p' H' e σ' → D.bk σ' H'
  | .ct e m' => ∀ p' H' σ', Ext g p H p' m' H' → RDo g p' H' e σ' → D.ct σ' H'
  | .exc c e m' => ∀ p' H' σ' C, Ext g p H p' m' H' → RDo g p' H' e σ' → g.mg c = some (.ref C) → W (.ref C) none σ' H'
  | .bad => False
def rdE (g : Gx) (W : WX) (f : ME) : TE := fun σ H Q => ∃ e p m, Ok g p m H ∧ RDo g p H e σ ∧ GoV g p H (f e m) Q (WE W σ)
def rdT (g : Gx) (W : WX) (f : MT) : TT := fun σ H Q => ∃ e p m, Ok g p m H ∧ RDo g p H e σ ∧ GoB g p H (f e m) Q (WE W σ)
def rdA (g : Gx) (W : WX) (f : MA) : TA := fun σ H Q => ∃ e p m, Ok g p m H ∧ RDo g p H e σ ∧ GoL g p H (f e m) Q (WE W σ)
def rdS (g : Gx) (W : WX) (f : MS) : TS := fun D σ H => ∃ e p m, Ok g p m H ∧ RDo g p H e σ ∧ GoS g p H (f e m) D W
def SE (X : Cx) (W : WX) (x : Expr) (f : ME) : Prop := PE X x (rdE (gx X) W f)
def ST (X : Cx) (W : WX) (x : Expr) (f : MT) : Prop := PT X x (rdT (gx X) W f)
def SA (X : Cx) (W : WX) (x : List Expr) (f : MA) : Prop := PA X x (rdA (gx X) W f)
def SS (X : Cx) (W : WX) (x : Stmt) (f : MS) : Prop := PS X x (rdS (gx X) W f)
def SB (X : Cx) (W : WX) (x : List Stmt) (f : MS) : Prop := PSs X x (rdS (gx X) W f)

theorem pe_imp {X : Cx} {x : Expr} {t t' : TE} (h : PE X x t) (k : ∀ σ H Q, t' σ H Q → t σ H Q) : PE X x t' := ⟨fun pins s σ H Q I q => h.run pins s σ H Q I (k σ H Q q)⟩
theorem pt_imp {X : Cx} {x : Expr} {t t' : TT} (h : PT X x t) (k : ∀ σ H Q, t' σ H Q → t σ H Q) : PT X x t' := ⟨fun pins s σ H Q I q => h.run pins s σ H Q I (k σ H Q q)⟩
theorem pa_imp {X : Cx} {x : List Expr} {t t' : TA} (h : PA X x t) (k : ∀ σ H Q, t' σ H Q → t σ H Q) : PA X x t' := ⟨fun pos pins s σ H Q I q => h.run pos pins s σ H Q I (k σ H Q q)⟩
theorem ps_imp {X : Cx} {x : Stmt} {t t' : TS} (h : PS X x t) (k : ∀ D σ H, t' D σ H → t D σ H) : PS X x t' := ⟨fun pins s σ H Q I q => h.run pins s σ H Q I (k _ _ _ q)⟩
theorem pss_imp {X : Cx} {x : List Stmt} {t t' : TS} (h : PSs X x t) (k : ∀ D σ H, t' D σ H → t D σ H) : PSs X x t' := ⟨fun pins s σ H Q I q => h.run pins s σ H Q I (k _ _ _ q)⟩

section
variable {g : Gx} {p p1 : List Addr} {m m1 : Mem} {H H1 : Hp} {Q : VK} {E : XK}
/-- going on behind a first part -/
theorem GoV.step (k : Ok g p m H) (a : Ext g p H p1 m1 H1) {r : R D} (h : GoV g p H r Q E) : GoV g p1 H1 r Q E := by
  cases r with
  | ok d m' => exact fun p' H' v b r => h p' H' v (a.trans k b) r
  | exc c m' => exact fun p' H' C b r => h p' H' C (a.trans k b) r
  | bad => exact h
theorem GoB.step {Q : Bool → Hp → Prop} (k : Ok g p m H) (a : Ext g p H p1 m1 H1) {r : R Bool} (h : GoB g p H r Q E) : GoB g p1 H1 r Q E := by
  cases r with
  | ok d m' => exact fun p' H' b => h p' H' (a.trans k b)
  | exc c m' => exact fun p' H' C b r => h p' H' C (a.trans k b) r
  | bad => exact h
theorem GoL.step {Q : List V → Hp → Prop} (k : Ok g p m H) (a : Ext g p H p1 m1 H1) {r : R (List D)} (h : GoL g p H r Q E) : GoL g p1 H1 r Q E := by
  cases r with
  | ok d m' => exact fun p' H' v b r => h p' H' v (a.trans k b) r
  | exc c m' => exact fun p' H' C b r => h p' H' C (a.trans k b) r
  | bad => exact h
theorem GoS.step {D : Ends} {W : WX} (k : Ok g p m H) (a : Ext g p H p1 m1 H1) {r : RS} (h : GoS g p H r D W) : GoS g p1 H1 r D W := by
  cases r with
  | nx d m' => exact fun p' H' v b r => h p' H' v (a.trans k b) r
  | rt d m' => exact fun p' H' v b r => h p' H' v (a.trans k b) r
  | bk d m' => exact fun p' H' v b r => h p' H' v (a.trans k b) r
  | ct d m' => exact fun p' H' v b r => h p' H' v (a.trans k b) r
  | exc c e m' => exact fun p' H' σ C b r => h p' H' σ C (a.trans k b) r
  | bad => exact h
end

/-! ### what is written: names, constants, operators -/
def mVar (i : Nat) : ME := fun e m => match e[i]? with
  | some (some d) => .ok d m
  | _ => .bad
def mC (d : D) : ME := fun _ m => .ok d m
section
variable {X : Cx} {W : WX} {pos : Pos}
theorem so_var {i : Nat} {x : Str} (h : PE X (.Name x pos) (tVar i)) : SE X W (.Name x pos) (mVar i) := pe_imp h fun σ H Q ⟨e, p, m, k, r, q⟩ => by
  unfold mVar at q
  split at q
  · rename_i d hd
    obtain ⟨v, h1, h2⟩ := r.at_ i d hd
    exact ⟨v, h1, q p H v (Ext.refl k) h2⟩
  · exact q.elim
theorem so_c {x : Expr} {v : V} {d : D} (h : PE X x (tC v)) (r : ∀ p H, RD (gx X) p H d v) : SE X W x (mC d) := pe_imp h fun σ H Q ⟨e, p, m, k, _, q⟩ => q p H v (Ext.refl k) (r p H)
theorem so_int {i : Int} {j : Nat} : SE X W (.Constant (.int i) j pos) (mC (.int i)) := so_c pe_int fun _ _ => .int i
theorem so_bl {b : Bool} {j : Nat} : SE X W (.Constant (.bool b) j pos) (mC (.bl b)) := so_c pe_bl fun _ _ => .bl b
theorem so_non {j : Nat} : SE X W (.Constant .none j pos) (mC .non) := so_c pe_non fun _ _ => .non
theorem so_str {x : Str} {j : Nat} : SE X W (.Constant (.str x) j pos) (mC (.str x)) := so_c pe_str fun _ _ => .str x
/-- a module's int -/
theorem so_glob {x : Str} {i : Int} {t : Tok} (hg : Gl X x) (hm : X.mg x = some (.int i t)) (hd : (x == ("__debug__" : Str)) = false := by decide) : SE X W (.Name x pos) (mC (.int i)) := so_c (pe_glob (v := .int i) hg hm ⟨t, rfl⟩ hd) fun _ _ => .int i
/-- a def as a value -/
theorem so_fn {x : Str} {f : Addr} (hg : Gl X x) (hm : X.mg x = some (.ref f)) (hd : (x == ("__debug__" : Str)) = false := by decide) : SE X W (.Name x pos) (mC (.fn x)) := so_c (pe_glob (v := .ref f) hg hm rfl hd) fun _ _ => .fn hm

/-- an operation on values that follows a function on data -/
def rd2 (g : Gx) (f : D → D → M D) : R2 := fun x y H Q => ∃ p m d e, Ok g p m H ∧ RD g p H d x ∧ RD g p H e y ∧ GoV g p H (f d e m) Q (fun _ _ _ => False)
def rd1 (g : Gx) (f : D → M D) : V → Hp → VK → Prop := fun x H Q => ∃ p m d, Ok g p m H ∧ RD g p H d x ∧ GoV g p H (f d m) Q (fun _ _ _ => False)
def rdC (g : Gx) (f : List D → M D) : List V → Hp → VK → Prop := fun x H Q => ∃ p m d, Ok g p m H ∧ RDs g p H d x ∧ GoV g p H (f d m) Q (fun _ _ _ => False)
def rdM (g : Gx) (f : D → List D → M D) : V → List V → Hp → VK → Prop := fun x y H Q => ∃ p m d e, Ok g p m H ∧ RD g p H d x ∧ RDs g p H e y ∧ GoV g p H (f d e m) Q (fun _ _ _ => False)
/-- what an operation raises is not looked at: it counts as none -/
def R.calm {α : Type} : R α → R α
  | .ok a m => .ok a m
  | _ => .bad
def mOp (f : D → D → M D) (a b : ME) : ME := fun e m => (a e m).bind fun x m1 => (b e m1).bind fun y m2 => (f x y m2).calm
def mUn (f : D → M D) (a : ME) : ME := fun e m => (a e m).bind fun x m1 => (f x m1).calm
theorem GoV.calm {g : Gx} {p : List Addr} {H : Hp} {r : R D} {Q : VK} {E E' : XK} (h : GoV g p H r.calm Q E) : GoV g p H r Q E' := by
  cases r with
  | ok d m => exact h
  | exc c m => exact False.elim h
  | bad => exact h
theorem so_two {x xa xb : Expr} {a b : ME} {f : D → D → M D} (h : PE X x (tOp (rd2 (gx X) f) (rdE (gx X) W a) (rdE (gx X) W b))) : SE X W x (mOp f a b) := pe_imp h fun σ H Q ⟨e, p, m, k, r, q⟩ => by
  refine ⟨e, p, m, k, r, ?_⟩
  unfold mOp at q
  cases h1 : a e m with
  | bad => rw [h1] at q; exact q
  | exc c m1 => rw [h1] at q; exact q
  | ok d m1 =>
    rw [h1] at q
    intro p1 H1 v e1 r1
    have q1 := GoV.step k e1 q
    refine ⟨e, p1, m1, e1.ok, r.ext k e1, ?_⟩
    change GoV _ _ _ ((b e m1).bind _) _ _ at q1
    cases h2 : b e m1 with
    | bad => rw [h2] at q1; exact q1
    | exc c m2 => rw [h2] at q1; exact q1
    | ok d2 m2 =>
      rw [h2] at q1
      intro p2 H2 v2 e2 r2
      have q2 := GoV.step e1.ok e2 q1
      exact ⟨p2, m2, d, d2, e2.ok, r1.ext e1.ok e2, r2, GoV.calm q2⟩
theorem so_op {op : Operator} {xa xb : Expr} {a b : ME} {f : D → D → M D} (ho : OpR X (binaryOp op) (rd2 (gx X) f)) (ha : SE X W xa a) (hb : SE X W xb b) : SE X W (.BinOp xa op xb pos) (mOp f a b) := so_two (xa := xa) (xb := xb) (pe_op ho ha hb)
theorem so_cmp {op : CmpOp} {xa xb : Expr} {a b : ME} {f : D → D → M D} (ho : OpR X (compareOp op) (rd2 (gx X) f)) (ha : SE X W xa a) (hb : SE X W xb b) (hm : behindInMarks op xb = false) : SE X W (.Compare xa [op] [xb] pos) (mOp f a b) := so_two (xa := xa) (xb := xb) (pe_cmpR ho ha hb hm)
theorem so_ix {xa xb : Expr} {a b : ME} {f : D → D → M D} (ho : IxR X (rd2 (gx X) f)) (ha : SE X W xa a) (hb : SE X W xb b) (hs : PlainIx xb) : SE X W (.Subscript xa xb pos) (mOp f a b) := so_two (xa := xa) (xb := xb) (pe_ix ho ha hb hs)
theorem so_un {op : UnaryOp} {xa : Expr} {a : ME} {f : D → M D} (ho : UnR X (unaryOp op) (rd1 (gx X) f)) (ha : SE X W xa a) : SE X W (.UnaryOp op xa pos) (mUn f a) := pe_imp (pe_un ho ha) fun σ H Q ⟨e, p, m, k, r, q⟩ => by
  refine ⟨e, p, m, k, r, ?_⟩
  unfold mUn at q
  cases h1 : a e m with
  | bad => rw [h1] at q; exact q
  | exc c m1 => rw [h1] at q; exact q
  | ok d m1 =>
    rw [h1] at q
    intro p1 H1 v e1 r1
    have q1 := GoV.step k e1 q
    exact ⟨p1, m1, d, e1.ok, r1, GoV.calm q1⟩

/-! ### argument lists, displays, calls -/
def mNil : MA := fun _ m => .ok [] m
def mCons (a : ME) (b : MA) : MA := fun e m => (a e m).bind fun x m1 => (b e m1).bind fun xs m2 => .ok (x :: xs) m2
theorem sa_nil : SA X W [] mNil := pa_imp pa_nil fun σ H Q ⟨e, p, m, k, r, q⟩ => q p H [] (Ext.refl k) .nil
theorem sa_cons {x : Expr} {xs : List Expr} {a : ME} {b : MA} (ha : SE X W x a) (hb : SA X W xs b) (hs : starEach (x :: xs) X.env = (false, eval x X.env) :: starEach xs X.env := by rfl) : SA X W (x :: xs) (mCons a b) := pa_imp (pa_cons ha hb hs) fun σ H Q ⟨e, p, m, k, r, q⟩ => by
  refine ⟨e, p, m, k, r, ?_⟩
  unfold mCons at q
  cases h1 : a e m with
  | bad => rw [h1] at q; exact q
  | exc c m1 => rw [h1] at q; exact q
  | ok d m1 =>
    rw [h1] at q
    intro p1 H1 v e1 r1
    have q1 := GoL.step k e1 q
    refine ⟨e, p1, m1, e1.ok, r.ext k e1, ?_⟩
    change GoL _ _ _ ((b e m1).bind _) _ _ at q1
    cases h2 : b e m1 with
    | bad => rw [h2] at q1; exact q1
    | exc c m2 => rw [h2] at q1; exact q1
    | ok d2 m2 =>
      rw [h2] at q1
      intro p2 H2 v2 e2 r2
      exact q1 p2 H2 _ e2 (.cons (r1.ext e1.ok e2) r2)
def mTup (a : MA) : ME := fun e m => (a e m).bind fun xs m1 => if xs.length ≤ 1000000 then .ok (.tup xs) m1 else .bad
def mLst (a : MA) : ME := fun e m => (a e m).bind fun xs m1 => if xs.length ≤ 1000000 then .ok (.ref m1.length) (m1 ++ [.lst xs]) else .bad
theorem szle {n : Nat} (h : n ≤ 1000000) : n ≤ sizeLine := Nat.le_trans h (by decide)
theorem szlt {n : Nat} (h : n < 1000000) : n < sizeLine := Nat.lt_of_lt_of_le h (by decide)
theorem new_lst {g : Gx} {p : List Addr} {m : Mem} {H : Hp} {xs : List D} {vs : List V} {a : Addr} (k : Ok g p m H) (r : RDs g p H xs vs) (h : H a = none) : Ext g p H (p ++ [a]) (m ++ [.lst xs]) (upd H a (.lst vs)) ∧ RD g (p ++ [a]) (upd H a (.lst vs)) (.ref m.length) (.ref a) := by
  refine ⟨Ext.new k h fun H' fr e go => ⟨vs, e, go _ _ r⟩, .ref ?_⟩
  rw [← k.len, List.getElem?_append_right (Nat.le_refl _)]
  simp
theorem so_tup {xs : List Expr} {a : MA} {x1} (h : SA X W xs a) : SE X W (.Tuple xs x1 pos) (mTup a) := pe_imp (pe_tup h) fun σ H Q ⟨e, p, m, k, r, q⟩ => by
  refine ⟨e, p, m, k, r, ?_⟩
  unfold mTup at q
  cases h1 : a e m with
  | bad => rw [h1] at q; exact q
  | exc c m1 => rw [h1] at q; exact q
  | ok d m1 =>
    rw [h1] at q
    intro p1 H1 v e1 r1
    have q1 := GoV.step k e1 q
    change GoV _ _ _ (if d.length ≤ 1000000 then _ else _) _ _ at q1
    split at q1
    · rename_i hl
      refine ⟨szle (by rw [← r1.length]; exact hl), fun a ha => ?_⟩
      have x1 := Ext.fresh (o := .tup v) e1.ok ha
      exact q1 p1 _ _ x1 (.tup (.inl (.inl upd_same)) (r1.ext e1.ok x1))
    · exact q1.elim
theorem so_lst {xs : List Expr} {a : MA} (h : SA X W xs a) : SE X W (.List xs pos) (mLst a) := pe_imp (pe_lst h) fun σ H Q ⟨e, p, m, k, r, q⟩ => by
  refine ⟨e, p, m, k, r, ?_⟩
  unfold mLst at q
  cases h1 : a e m with
  | bad => rw [h1] at q; exact q
  | exc c m1 => rw [h1] at q; exact q
  | ok d m1 =>
    rw [h1] at q
    intro p1 H1 v e1 r1
    have q1 := GoV.step k e1 q
    change GoV _ _ _ (if d.length ≤ 1000000 then _ else _) _ _ at q1
    split at q1
    · rename_i hl
      refine ⟨szle (by rw [← r1.length]; exact hl), fun a ha => ?_⟩
      have x1 := new_lst e1.ok r1 ha
      exact q1 _ _ _ x1.1 x1.2
    · exact q1.elim
/-- a built-in called by its name -/
def mCB (f : List D → M D) (a : MA) : ME := fun e m => (a e m).bind fun xs m1 => (f xs m1).calm
theorem so_args {x : Expr} {f : List D → M D} {a : MA} (h : PE X x (tCB (rdC (gx X) f) (rdA (gx X) W a))) : SE X W x (mCB f a) := pe_imp h fun σ H Q ⟨e, p, m, k, r, q⟩ => by
  refine ⟨e, p, m, k, r, ?_⟩
  unfold mCB at q
  cases h1 : a e m with
  | bad => rw [h1] at q; exact q
  | exc c m1 => rw [h1] at q; exact q
  | ok d m1 =>
    rw [h1] at q
    intro p1 H1 v e1 r1
    exact ⟨p1, m1, d, e1.ok, r1, GoV.calm (GoV.step k e1 q)⟩
/-- a def's promise by a function on data -/
def spM (g : Gx) (n : Nat) (f : List D → M D) : Sp := fun vs H Q E => ∃ p m ds, vs.length = n ∧ Ok g p m H ∧ RDs g p H ds vs ∧ GoV g p H (f ds m) Q E
def mCall (n : Nat) (f : List D → M D) (a : MA) : ME := fun e m => (a e m).bind fun xs m1 => if xs.length = n then f xs m1 else .bad
theorem so_call {f : Addr} {fd : FuncData} {ps : List Str} {k : Nat} {x : Str} {pf : Pos} {xa : Expr} {xs : List Expr} {n : Nat} {fn : List D → M D} {a : MA} (F : FnOk X.prog X.w X.K X.mg X.base (L2.CX X.prog X.w) k f fd ps (spM (gx X) n fn)) (tk : Takes X W) (hr : Room k X.A) (hg : Gl X x) (hm : X.mg x = some (.ref f)) (hk : PySem.W.keepIn X.K (.ref f) = true) (hb : Binds X.K fd ps [])
    (ha : SA X W (xa :: xs) a) (hdb : (x == ("__debug__" : Str)) = false := by decide) (he : starEach (xa :: xs) X.env = (false, eval xa X.env) :: starEach xs X.env := by rfl) (hpl : (backTo pos (starEach xs X.env)).any (·.1) = false := by rfl) :
    SE X W (.Call (.Name x pf) (xa :: xs) [] pos) (mCall n fn a) := pe_imp (pe_callS F hr hg hm hk hb (fun σ => passAt tk σ) ha hdb he hpl) fun σ H Q ⟨e, p, m, k, r, q⟩ => by
  refine ⟨e, p, m, k, r, ?_⟩
  unfold mCall at q
  cases h1 : a e m with
  | bad => rw [h1] at q; exact q
  | exc c m1 => rw [h1] at q; exact q
  | ok d m1 =>
    rw [h1] at q
    intro p1 H1 v e1 r1
    have q1 := GoV.step k e1 q
    change GoV _ _ _ (if d.length = n then _ else _) _ _ at q1
    split at q1
    · rename_i hl
      exact ⟨p1, m1, d, by rw [← r1.length]; exact hl, e1.ok, r1, q1⟩
    · exact q1.elim

/-! ### tests -/
def dTruth (d : D) (m : Mem) : R Bool := match d with
  | .non => .ok false m
  | .bl b => .ok b m
  | .int i => .ok (i != 0) m
  | .str x => if x.length ≤ 1000000 then .ok ((x.length : Int) != 0) m else .bad
  | .tup ds => .ok (!ds.isEmpty) m
  | .ref n => match m[n]? with
    | some (.lst xs) => .ok (!xs.isEmpty) m
    | some (.dic xs) => .ok (!xs.isEmpty) m
    | _ => .bad
  | .fn _ => .bad
  | .fro ds => .ok (!ds.isEmpty) m
  | .hot _ => .bad
def mTru (a : ME) : MT := fun e m => (a e m).bind fun x m1 => dTruth x m1
theorem RDs.emp {g : Gx} {p : List Addr} {H : Hp} {ds : List D} {vs : List V} (r : RDs g p H ds vs) : vs.isEmpty = ds.isEmpty := by cases r <;> rfl
theorem emp_of_len {α β : Type} {xs : List α} {ys : List β} (h : xs.length = ys.length) : xs.isEmpty = ys.isEmpty := by
  cases xs <;> cases ys <;> simp_all
theorem tru_of {g : Gx} {p : List Addr} {m : Mem} {H : Hp} {d : D} {v : V} {r : R Bool} (k : Ok g p m H) (rd : RD g p H d v) (h : dTruth d m = r) : r = .bad ∨ ∃ b, r = .ok b m ∧ TruV g.K v H b := by
  subst h
  cases rd with
  | non => exact .inr ⟨_, rfl, rfl⟩
  | bl c => exact .inr ⟨_, rfl, rfl⟩
  | int i => exact .inr ⟨_, rfl, rfl⟩
  | str x =>
    simp only [dTruth]
    split
    · rename_i hl
      exact .inr ⟨_, rfl, szle hl, rfl⟩
    · exact .inl rfl
  | tup h1 r1 => exact .inr ⟨_, rfl, .inr (.inl ⟨_, h1, by rw [r1.emp]⟩)⟩
  | fn h1 => exact .inl rfl
  | fro h1 r1 => exact .inr ⟨_, rfl, .inl ⟨_, h1.sq, by rw [r1.emp]⟩⟩
  | hot _ => exact .inl rfl
  | @ref n a h1 =>
    simp only [dTruth]
    cases q : m[n]? with
    | none => exact .inl rfl
    | some o =>
      obtain ⟨a', h2, ro⟩ := k.get q
      rw [h1] at h2
      cases h2
      cases o with
      | lst xs =>
        obtain ⟨vs, hv, rv⟩ := ro
        exact .inr ⟨_, rfl, .inl ⟨vs, .inl (.inl hv), by rw [rv.emp]⟩⟩
      | dic xs =>
        obtain ⟨vs, hv, e1, rv⟩ := ro
        refine .inr ⟨_, rfl, .inr (.inr ⟨vs, hv, ?_⟩)⟩
        have e := rv.length
        rw [List.length_map, List.length_map] at e
        rw [emp_of_len e]
      | fdic xs => exact .inl rfl
      | ins _ _ => exact .inl rfl
      | dT _ => exact .inl rfl
theorem st_tru {x : Expr} {a : ME} (h : SE X W x a) (he : ∀ whole, isTrue x X.env whole = (do let v ← whole; standAt x.pos; holding [v] (truthy v)) := by intro _; rfl) : ST X W x (mTru a) := pt_imp (pt_truth h he) fun σ H Q ⟨e, p, m, k, r, q⟩ => by
  refine ⟨e, p, m, k, r, ?_⟩
  unfold mTru at q
  cases h1 : a e m with
  | bad => rw [h1] at q; exact q
  | exc c m1 => rw [h1] at q; exact q
  | ok d m1 =>
    rw [h1] at q
    intro p1 H1 v e1 r1
    have q1 := GoB.step k e1 q
    change GoB _ _ _ (dTruth d m1) _ _ at q1
    rcases tru_of e1.ok r1 rfl with z | ⟨b, z, t⟩
    · rw [z] at q1
      exact q1.elim
    · rw [z] at q1
      exact ⟨b, t, q1 p1 H1 (Ext.refl e1.ok)⟩
/-- an expression that gives a truth, as a test -/
def dB (d : D) (m : Mem) : R Bool := match d with
  | .bl b => .ok b m
  | _ => .bad
def mB (a : ME) : MT := fun e m => (a e m).bind fun x m1 => dB x m1
theorem st_of {x : Expr} {a : ME} {t : TE} (h : PT X x (tTest t)) (hm : ∀ σ H Q, rdE (gx X) W a σ H Q → t σ H Q) : ST X W x (mB a) := pt_imp h fun σ H Q ⟨e, p, m, k, r, q⟩ => by
  refine hm _ _ _ ⟨e, p, m, k, r, ?_⟩
  unfold mB at q
  cases h1 : a e m with
  | bad => rw [h1] at q; exact q
  | exc c m1 => rw [h1] at q; exact q
  | ok d m1 =>
    rw [h1] at q
    intro p1 H1 v e1 r1
    have q1 := GoB.step k e1 q
    change GoB _ _ _ (dB d m1) _ _ at q1
    cases r1 with
    | bl b => exact ⟨b, rfl, q1 p1 H1 (Ext.refl e1.ok)⟩
    | non => exact q1.elim
    | int i => exact q1.elim
    | str i => exact q1.elim
    | tup i => exact q1.elim
    | ref i => exact q1.elim
    | fn i => exact q1.elim
    | fro _ _ => exact q1.elim
    | hot _ => exact q1.elim
theorem two_in {a b : ME} {f : D → D → M D} {σ : L2.St} {H : Hp} {Q : VK} (h : rdE (gx X) W (mOp f a b) σ H Q) : tOp (rd2 (gx X) f) (rdE (gx X) W a) (rdE (gx X) W b) σ H Q := by
  obtain ⟨e, p, m, k, r, q⟩ := h
  refine ⟨e, p, m, k, r, ?_⟩
  unfold mOp at q
  cases h1 : a e m with
  | bad => rw [h1] at q; exact q
  | exc c m1 => rw [h1] at q; exact q
  | ok d m1 =>
    rw [h1] at q
    intro p1 H1 v e1 r1
    have q1 := GoV.step k e1 q
    refine ⟨e, p1, m1, e1.ok, r.ext k e1, ?_⟩
    change GoV _ _ _ ((b e m1).bind _) _ _ at q1
    cases h2 : b e m1 with
    | bad => rw [h2] at q1; exact q1
    | exc c m2 => rw [h2] at q1; exact q1
    | ok d2 m2 =>
      rw [h2] at q1
      intro p2 H2 v2 e2 r2
      have q2 := GoV.step e1.ok e2 q1
      exact ⟨p2, m2, d, d2, e2.ok, r1.ext e1.ok e2, r2, GoV.calm q2⟩
theorem st_cmp {op : CmpOp} {xa xb : Expr} {a b : ME} {f : D → D → M D} (ho : OpR X (compareOp op) (rd2 (gx X) f)) (ha : SE X W xa a) (hb : SE X W xb b) (hm : behindInMarks op xb = false) : ST X W (.Compare xa [op] [xb] pos) (mB (mOp f a b)) :=
  st_of (pt_cmpR ho ha hb hm) fun _ _ _ => two_in
/-- a < b < c -/
def mChain (f f' : D → D → M D) (a b c : ME) : ME := fun e m => (a e m).bind fun x m1 => (b e m1).bind fun y m2 => (f x y m2).calm.bind fun z m3 => match z with
  | .bl true => (c e m3).bind fun w m4 => (f' y w m4).calm
  | .bl false => .ok (.bl false) m3
  | _ => .bad
theorem chain_in {a b c : ME} {f f' : D → D → M D} {σ : L2.St} {H : Hp} {Q : VK} (h : rdE (gx X) W (mChain f f' a b c) σ H Q) : tChain (rd2 (gx X) f) (rd2 (gx X) f') (rdE (gx X) W a) (rdE (gx X) W b) (rdE (gx X) W c) σ H Q := by
  obtain ⟨e, p, m, k, r, q⟩ := h
  refine ⟨e, p, m, k, r, ?_⟩
  unfold mChain at q
  cases h1 : a e m with
  | bad => rw [h1] at q; exact q
  | exc c m1 => rw [h1] at q; exact q
  | ok d m1 =>
    rw [h1] at q
    intro p1 H1 v e1 r1
    have q1 := GoV.step k e1 q
    refine ⟨e, p1, m1, e1.ok, r.ext k e1, ?_⟩
    change GoV _ _ _ ((b e m1).bind _) _ _ at q1
    cases h2 : b e m1 with
    | bad => rw [h2] at q1; exact q1
    | exc c m2 => rw [h2] at q1; exact q1
    | ok d2 m2 =>
      rw [h2] at q1
      intro p2 H2 v2 e2 r2
      have q2 := GoV.step e1.ok e2 q1
      change GoV _ _ _ ((f d d2 m2).calm.bind _) _ _ at q2
      refine ⟨p2, m2, d, d2, e2.ok, r1.ext e1.ok e2, r2, ?_⟩
      cases h3 : f d d2 m2 with
      | bad => rw [h3] at q2; exact q2
      | exc c m3 => rw [h3] at q2; exact q2.elim
      | ok d3 m3 =>
        rw [h3] at q2
        intro p3 H3 v3 e3 r3
        have q3 := GoV.step e2.ok e3 q2
        cases r3 with
        | bl z =>
          refine ⟨z, rfl, ?_⟩
          cases z with
          | false => exact q3 p3 H3 _ (Ext.refl e3.ok) (.bl false)
          | true =>
            change GoV _ _ _ ((c e m3).bind _) _ _ at q3
            refine ⟨e, p3, m3, e3.ok, (r.ext k e1).ext e1.ok (e2.trans e1.ok e3), ?_⟩
            cases h4 : c e m3 with
            | bad => rw [h4] at q3; exact q3
            | exc c m3 => rw [h4] at q3; exact q3
            | ok d4 m4 =>
              rw [h4] at q3
              intro p4 H4 v4 e4 r4
              have q4 := GoV.step e3.ok e4 q3
              exact ⟨p4, m4, d2, d4, e4.ok, r2.ext e2.ok (e3.trans e2.ok e4), r4, GoV.calm q4⟩
        | non => exact q3.elim
        | int i => exact q3.elim
        | str i => exact q3.elim
        | tup i => exact q3.elim
        | ref i => exact q3.elim
        | fn i => exact q3.elim
        | fro _ _ => exact q3.elim
        | hot _ => exact q3.elim
theorem so_chain {op op' : CmpOp} {xa xb xc : Expr} {a b c : ME} {f f' : D → D → M D} (ho : OpR X (compareOp op) (rd2 (gx X) f)) (ho' : OpR X (compareOp op') (rd2 (gx X) f')) (ha : SE X W xa a) (hb : SE X W xb b) (hc : SE X W xc c) (hm : lastMarks [op, op'] [xb, xc] = false := by rfl) : SE X W (.Compare xa [op, op'] [xb, xc] pos) (mChain f f' a b c) :=
  pe_imp (pe_chain ho ho' ha hb hc hm) fun _ _ _ => chain_in
theorem st_chain {op op' : CmpOp} {xa xb xc : Expr} {a b c : ME} {f f' : D → D → M D} (ho : OpR X (compareOp op) (rd2 (gx X) f)) (ho' : OpR X (compareOp op') (rd2 (gx X) f')) (ha : SE X W xa a) (hb : SE X W xb b) (hc : SE X W xc c) (hm : lastMarks [op, op'] [xb, xc] = false := by rfl) : ST X W (.Compare xa [op, op'] [xb, xc] pos) (mB (mChain f f' a b c)) :=
  st_of (pt_chain ho ho' ha hb hc hm) fun _ _ _ => chain_in

def mAnd (a b : MT) : MT := fun e m => (a e m).bind fun x m1 => if x = true then b e m1 else .ok false m1
def mOr (a b : MT) : MT := fun e m => (a e m).bind fun x m1 => if x = true then .ok true m1 else b e m1
def mNot (a : MT) : MT := fun e m => (a e m).bind fun x m1 => .ok (!x) m1
def SW (X : Cx) (W : WX) (x : Expr) (f : MT) : Prop := PW X x (rdT (gx X) W f)
theorem pw_imp {X : Cx} {x : Expr} {t t' : TT} (h : PW X x t) (k : ∀ σ H Q, t' σ H Q → t σ H Q) : PW X x t' := ⟨fun wh pins s σ H Q I q => h.run wh pins s σ H Q I (k σ H Q q)⟩
theorem SW.st {x : Expr} {f : MT} (h : SW X W x f) : ST X W x f := PW.pt h
theorem sw_and1 {x : Expr} {a : MT} (h : ST X W x a) : SW X W (.BoolOp .And [x] pos) a := pw_and1 h
theorem sw_or1 {x : Expr} {a : MT} (h : ST X W x a) : SW X W (.BoolOp .Or [x] pos) a := pw_or1 h
theorem sw_and {x y : Expr} {ys : List Expr} {a b : MT} (h : ST X W x a) (h2 : SW X W (.BoolOp .And (y :: ys) pos) b) : SW X W (.BoolOp .And (x :: y :: ys) pos) (mAnd a b) := pw_imp (pw_and h h2) fun σ H Q ⟨e, p, m, k, r, q⟩ => by
  refine ⟨e, p, m, k, r, ?_⟩
  unfold mAnd at q
  cases h1 : a e m with
  | bad => rw [h1] at q; exact q
  | exc c m1 => rw [h1] at q; exact q
  | ok d m1 =>
    rw [h1] at q
    intro p1 H1 e1
    have q1 := GoB.step k e1 q
    cases d with
    | true => exact ⟨e, p1, m1, e1.ok, r.ext k e1, q1⟩
    | false => exact q1 p1 H1 (Ext.refl e1.ok)
theorem sw_or {x y : Expr} {ys : List Expr} {a b : MT} (h : ST X W x a) (h2 : SW X W (.BoolOp .Or (y :: ys) pos) b) : SW X W (.BoolOp .Or (x :: y :: ys) pos) (mOr a b) := pw_imp (pw_or h h2) fun σ H Q ⟨e, p, m, k, r, q⟩ => by
  refine ⟨e, p, m, k, r, ?_⟩
  unfold mOr at q
  cases h1 : a e m with
  | bad => rw [h1] at q; exact q
  | exc c m1 => rw [h1] at q; exact q
  | ok d m1 =>
    rw [h1] at q
    intro p1 H1 e1
    have q1 := GoB.step k e1 q
    cases d with
    | false => exact ⟨e, p1, m1, e1.ok, r.ext k e1, q1⟩
    | true => exact q1 p1 H1 (Ext.refl e1.ok)
theorem st_not {x : Expr} {a : MT} (h : ST X W x a) : ST X W (.UnaryOp .Not x pos) (mNot a) := pt_imp (pt_not h) fun σ H Q ⟨e, p, m, k, r, q⟩ => by
  refine ⟨e, p, m, k, r, ?_⟩
  unfold mNot at q
  cases h1 : a e m with
  | bad => rw [h1] at q; exact q
  | exc c m1 => rw [h1] at q; exact q
  | ok d m1 =>
    rw [h1] at q
    intro p1 H1 e1
    exact q p1 H1 e1
/-- and, or, not as values (all but the last truths) -/
def mAndV (a b : ME) : ME := fun e m => (a e m).bind fun x m1 => match x with
  | .bl true => b e m1
  | .bl false => .ok (.bl false) m1
  | _ => .bad
def mOrV (a b : ME) : ME := fun e m => (a e m).bind fun x m1 => match x with
  | .bl true => .ok (.bl true) m1
  | .bl false => b e m1
  | _ => .bad
def mNotV (a : ME) : ME := fun e m => (a e m).bind fun x m1 => match x with
  | .bl b => .ok (.bl (!b)) m1
  | _ => .bad
theorem so_one {op : BoolOp} {x : Expr} {a : ME} (h : SE X W x a) : SE X W (.BoolOp op [x] pos) a := pe_one h
theorem so_and {x y : Expr} {ys : List Expr} {a b : ME} (h : SE X W x a) (h2 : SE X W (.BoolOp .And (y :: ys) pos) b) : SE X W (.BoolOp .And (x :: y :: ys) pos) (mAndV a b) := pe_imp (pe_and h h2) fun σ H Q ⟨e, p, m, k, r, q⟩ => by
  refine ⟨e, p, m, k, r, ?_⟩
  unfold mAndV at q
  cases h1 : a e m with
  | bad => rw [h1] at q; exact q
  | exc c m1 => rw [h1] at q; exact q
  | ok d m1 =>
    rw [h1] at q
    intro p1 H1 v e1 r1
    have q1 := GoV.step k e1 q
    cases r1 with
    | bl z =>
      refine ⟨z, rfl, ?_⟩
      cases z with
      | true => exact ⟨e, p1, m1, e1.ok, r.ext k e1, q1⟩
      | false => exact q1 p1 H1 _ (Ext.refl e1.ok) (.bl false)
    | non => exact q1.elim
    | int i => exact q1.elim
    | str i => exact q1.elim
    | tup i => exact q1.elim
    | ref i => exact q1.elim
    | fn i => exact q1.elim
    | fro _ _ => exact q1.elim
    | hot _ => exact q1.elim
theorem so_or {x y : Expr} {ys : List Expr} {a b : ME} (h : SE X W x a) (h2 : SE X W (.BoolOp .Or (y :: ys) pos) b) : SE X W (.BoolOp .Or (x :: y :: ys) pos) (mOrV a b) := pe_imp (pe_or h h2) fun σ H Q ⟨e, p, m, k, r, q⟩ => by
  refine ⟨e, p, m, k, r, ?_⟩
  unfold mOrV at q
  cases h1 : a e m with
  | bad => rw [h1] at q; exact q
  | exc c m1 => rw [h1] at q; exact q
  | ok d m1 =>
    rw [h1] at q
    intro p1 H1 v e1 r1
    have q1 := GoV.step k e1 q
    cases r1 with
    | bl z =>
      refine ⟨z, rfl, ?_⟩
      cases z with
      | false => exact ⟨e, p1, m1, e1.ok, r.ext k e1, q1⟩
      | true => exact q1 p1 H1 _ (Ext.refl e1.ok) (.bl true)
    | non => exact q1.elim
    | int i => exact q1.elim
    | str i => exact q1.elim
    | tup i => exact q1.elim
    | ref i => exact q1.elim
    | fn i => exact q1.elim
    | fro _ _ => exact q1.elim
    | hot _ => exact q1.elim
theorem so_not {x : Expr} {a : ME} (h : SE X W x a) : SE X W (.UnaryOp .Not x pos) (mNotV a) := pe_imp (pe_not h) fun σ H Q ⟨e, p, m, k, r, q⟩ => by
  refine ⟨e, p, m, k, r, ?_⟩
  unfold mNotV at q
  cases h1 : a e m with
  | bad => rw [h1] at q; exact q
  | exc c m1 => rw [h1] at q; exact q
  | ok d m1 =>
    rw [h1] at q
    intro p1 H1 v e1 r1
    have q1 := GoV.step k e1 q
    cases r1 with
    | bl z => exact ⟨z, rfl, q1 p1 H1 _ (Ext.refl e1.ok) (.bl _)⟩
    | non => exact q1.elim
    | int i => exact q1.elim
    | str i => exact q1.elim
    | tup i => exact q1.elim
    | ref i => exact q1.elim
    | fn i => exact q1.elim
    | fro _ _ => exact q1.elim
    | hot _ => exact q1.elim
def mIfE (t : MT) (a b : ME) : ME := fun e m => (t e m).bind fun x m1 => if x = true then a e m1 else b e m1
theorem so_ifE {xt xa xb : Expr} {t : MT} {a b : ME} (ht : ST X W xt t) (ha : SE X W xa a) (hb : SE X W xb b) : SE X W (.IfExp xt xa xb pos) (mIfE t a b) := pe_imp (pe_ifExp ht ha hb) fun σ H Q ⟨e, p, m, k, r, q⟩ => by
  refine ⟨e, p, m, k, r, ?_⟩
  unfold mIfE at q
  cases h1 : t e m with
  | bad => rw [h1] at q; exact q
  | exc c m1 => rw [h1] at q; exact q
  | ok d m1 =>
    rw [h1] at q
    intro p1 H1 e1
    have q1 := GoV.step k e1 q
    cases d with
    | true => exact ⟨e, p1, m1, e1.ok, r.ext k e1, q1⟩
    | false => exact ⟨e, p1, m1, e1.ok, r.ext k e1, q1⟩
end

/-! ### statements -/
/-- a part of a statement, then the rest -/
def R.go {α : Type} (r : R α) (e : En) (f : α → Mem → RS) : RS := match r with
  | .ok a m => f a m
  | .exc c m => .exc c e m
  | .bad => .bad
theorem GoS.val {g : Gx} {p : List Addr} {m : Mem} {H : Hp} {D' : Ends} {W : WX} {σ : L2.St} {e : En} {r : R D} {f : D → Mem → RS} {Q : VK} (k : Ok g p m H) (ro : RDo g p H e σ) (h : GoS g p H (r.go e f) D' W)
    (hQ : ∀ d m1 p1 H1 v, r = .ok d m1 → Ext g p H p1 m1 H1 → RD g p1 H1 d v → GoS g p1 H1 (f d m1) D' W → Q v H1) : GoV g p H r Q (WE W σ) := by
  cases r with
  | bad => exact h
  | exc c m1 => exact fun p' H' C x y => h p' H' σ C x (ro.ext k x) y
  | ok d m1 => exact fun p1 H1 v x y => hQ d m1 p1 H1 v rfl x y (GoS.step k x h)
theorem GoS.tst {g : Gx} {p : List Addr} {m : Mem} {H : Hp} {D' : Ends} {W : WX} {σ : L2.St} {e : En} {r : R Bool} {f : Bool → Mem → RS} {Q : Bool → Hp → Prop} (k : Ok g p m H) (ro : RDo g p H e σ) (h : GoS g p H (r.go e f) D' W)
    (hQ : ∀ d m1 p1 H1, r = .ok d m1 → Ext g p H p1 m1 H1 → GoS g p1 H1 (f d m1) D' W → Q d H1) : GoB g p H r Q (WE W σ) := by
  cases r with
  | bad => exact h
  | exc c m1 => exact fun p' H' C x y => h p' H' σ C x (ro.ext k x) y
  | ok d m1 => exact fun p1 H1 x => hQ d m1 p1 H1 rfl x (GoS.step k x h)
def sNext : MS := fun e m => .nx e m
def sSeq (a b : MS) : MS := fun e m => match a e m with
  | .nx e' m' => b e' m'
  | r => r
def sDrop (a : ME) : MS := fun e m => (a e m).go e fun _ m1 => .nx e m1
def sRet (a : ME) : MS := fun e m => (a e m).go e fun d m1 => .rt d m1
def sRetN : MS := fun _ m => .rt .non m
def sBreak : MS := fun e m => .bk e m
def sCont : MS := fun e m => .ct e m
def sIf (t : MT) (a b : MS) : MS := fun e m => (t e m).go e fun c m1 => if c = true then a e m1 else b e m1
section
variable {X : Cx} {W : WX} {pos : Pos}
theorem sb_nil : SB X W [] sNext := pss_imp pss_nil fun D σ H ⟨e, p, m, k, r, q⟩ => q p H σ (Ext.refl k) r
theorem sb_cons {x : Stmt} {xs : List Stmt} {a b : MS} (h : SS X W x a) (h2 : SB X W xs b) : SB X W (x :: xs) (sSeq a b) := pss_imp (pss_cons h h2) fun D σ H ⟨e, p, m, k, r, q⟩ => by
  refine ⟨e, p, m, k, r, ?_⟩
  unfold sSeq at q
  cases h1 : a e m with
  | nx e1 m1 =>
    rw [h1] at q
    intro p1 H1 σ1 x1 r1
    exact ⟨e1, p1, m1, x1.ok, r1, GoS.step k x1 q⟩
  | rt d m1 => rw [h1] at q; exact q
  | bk d m1 => rw [h1] at q; exact q
  | ct d m1 => rw [h1] at q; exact q
  | exc c e m1 => rw [h1] at q; exact q
  | bad => rw [h1] at q; exact q
theorem sb_one {x : Stmt} {a : MS} (h : SS X W x a) : SB X W [x] a := pss_one h
theorem ss_drop {x : Expr} {a : ME} (h : SE X W x a) (hs : swapsWith x none pos.line X.env = pure false := by rfl) : SS X W (.Expr x pos) (sDrop a) := ps_imp (ps_expr h hs) fun D σ H ⟨e, p, m, k, r, q⟩ =>
  ⟨e, p, m, k, r, GoS.val k r q fun d m1 p1 H1 v _ x _ q1 => q1 p1 H1 σ (Ext.refl x.ok) (r.ext k x)⟩
theorem ss_ret {x : Expr} {a : ME} (h : SE X W x a) : SS X W (.Return (some x) pos) (sRet a) := ps_imp (ps_ret h) fun D σ H ⟨e, p, m, k, r, q⟩ =>
  ⟨e, p, m, k, r, GoS.val k r q fun d m1 p1 H1 v _ x y q1 => q1 p1 H1 v (Ext.refl x.ok) y⟩
theorem ss_retN : SS X W (.Return none pos) sRetN := ps_imp ps_retN fun D σ H ⟨e, p, m, k, r, q⟩ => q p H _ (Ext.refl k) .non
theorem ss_break : SS X W (.Break pos) sBreak := ps_imp ps_break fun D σ H ⟨e, p, m, k, r, q⟩ => q p H σ (Ext.refl k) r
theorem ss_cont : SS X W (.Continue pos) sCont := ps_imp ps_continue fun D σ H ⟨e, p, m, k, r, q⟩ => q p H σ (Ext.refl k) r
theorem ss_pass : SS X W (.Pass pos) sNext := ps_imp ps_pass fun D σ H ⟨e, p, m, k, r, q⟩ => q p H σ (Ext.refl k) r
theorem ss_if {x : Expr} {xa xb : List Stmt} {t : MT} {a b : MS} (ht : ST X W x t) (ha : SB X W xa a) (hb : SB X W xb b) : SS X W (.If x xa xb pos) (sIf t a b) := ps_imp (ps_if ht ha hb) fun D σ H ⟨e, p, m, k, r, q⟩ =>
  ⟨e, p, m, k, r, GoS.tst k r q fun d m1 p1 H1 _ x q1 => by
    cases d with
    | true => exact ⟨e, p1, m1, x.ok, r.ext k x, q1⟩
    | false => exact ⟨e, p1, m1, x.ok, r.ext k x, q1⟩⟩
/-- raise: not followed here -/
def sNever : MS := fun _ _ => .bad
theorem ss_never {x : Stmt} : SS X W x sNever := ps_imp ps_never fun D σ H ⟨e, p, m, k, r, q⟩ => q

/-! ### targets -/
abbrev MG := D → En → M En
def GoG (g : Gx) (p : List Addr) (H : Hp) (r : R En) (Q : L2.St → Hp → Prop) : Prop := match r with
  | .ok e' m' => ∀ p' H' σ', Ext g p H p' m' H' → RDo g p' H' e' σ' → Q σ' H'
  | .exc _ _ => False
  | .bad => False
def rdG (g : Gx) (W : WX) (f : MG) : TG := fun v σ H Q => ∃ d e p m, Ok g p m H ∧ RDo g p H e σ ∧ RD g p H d v ∧ GoG g p H (f d e m) Q
def SG (X : Cx) (W : WX) (x : Expr) (f : MG) : Prop := PG X x (rdG (gx X) W f)
theorem pg_imp {X : Cx} {x : Expr} {t t' : TG} (h : PG X x t) (k : ∀ v σ H Q, t' v σ H Q → t v σ H Q) : PG X x t' := ⟨fun pins s σ H v u Q I r q => h.run pins s σ H v u Q I r (k _ _ _ _ q)⟩
def gSet (i : Nat) : MG := fun d e m => .ok (e.set i (some d)) m
theorem sg_name {i : Nat} {x : Expr} (h : PG X x (gName i)) : SG X W x (gSet i) := pg_imp h fun v σ H Q ⟨d, e, p, m, k, r, rd, q⟩ => q p H _ (Ext.refl k) (r.set i rd)
abbrev MGs := List D → En → M En
def rdGs (g : Gx) (f : MGs) : TGs := fun vs σ H Q => ∃ ds e p m, Ok g p m H ∧ RDo g p H e σ ∧ RDs g p H ds vs ∧ GoG g p H (f ds e m) Q
def SGs (X : Cx) (x : List Expr) (f : MGs) : Prop := PGs X x (rdGs (gx X) f)
theorem pgs_imp {X : Cx} {x : List Expr} {t t' : TGs} (h : PGs X x t) (k : ∀ v σ H Q, t' v σ H Q → t v σ H Q) : PGs X x t' := ⟨fun pins s σ H v u Q I r q => h.run pins s σ H v u Q I r (k _ _ _ _ q)⟩
def gNilM : MGs := fun ds e m => match ds with
  | [] => .ok e m
  | _ => .bad
def gConsM (a : MG) (b : MGs) : MGs := fun ds e m => match ds with
  | [] => .bad
  | d :: ds => (a d e m).bind fun e1 m1 => b ds e1 m1
theorem sgs_nil : SGs X [] gNilM := pgs_imp pgs_nil fun vs σ H Q ⟨ds, e, p, m, k, r, rd, q⟩ => by
  cases rd with
  | nil => exact ⟨rfl, q p H σ (Ext.refl k) r⟩
  | cons => exact q.elim
theorem sgs_cons {x : Expr} {xs : List Expr} {a : MG} {b : MGs} (h1 : SG X W x a) (h2 : SGs X xs b) (hs : (assignEach (x :: xs) X.env).map (·.2) = assign x X.env :: (assignEach xs X.env).map (·.2) := by rfl) : SGs X (x :: xs) (gConsM a b) := pgs_imp (pgs_cons h1 h2 hs) fun vs σ H Q ⟨ds, e, p, m, k, r, rd, q⟩ => by
  cases rd with
  | nil => exact q.elim
  | @cons d v ds vs r1 r2 =>
    refine ⟨v, vs, rfl, d, e, p, m, k, r, r1, ?_⟩
    change GoG _ _ _ ((a d e m).bind _) _ at q
    cases h : a d e m with
    | bad => rw [h] at q; exact q
    | exc c m1 => rw [h] at q; exact q
    | ok e1 m1 =>
      rw [h] at q
      intro p1 H1 σ1 x1 ro
      refine ⟨ds, e1, p1, m1, x1.ok, ro, r2.ext k x1, ?_⟩
      change GoG _ _ _ (b ds e1 m1) _ at q
      cases h2 : b ds e1 m1 with
      | bad => rw [h2] at q; exact q
      | exc c m1 => rw [h2] at q; exact q
      | ok e2 m2 =>
        rw [h2] at q
        exact fun p2 H2 σ2 x2 r2 => q p2 H2 σ2 (x1.trans k x2) r2
def gTupM (n : Nat) (f : MGs) : MG := fun d e m => match d with
  | .tup ds => if ds.length = n then f ds e m else .bad
  | _ => .bad
theorem sg_tup {xs : List Expr} {kt : Nat} {f : MGs} {n : Nat} (hc : X.calm = true) (h : SGs X xs f) (hn : (assignEach xs X.env).length = n := by rfl) (hst : (assignEach xs X.env).findIdx? (·.1) = none := by rfl) : SG X W (.Tuple xs kt pos) (gTupM n f) := pg_imp (pg_tup hc h hn hst) fun v σ H Q ⟨d, e, p, m, k, r, rd, q⟩ => by
  cases rd with
  | @tup a vs ds h1 r1 =>
    change GoG _ _ _ (if ds.length = n then f ds e m else .bad) _ at q
    split at q
    · rename_i hl
      exact ⟨a, vs, rfl, h1, by rw [← r1.length]; exact hl, ds, e, p, m, k, r, r1, q⟩
    · exact q.elim
  | non => exact q.elim
  | bl i => exact q.elim
  | int i => exact q.elim
  | str i => exact q.elim
  | ref i => exact q.elim
  | fn i => exact q.elim
  | fro _ _ => exact q.elim
  | hot _ => exact q.elim
/-- target = value -/
def sAsg (a : ME) (t : MG) : MS := fun e m => (a e m).go e fun d m1 => match t d e m1 with
  | .ok e' m' => .nx e' m'
  | _ => .bad
theorem asg_in {a : ME} {t : MG} {D' : Ends} {σ : L2.St} {H : Hp} (h : rdS (gx X) W (sAsg a t) D' σ H) : tAsg (rdE (gx X) W a) (rdG (gx X) W t) D' σ H := by
  obtain ⟨e, p, m, k, r, q⟩ := h
  refine ⟨e, p, m, k, r, GoS.val k r q fun d m1 p1 H1 v _ x y q1 => ⟨d, e, p1, m1, x.ok, r.ext k x, y, ?_⟩⟩
  cases h : t d e m1 with
  | bad => rw [h] at q1; exact q1
  | exc c m1 => rw [h] at q1; exact q1
  | ok e1 m1 => rw [h] at q1; exact q1
theorem ss_asg {x tg : Expr} {a : ME} {t : MG} (h : SE X W x a) (ht : SG X W tg t) (hs : swapsWithSole [tg] x pos.line X.env = pure false := by rfl) (hw : swappedStores [tg] x X.env = pure none := by rfl) (h1 : (assignEach [tg] X.env).map (·.2) = [assign tg X.env] := by rfl) : SS X W (.Assign [tg] x pos) (sAsg a t) :=
  ps_imp (ps_asg h ht hs hw h1) fun _ _ _ => asg_in
theorem ss_set {i : Nat} {n : Str} {x : Expr} {a : ME} {pos' : Pos} (h : PS X (.Assign [.Name n pos'] x pos) (tAsg (rdE (gx X) W a) (gName i))) : SS X W (.Assign [.Name n pos'] x pos) (sAsg a (gSet i)) :=
  ps_imp h fun D σ H ⟨e, p, m, k, r, q⟩ => ⟨e, p, m, k, r, GoS.val k r q fun d m1 p1 H1 v _ x y q1 => q1 p1 H1 _ (Ext.refl x.ok) ((r.ext k x).set i y)⟩
/-- a, b = x, y, both sides written -/
def sPar (i j : Nat) (a : MA) : MS := fun e m => (a e m).go e fun ds m1 => match ds with
  | [d, d'] => .nx ((e.set i (some d)).set j (some d')) m1
  | _ => .bad
theorem ss_par {i j : Nat} {x : Stmt} {a : MA} (h : PS X x (tPar i j (rdA (gx X) W a))) : SS X W x (sPar i j a) := ps_imp h fun D σ H ⟨e, p, m, k, r, q⟩ => by
  refine ⟨e, p, m, k, r, ?_⟩
  unfold sPar at q
  cases h1 : a e m with
  | bad => rw [h1] at q; exact q
  | exc c m1 => rw [h1] at q; exact fun p' H' C x y => q p' H' σ C x (r.ext k x) y
  | ok ds m1 =>
    rw [h1] at q
    intro p1 H1 vs x1 r1
    have q1 := GoS.step k x1 q
    cases r1 with
    | nil => exact q1.elim
    | cons ra t => cases t with
      | nil => exact q1.elim
      | cons rb t => cases t with
        | nil => exact ⟨_, _, rfl, q1 p1 H1 _ (Ext.refl x1.ok) (((r.ext k x1).set i ra).set j rb)⟩
        | cons _ _ => exact q1.elim
/-- x op= e -/
def sAug (i : Nat) (f : D → D → M D) (a : ME) : MS := fun e m => match e[i]? with
  | some (some x) => (a e m).go e fun y m1 => match (f x y m1) with
    | .ok z m2 => .nx (e.set i (some z)) m2
    | _ => .bad
  | _ => .bad
theorem ss_aug {i : Nat} {x : Stmt} {a : ME} {f : D → D → M D} (h : PS X x (tAug i (rdE (gx X) W a) (rd2 (gx X) f))) : SS X W x (sAug i f a) := ps_imp h fun D' σ H ⟨e, p, m, k, r, q⟩ => by
  unfold sAug at q
  split at q
  · rename_i d hd
    obtain ⟨v, hv, rv⟩ := r.at_ i d hd
    refine ⟨v, hv, e, p, m, k, r, GoS.val k r q fun d1 m1 p1 H1 v1 _ x y q1 => ⟨p1, m1, d, d1, x.ok, rv.ext k x, y, ?_⟩⟩
    cases h2 : f d d1 m1 with
    | bad => rw [h2] at q1; exact q1
    | exc c m => rw [h2] at q1; exact q1.elim
    | ok z m2 =>
      rw [h2] at q1
      exact fun p2 H2 v2 x2 r2 => q1 p2 H2 _ x2 (((r.ext k x).ext x.ok x2).set i r2)
  · exact q.elim
/-- while -/
def sWhile (t : MT) (b : MS) : Nat → MS
  | 0 => fun _ _ => .bad
  | n + 1 => fun e m => (t e m).go e fun c m1 => if c = true then (match b e m1 with
      | .nx e2 m2 => sWhile t b n e2 m2
      | .ct e2 m2 => sWhile t b n e2 m2
      | .bk e2 m2 => .nx e2 m2
      | r => r) else .nx e m1
theorem ss_while {x : Expr} {xs : List Stmt} {t : MT} {b : MS} (n : Nat) (hp : PassesOwn (model X.prog X.w) X.A X.env X.xe) (ht : ST X W x t) (hb : SB X W xs b) : SS X W (.While x xs [] pos) (sWhile t b n) := ps_imp (ps_while hp ht hb) fun D' σ H h => by
  refine ⟨fun n σ H => ∃ e p m, Ok (gx X) p m H ∧ RDo (gx X) p H e σ ∧ GoS (gx X) p H (sWhile t b n e m) D' W, ⟨n, h⟩, fun n σ H ⟨e, p, m, k, r, q⟩ => ?_⟩
  cases n with
  | zero => exact q.elim
  | succ n =>
    refine ⟨e, p, m, k, r, GoS.tst k r q fun c m1 p1 H1 _ x q1 => ?_⟩
    cases c with
    | false => exact q1 p1 H1 σ (Ext.refl x.ok) (r.ext k x)
    | true =>
      refine ⟨fun σ' H' => ∃ e p m, Ok (gx X) p m H' ∧ RDo (gx X) p H' e σ' ∧ GoS (gx X) p H' (sWhile t b n e m) D' W, fun σ' H' z => ⟨n, Nat.lt_succ_self n, z⟩, ?_⟩
      refine ⟨e, p1, m1, x.ok, r.ext k x, ?_⟩
      change GoS _ _ _ (match b e m1 with | .nx e2 m2 => _ | .ct e2 m2 => _ | .bk e2 m2 => _ | r => r) _ _ at q1
      cases h2 : b e m1 with
      | nx e2 m2 => rw [h2] at q1; exact fun p2 H2 σ2 x2 r2 => ⟨e2, p2, m2, x2.ok, r2, GoS.step x.ok x2 q1⟩
      | ct e2 m2 => rw [h2] at q1; exact fun p2 H2 σ2 x2 r2 => ⟨e2, p2, m2, x2.ok, r2, GoS.step x.ok x2 q1⟩
      | bk e2 m2 => rw [h2] at q1; exact q1
      | rt d m2 => rw [h2] at q1; exact q1
      | exc c e m2 => rw [h2] at q1; exact q1
      | bad => rw [h2] at q1; exact q1
end
end Mi
namespace Mi
open PySem PySem.Spec PyProof.Rows L2 Classical

/-! ### what is walked -/
structure Wk where
  its : List D
  gd : Mem → Prop
abbrev MI := En → M Wk
def Walks (g : Gx) (p0 : List Addr) (H0 : Hp) (J : It) (w : Wk) : Prop := ∀ (i : Nat) (p : List Addr) (m : Mem) (H : Hp), ExtW g p0 H0 p m H → w.gd m →
  (∀ d, w.its[i]? = some d → J.go i H ∧ ∀ x H', J.yld i H x H' → Ext g p H p m H' ∧ RD g p H' d x) ∧ (w.its.length ≤ i → J.stop i H)
def GoI (g : Gx) (p : List Addr) (H : Hp) (r : R Wk) (Q : It → Hp → Prop) (E : XK) : Prop := match r with
  | .ok w m' => ∀ p' H' J, Ext g p H p' m' H' → Walks g p' H' J w → Q J H'
  | .exc c m' => ∀ p' H' C, Ext g p H p' m' H' → g.mg c = some (.ref C) → E (.ref C) none H'
  | .bad => False
def rdI (g : Gx) (W : WX) (f : MI) : TI := fun σ H Q => ∃ e p m, Ok g p m H ∧ RDo g p H e σ ∧ GoI g p H (f e m) Q (WE W σ)
def SI (X : Cx) (W : WX) (tg x : Expr) (f : MI) : Prop := PI X tg x (rdI (gx X) W f)
theorem pi_imp {X : Cx} {tg x : Expr} {t t' : TI} (h : PI X tg x t) (k : ∀ σ H R, t' σ H R → t σ H R) : PI X tg x t' := ⟨fun pins s σ H R I q => h.run pins s σ H R I (k _ _ _ q)⟩
/-- a tuple, a list as it stands -/
def dSeq (d : D) (m : Mem) : R Wk := match d with
  | .tup ds => .ok ⟨ds, fun _ => True⟩ m
  | .fro ds => .ok ⟨ds, fun _ => True⟩ m
  | .ref n => match m[n]? with
    | some (.lst xs) => .ok ⟨xs, fun m' => m'[n]? = some (.lst xs)⟩ m
    | _ => .bad
  | _ => .bad
def iSeq (a : ME) : MI := fun e m => (a e m).bind fun d m1 => dSeq d m1
section
variable {X : Cx} {W : WX} {pos : Pos} {tg : Expr}
theorem walks_tup {g : Gx} {p : List Addr} {m : Mem} {H : Hp} {a : Addr} {ds : List D} {vs : List V} (k : Ok g p m H) (h : SqT g.K H a vs) (r : RDs g p H ds vs) : Walks g p H (Itt g.K a) ⟨ds, fun _ => True⟩ := fun i p1 m1 H1 x _ => by
  have h1 := x.sqT k h
  have r1 := r.extW k x
  refine ⟨fun d hd => ?_, fun hl => ⟨vs, h1, by rw [← r.length]; exact hl⟩⟩
  obtain ⟨v, hv, rv⟩ := r1.get hd
  refine ⟨⟨vs, v, h1, hv⟩, fun y H' ⟨e, z⟩ => ?_⟩
  subst e
  have := z vs h1
  rw [hv] at this
  cases this
  exact ⟨Ext.refl x.ok, rv⟩
theorem walks_lst {g : Gx} {p : List Addr} {m : Mem} {H : Hp} {a : Addr} {n : Nat} (k : Ok g p m H) (h : p[n]? = some a) {ds : List D} : Walks g p H (Itl g.K a) ⟨ds, fun m' => m'[n]? = some (.lst ds)⟩ := fun i p1 m1 H1 x hm => by
  have h1 := x.at h
  obtain ⟨vs, hq0, r1⟩ := x.ok.ob n a (.lst ds) h1 hm
  have hq : SqL g.K H1 a vs := .inl (.inl hq0)
  refine ⟨fun d hd => ?_, fun hl => ⟨vs, hq, by rw [← r1.length]; exact hl⟩⟩
  obtain ⟨v, hv, rv⟩ := r1.get hd
  refine ⟨⟨vs, v, hq, hv⟩, fun y H' ⟨e, z⟩ => ?_⟩
  subst e
  have := z vs hq
  rw [hv] at this
  cases this
  exact ⟨Ext.refl x.ok, rv⟩
theorem walks_fro {g : Gx} {p : List Addr} {m : Mem} {H : Hp} {a : Addr} {ds : List D} {vs : List V} (k : Ok g p m H) (h : Fz g.K H a vs) (r : RDs g p H ds vs) : Walks g p H (Itl g.K a) ⟨ds, fun _ => True⟩ := fun i p1 m1 H1 x _ => by
  have hq := (x.fz k h).sq
  have r1 := r.extW k x
  refine ⟨fun d hd => ?_, fun hl => ⟨vs, hq, by rw [← r1.length]; exact hl⟩⟩
  obtain ⟨v, hv, rv⟩ := r1.get hd
  refine ⟨⟨vs, v, hq, hv⟩, fun y H' ⟨e, z⟩ => ?_⟩
  subst e
  have := z vs hq
  rw [hv] at this
  cases this
  exact ⟨Ext.refl x.ok, rv⟩
/-- a list that is walked -/
def dLst (d : D) (m : Mem) : R Wk := match d with
  | .fro ds => .ok ⟨ds, fun _ => True⟩ m
  | .ref n => match m[n]? with
    | some (.lst xs) => .ok ⟨xs, fun m' => m'[n]? = some (.lst xs)⟩ m
    | _ => .bad
  | _ => .bad
def iLst (a : ME) : MI := fun e m => (a e m).bind fun d m1 => dLst d m1
def dTupI (d : D) (m : Mem) : R Wk := match d with
  | .tup ds => .ok ⟨ds, fun _ => True⟩ m
  | _ => .bad
def iTupM (a : ME) : MI := fun e m => (a e m).bind fun d m1 => dTupI d m1
theorem si_lst {x : Expr} {a : ME} (h : SE X W x a) : SI X W tg x (iLst a) := pi_imp (pi_list h) fun σ H R' ⟨e, p, m, k, r, q⟩ => by
  refine ⟨e, p, m, k, r, ?_⟩
  unfold iLst at q
  cases h1 : a e m with
  | bad => rw [h1] at q; exact q
  | exc c m1 => rw [h1] at q; exact q
  | ok d m1 =>
    rw [h1] at q
    intro p1 H1 v e1 r1
    change GoI _ _ _ (dLst d m1) _ _ at q
    cases r1 with
    | @ref n b hb =>
      simp only [dLst] at q
      cases h2 : m1[n]? with
      | none => rw [h2] at q; exact q.elim
      | some o =>
        rw [h2] at q
        have ro := e1.ok.ob n b o hb h2
        cases o with
        | lst xs =>
          obtain ⟨vs, hv, rv⟩ := ro
          exact ⟨b, rfl, ⟨vs, .inl (.inl hv)⟩, q p1 H1 _ e1 (walks_lst e1.ok hb)⟩
        | dic xs => exact q.elim
        | fdic xs => exact q.elim
        | ins _ _ => exact q.elim
        | dT _ => exact q.elim
    | tup _ => exact q.elim
    | non => exact q.elim
    | bl i => exact q.elim
    | int i => exact q.elim
    | str i => exact q.elim
    | fn i => exact q.elim
    | fro h2 r2 => exact ⟨_, rfl, ⟨_, h2.sq⟩, q p1 H1 _ e1 (walks_fro e1.ok h2 r2)⟩
    | hot _ => exact q.elim
theorem si_tup {x : Expr} {a : ME} (h : SE X W x a) : SI X W tg x (iTupM a) := pi_imp (pi_tup h) fun σ H R' ⟨e, p, m, k, r, q⟩ => by
  refine ⟨e, p, m, k, r, ?_⟩
  unfold iTupM at q
  cases h1 : a e m with
  | bad => rw [h1] at q; exact q
  | exc c m1 => rw [h1] at q; exact q
  | ok d m1 =>
    rw [h1] at q
    intro p1 H1 v e1 r1
    change GoI _ _ _ (dTupI d m1) _ _ at q
    cases r1 with
    | @tup b vs ds hb rv => exact ⟨b, rfl, ⟨vs, hb⟩, q p1 H1 _ e1 (walks_tup e1.ok hb rv)⟩
    | ref _ => exact q.elim
    | non => exact q.elim
    | bl i => exact q.elim
    | int i => exact q.elim
    | str i => exact q.elim
    | fn i => exact q.elim
    | fro _ _ => exact q.elim
    | hot _ => exact q.elim
/-- range -/
def rgD (lo : Int) (n : Nat) : List D := (List.range n).map fun i => D.int (lo + (i : Nat))
def dRng1 (ds : List D) (m : Mem) : R Wk := match ds with
  | [.int j] => if -(2 ^ 62) ≤ j ∧ j < 2 ^ 62 then .ok ⟨rgD 0 j.toNat, fun _ => True⟩ m else .bad
  | _ => .bad
def dRng2 (ds : List D) (m : Mem) : R Wk := match ds with
  | [.int i, .int j] => if -(2 ^ 62) ≤ i ∧ i < 2 ^ 62 ∧ -(2 ^ 62) ≤ j ∧ j < 2 ^ 62 then .ok ⟨rgD i (j - i).toNat, fun _ => True⟩ m else .bad
  | _ => .bad
def iRng1 (a : MA) : MI := fun e m => (a e m).bind fun ds m1 => dRng1 ds m1
def iRng2 (a : MA) : MI := fun e m => (a e m).bind fun ds m1 => dRng2 ds m1
theorem walks_rng {g : Gx} {p : List Addr} {H : Hp} (lo : Int) (n : Nat) : Walks g p H (Itr lo n) ⟨rgD lo n, fun _ => True⟩ := fun i p1 m1 H1 x _ => by
  have hl : (rgD lo n).length = n := by unfold rgD; simp
  refine ⟨fun d hd => ?_, fun h => ?_⟩
  · have hi : i < n := by
      have := (List.getElem?_eq_some_iff.mp hd).1
      rw [hl] at this
      exact this
    have e : d = .int (lo + (i : Nat)) := by
      unfold rgD at hd
      rw [List.getElem?_map, List.getElem?_range hi] at hd
      exact (Option.some.inj hd).symm
    subst e
    refine ⟨hi, fun y H' ⟨e1, e2⟩ => ?_⟩
    subst e1 e2
    exact ⟨Ext.refl x.ok, .int _⟩
  · rw [hl] at h
    exact h
theorem si_rng1 {xa : Expr} {a : MA} {pf : Pos} (hg : Gl X "range") (hm : X.mg "range" = none) (h : SA X W [xa] a) (hs : starEach [xa] X.env = [(false, eval xa X.env)] := by rfl) : SI X W tg (.Call (.Name "range" pf) [xa] [] pos) (Mi.iRng1 a) := pi_imp (pi_range1 hg hm h hs) fun σ H R' ⟨e, p, m, k, r, q⟩ => by
  refine ⟨e, p, m, k, r, ?_⟩
  unfold Mi.iRng1 at q
  cases h1 : a e m with
  | bad => rw [h1] at q; exact q
  | exc c m1 => rw [h1] at q; exact q
  | ok ds m1 =>
    rw [h1] at q
    intro p1 H1 v e1 r1
    change GoI _ _ _ (dRng1 ds m1) _ _ at q
    unfold dRng1 at q
    split at q
    · rename_i j
      split at q
      · rename_i hj
        cases r1 with
        | cons ra rb =>
          cases ra
          cases rb
          exact ⟨j, rfl, hj.1, hj.2, q p1 H1 _ e1 (walks_rng 0 _)⟩
      · exact q.elim
    · exact q.elim
theorem si_rng2 {xa xb : Expr} {a : MA} {pf : Pos} (hg : Gl X "range") (hm : X.mg "range" = none) (h : SA X W [xa, xb] a) (hs : starEach [xa, xb] X.env = [(false, eval xa X.env), (false, eval xb X.env)] := by rfl) (hs2 : starEach [xb] X.env = [(false, eval xb X.env)] := by rfl) : SI X W tg (.Call (.Name "range" pf) [xa, xb] [] pos) (Mi.iRng2 a) := pi_imp (pi_range2 hg hm h hs hs2) fun σ H R' ⟨e, p, m, k, r, q⟩ => by
  refine ⟨e, p, m, k, r, ?_⟩
  unfold Mi.iRng2 at q
  cases h1 : a e m with
  | bad => rw [h1] at q; exact q
  | exc c m1 => rw [h1] at q; exact q
  | ok ds m1 =>
    rw [h1] at q
    intro p1 H1 v e1 r1
    change GoI _ _ _ (dRng2 ds m1) _ _ at q
    unfold dRng2 at q
    split at q
    · rename_i i j
      split at q
      · rename_i hj
        cases r1 with
        | cons ra rb =>
          cases ra
          cases rb with
          | cons rb rc =>
            cases rb
            cases rc
            exact ⟨i, j, rfl, hj, q p1 H1 _ e1 (walks_rng i _)⟩
      · exact q.elim
    · exact q.elim

/-! ### for -/
noncomputable def forL (gd : Mem → Prop) (t : MG) (b : MS) : List D → MS
  | [] => fun e m => if gd m then .nx e m else .bad
  | d :: ds => fun e m => if gd m then (match t d e m with
      | .ok e1 m1 => (match b e1 m1 with
        | .nx e2 m2 => forL gd t b ds e2 m2
        | .ct e2 m2 => forL gd t b ds e2 m2
        | .bk e2 m2 => .nx e2 m2
        | r => r)
      | _ => .bad) else .bad
noncomputable def sFor (f : MI) (t : MG) (b : MS) : MS := fun e m => (f e m).go e fun w m1 => forL w.gd t b w.its e m1
theorem GoS.itr {g : Gx} {p : List Addr} {m : Mem} {H : Hp} {D' : Ends} {W : WX} {σ : L2.St} {e : En} {r : R Wk} {f : Wk → Mem → RS} {Q : It → Hp → Prop} (k : Ok g p m H) (ro : RDo g p H e σ) (h : GoS g p H (r.go e f) D' W)
    (hQ : ∀ d m1 p1 H1 J, r = .ok d m1 → Ext g p H p1 m1 H1 → Walks g p1 H1 J d → GoS g p1 H1 (f d m1) D' W → Q J H1) : GoI g p H r Q (WE W σ) := by
  cases r with
  | bad => exact h
  | exc c m1 => exact fun p' H' C x y => h p' H' σ C x (ro.ext k x) y
  | ok d m1 => exact fun p1 H1 v x y => hQ d m1 p1 H1 v rfl x y (GoS.step k x h)
theorem ss_for {x : Expr} {xs : List Stmt} {f : MI} {t : MG} {b : MS} (hp : PassesOwn (model X.prog X.w) X.A X.env X.xe) (hc : X.calm = true) (hi : SI X W tg x f) (hg : SG X W tg t) (hb : SB X W xs b) (h : PS X (.For tg x xs [] pos) (tFor (rdI (gx X) W f) (rdG (gx X) W t) (rdS (gx X) W b))) : SS X W (.For tg x xs [] pos) (sFor f t b) :=
  ps_imp h fun D' σ H ⟨e, p, m, k, r, q⟩ => by
    refine ⟨e, p, m, k, r, GoS.itr k r q fun w m1 p1 H1 J _ x1 wk q1 => ?_⟩
    refine ⟨fun i n σ' H' => ∃ e' p' m', Ext (gx X) p1 H1 p' m' H' ∧ RDo (gx X) p' H' e' σ' ∧ i + n = w.its.length ∧ GoS (gx X) p' H' (forL w.gd t b (w.its.drop i) e' m') D' W, ⟨w.its.length, e, p1, m1, Ext.refl x1.ok, r.ext k x1, by omega, q1⟩, ?_⟩
    rintro i n σ2 H2 ⟨e2, p2, m2, x2, r2, hin, q2⟩
    cases n with
    | zero =>
      have hi : w.its.length ≤ i := by omega
      rw [List.drop_eq_nil_of_le hi] at q2
      unfold forL at q2
      split at q2
      · rename_i hgd
        exact .inl ⟨(wk i p2 m2 H2 (x2.w x1.ok) hgd).2 hi, q2 p2 H2 σ2 (Ext.refl x2.ok) r2⟩
      · exact q2.elim
    | succ n =>
      have hi : i < w.its.length := by omega
      rw [List.drop_eq_getElem_cons hi] at q2
      unfold forL at q2
      split at q2
      · rename_i hgd
        obtain ⟨go, yl⟩ := (wk i p2 m2 H2 (x2.w x1.ok) hgd).1 _ (List.getElem?_eq_getElem hi)
        refine .inr ⟨go, fun σ' H' => ∃ e' p' m', Ext (gx X) p1 H1 p' m' H' ∧ RDo (gx X) p' H' e' σ' ∧ GoS (gx X) p' H' (forL w.gd t b (w.its.drop (i + 1)) e' m') D' W, fun σ' H' ⟨e', p', m', y1, y2, y3⟩ => ⟨n, Nat.lt_succ_self n, e', p', m', y1, y2, by omega, y3⟩, fun v H3 hy => ?_⟩
        obtain ⟨x3, rv⟩ := yl v H3 hy
        refine ⟨w.its[i], e2, p2, m2, x3.ok, r2.ext x2.ok x3, rv, ?_⟩
        have q3 := GoS.step x2.ok x3 q2
        cases h1 : t w.its[i] e2 m2 with
        | bad => rw [h1] at q3; exact q3
        | exc c m3 => rw [h1] at q3; exact q3
        | ok e3 m3 =>
          rw [h1] at q3
          intro p4 H4 σ4 x4 r4
          have q4 := GoS.step x3.ok x4 q3
          have x14 := x2.trans x1.ok (x3.trans x2.ok x4)
          refine ⟨e3, p4, m3, x4.ok, r4, ?_⟩
          change GoS _ _ _ (match b e3 m3 with | .nx e2 m2 => _ | .ct e2 m2 => _ | .bk e2 m2 => _ | r => r) _ _ at q4
          cases h2 : b e3 m3 with
          | nx e5 m5 => rw [h2] at q4; exact fun p5 H5 σ5 x5 r5 => ⟨e5, p5, m5, x14.trans x1.ok x5, r5, GoS.step x4.ok x5 q4⟩
          | ct e5 m5 => rw [h2] at q4; exact fun p5 H5 σ5 x5 r5 => ⟨e5, p5, m5, x14.trans x1.ok x5, r5, GoS.step x4.ok x5 q4⟩
          | bk e5 m5 => rw [h2] at q4; exact q4
          | rt d m5 => rw [h2] at q4; exact q4
          | exc c e m5 => rw [h2] at q4; exact q4
          | bad => rw [h2] at q4; exact q4
      · exact q2.elim

/-! ### comprehensions -/
def wipeM (e : En) (vs : List Nat) : En := vs.foldr (fun v e => e.set v none) e
theorem wipe_at (σ : L2.St) : ∀ (vs : List Nat) (j : Nat), (wipe σ vs)[j]? = if j ∈ vs then (σ[j]?).map (fun _ => none) else σ[j]?
  | [], j => by simp [wipe]
  | v :: vs, j => by
    unfold wipe
    by_cases hv : v = j
    · subst hv
      rw [if_pos (by simp)]
      by_cases hl : v < (wipe σ vs).length
      · rw [List.getElem?_set_self hl]
        rw [wipe_length] at hl
        rw [List.getElem?_eq_getElem hl]
        rfl
      · rw [List.getElem?_eq_none (by simpa using hl)]
        rw [wipe_length] at hl
        rw [List.getElem?_eq_none (by omega)]
        rfl
    · rw [List.getElem?_set_ne hv, wipe_at σ vs j]
      have : (j ∈ v :: vs) = (j ∈ vs) := by
        rw [List.mem_cons]
        simp [Ne.symm hv]
      simp only [this]
theorem wipe_set {σ : L2.St} {vs : List Nat} {i : Nat} {x : Option V} (h : i ∈ vs) : wipe (σ.set i x) vs = wipe σ vs := by
  apply List.ext_getElem?
  intro j
  rw [wipe_at, wipe_at]
  by_cases hj : j ∈ vs
  · rw [if_pos hj, if_pos hj]
    by_cases hij : i = j
    · subst hij
      by_cases hl : i < σ.length
      · rw [List.getElem?_set_self hl, List.getElem?_eq_getElem hl]
        rfl
      · rw [List.getElem?_eq_none (by simpa using hl), List.getElem?_eq_none (by omega)]
    · rw [List.getElem?_set_ne hij]
  · rw [if_neg hj, if_neg hj, List.getElem?_set_ne (fun z : i = j => hj (z ▸ h))]
theorem wipeM_at (σ : En) : ∀ (vs : List Nat) (j : Nat) (d : D), (wipeM σ vs)[j]? = some (some d) → j ∉ vs ∧ σ[j]? = some (some d)
  | [], j, d, h => ⟨by simp, h⟩
  | v :: vs, j, d, h => by
    have h : ((wipeM σ vs).set v none)[j]? = some (some d) := h
    by_cases hv : v = j
    · subst hv
      by_cases hl : v < (wipeM σ vs).length
      · rw [List.getElem?_set_self hl] at h
        cases h
      · rw [List.getElem?_eq_none (by simpa using hl)] at h
        cases h
    · rw [List.getElem?_set_ne hv] at h
      obtain ⟨h1, h2⟩ := wipeM_at σ vs j d h
      exact ⟨by simp [Ne.symm hv, h1], h2⟩
theorem wipeM_length (σ : En) : ∀ (vs : List Nat), (wipeM σ vs).length = σ.length
  | [] => rfl
  | v :: vs => by
    show ((wipeM σ vs).set v none).length = _
    rw [List.length_set, wipeM_length σ vs]
theorem RDo.wipe {g : Gx} {p : List Addr} {H : Hp} {e : En} {σ : L2.St} (r : RDo g p H e σ) (vs : List Nat) : RDo g p H (wipeM e vs) (L2.wipe σ vs) := by
  refine ⟨by rw [wipeM_length, wipe_length]; exact r.len, fun i d h => ?_⟩
  obtain ⟨h1, h2⟩ := wipeM_at e vs i d h
  obtain ⟨v, hv, rv⟩ := r.at_ i d h2
  exact ⟨v, by rw [wipe_at, if_neg h1]; exact hv, rv⟩
/-- a comprehension's target: a name, or a tuple of names -/
inductive Pat where
  | one (i : Nat)
  | many (is : List Nat)
  | nest (is : List Nat) (j : Nat)
def gNames : List Nat → TGs
  | [] => gNil
  | i :: is => gCons (gName i) (gNames is)
def patT (K : PySem.W.Frag) : Pat → TG
  | .one i => gName i
  | .many is => gTup K is.length (gNames is)
  | .nest is j => gTup K 2 (gCons (gTup K is.length (gNames is)) (gCons (gName j) gNil))
def setsM : List Nat → List D → En → En
  | i :: is, d :: ds, e => setsM is ds (e.set i (some d))
  | _, _, e => e
def patM : Pat → D → En → Option En
  | .one i, d, e => some (e.set i (some d))
  | .many is, d, e => match d with
    | .tup ds => if ds.length = is.length then some (setsM is ds e) else none
    | _ => none
  | .nest is j, d, e => match d with
    | .tup [.tup ds, d2] => if ds.length = is.length then some ((setsM is ds e).set j (some d2)) else none
    | _ => none
def Pat.slots : Pat → List Nat
  | .one i => [i]
  | .many is => is
  | .nest is j => is ++ [j]
theorem names_in {g : Gx} {p : List Addr} {H : Hp} {vs : List Nat} {Q : L2.St → Hp → Prop} : ∀ {is : List Nat} {ds : List D} {xs : List V} {e : En} {σ : L2.St}, RDs g p H ds xs → ds.length = is.length → RDo g p H e σ → (∀ i ∈ is, i ∈ vs) → (∀ σ', RDo g p H (setsM is ds e) σ' → wipe σ' vs = wipe σ vs → Q σ' H) → gNames is xs σ H Q
  | [], [], [], e, σ, _, _, r, _, q => ⟨rfl, q σ r rfl⟩
  | i :: is, d :: ds, x :: xs, e, σ, .cons rd rds, hl, r, hs, q => by
    refine ⟨x, xs, rfl, ?_⟩
    exact names_in (e := e.set i (some d)) (σ := σ.set i (some x)) rds (by simpa using hl) (r.set i rd) (fun j hj => hs j (by simp [hj])) fun σ' r' w => q σ' r' (w.trans (wipe_set (hs i (by simp))))
theorem pat_in {g : Gx} {p : List Addr} {H : Hp} {vs : List Nat} {Q : L2.St → Hp → Prop} {pt : Pat} {d : D} {x : V} {e e' : En} {σ : L2.St} (rd : RD g p H d x) (r : RDo g p H e σ) (hs : ∀ i ∈ pt.slots, i ∈ vs) (h : patM pt d e = some e') (q : ∀ σ', RDo g p H e' σ' → wipe σ' vs = wipe σ vs → Q σ' H) : patT g.K pt x σ H Q := by
  cases pt with
  | one i =>
    cases h
    exact q _ (r.set i rd) (wipe_set (hs i (by simp [Pat.slots])))
  | many is =>
    cases rd with
    | @tup a xs ds ha rs =>
      simp only [patM] at h
      split at h
      · rename_i hl
        cases h
        exact ⟨a, xs, rfl, ha, by rw [← rs.length]; exact hl, names_in rs hl r hs q⟩
      · cases h
    | non => cases h
    | bl i => cases h
    | int i => cases h
    | str i => cases h
    | ref i => cases h
    | fn i => cases h
    | fro _ _ => cases h
    | hot _ => cases h
  | nest is j =>
    cases rd with
    | @tup a xs ds ha rs =>
      simp only [patM] at h
      split at h
      · rename_i ds1 d2 heq
        cases heq
        split at h
        · rename_i hl
          cases h
          cases rs with
          | cons r1 rt =>
            cases rt with
            | cons r2 rn =>
              cases rn
              cases r1 with
              | @tup b ys _ hb rs1 =>
                refine ⟨a, _, rfl, ha, rfl, _, _, rfl, b, ys, rfl, hb, by rw [← rs1.length]; exact hl, names_in rs1 hl r (fun i hi => hs i (by simp [Pat.slots, hi])) fun σ1 ro1 w1 => ⟨_, _, rfl, ?_⟩⟩
                exact ⟨rfl, q _ (ro1.set j r2) ((wipe_set (hs j (by simp [Pat.slots]))).trans w1)⟩
        · cases h
      · cases h
    | non => cases h
    | bl i => cases h
    | int i => cases h
    | str i => cases h
    | ref i => cases h
    | fn i => cases h
    | fro _ _ => cases h
    | hot _ => cases h
noncomputable def lcL (gd : Mem → Prop) (pt : Pat) (t : MT) (x : ME) (e : En) : List D → List D → M (List D)
  | [], acc => fun m => if gd m then .ok acc m else .bad
  | d :: ds, acc => fun m => if gd m then (match patM pt d e with
      | some e1 => (t e1 m).calm.bind fun b m1 => if b = true then (x e1 m1).calm.bind fun y m2 => if acc.length < 1000000 then lcL gd pt t x e ds (acc ++ [y]) m2 else .bad else lcL gd pt t x e ds acc m1
      | none => .bad) else .bad
noncomputable def mLc (f : MI) (pt : Pat) (t : MT) (x : ME) (vs : List Nat) : ME := fun e m => (f e m).bind fun w m1 => (lcL w.gd pt t x (wipeM e vs) w.its [] m1).bind fun ys m2 => .ok (.ref m2.length) (m2 ++ [.lst ys])
def mYes : MT := fun _ m => .ok true m
abbrev W0 : WX := fun _ _ _ _ => False
theorem GoB.calm {g : Gx} {p : List Addr} {H : Hp} {r : R Bool} {Q : Bool → Hp → Prop} {E E' : XK} (h : GoB g p H r.calm Q E) : GoB g p H r Q E' := by
  cases r with
  | ok d m => exact h
  | exc c m => exact False.elim h
  | bad => exact h
theorem Walks.ext {g : Gx} {p p1 : List Addr} {m m1 : Mem} {H H1 : Hp} {J : It} {w : Wk} (k : Ok g p m H) (a : Ext g p H p1 m1 H1) (h : Walks g p H J w) : Walks g p1 H1 J w := fun i p2 m2 H2 x hg => h i p2 m2 H2 ((a.w k).trans x) hg
theorem lc_in {f : MI} {pt : Pat} {t : MT} {x : ME} {vs : List Nat} {σ : L2.St} {H : Hp} {Q : VK} (hs : ∀ i ∈ pt.slots, i ∈ vs) (h : rdE (gx X) W (mLc f pt t x vs) σ H Q) : tLc (rdI (gx X) W f) (patT X.K pt) (rdT (gx X) W0 t) (rdE (gx X) W0 x) vs σ H Q := by
  obtain ⟨e, p, m, k, r, q⟩ := h
  refine ⟨e, p, m, k, r, ?_⟩
  unfold mLc at q
  cases h1 : f e m with
  | bad => rw [h1] at q; exact q
  | exc c m1 => rw [h1] at q; exact q
  | ok w m1 =>
    rw [h1] at q
    intro p1 H1 J e1 wk L hL
    have q1 := GoV.step k e1 q
    change GoV _ _ _ ((lcL w.gd pt t x (wipeM e vs) w.its [] m1).bind _) _ _ at q1
    have xL : Ext (gx X) p1 H1 p1 m1 (upd H1 L (.lst [])) := Ext.fresh e1.ok hL
    have hLp : L ∉ p1 := fun z => e1.ok.there z hL
    -- what holds between two turns: the list at L is what is made so far
    refine ⟨fun i n H' => ∃ p' m' acc vacc, Ext (gx X) p1 H1 p' m' H' ∧ L ∉ p' ∧ H' L = some (.lst vacc) ∧ RDs (gx X) p' H' acc vacc ∧ i + n = w.its.length ∧
      GoV (gx X) p1 H1 ((lcL w.gd pt t x (wipeM e vs) (w.its.drop i) acc m').bind fun ys m2 => .ok (.ref m2.length) (m2 ++ [O.lst ys])) Q (WE W σ), ⟨w.its.length, p1, m1, [], [], xL, hLp, upd_same, .nil, by omega, q1⟩, ?_⟩
    rintro i n H2 ⟨p2, m2, acc, vacc, x2, nL, eL, ra, hin, q2⟩
    have r2 := (r.ext k e1).ext e1.ok x2
    cases n with
    | zero =>
      have hi : w.its.length ≤ i := by omega
      rw [List.drop_eq_nil_of_le hi] at q2
      unfold lcL at q2
      split at q2
      · rename_i hgd
        refine .inl ⟨(wk i p2 m2 H2 (x2.w e1.ok) hgd).2 hi, ?_⟩
        -- the list is the store's from now on
        refine q2 (p2 ++ [L]) H2 (.ref L) ?_ (.ref ?_)
        · have nd : (p2 ++ [L]).Nodup := by
            rw [List.nodup_append]
            exact ⟨x2.ok.nd, by simp, fun a ha b hb => by simp at hb; subst hb; intro z; subst z; exact nL ha⟩
          have ix : ∀ {n : Nat} {b : Addr}, p2[n]? = some b → (p2 ++ [L])[n]? = some b := fun {n b} z => by rw [List.getElem?_append_left (List.getElem?_eq_some_iff.mp z).1]; exact z
          have go : ∀ (ds : List D) (ws : List V), RDs (gx X) p2 H2 ds ws → RDs (gx X) (p2 ++ [L]) H2 ds ws := by
            intro ds ws rr
            exact RDs.rec (g := gx X) (p := p2) (H := H2) (motive_1 := fun d v _ => RD (gx X) (p2 ++ [L]) H2 d v) (motive_2 := fun d v _ => RDs (gx X) (p2 ++ [L]) H2 d v) .non .bl .int .str (fun h _ ih => .tup h ih) (fun h => .ref (ix h)) (fun h => .fn h) (fun h _ ih => .fro h ih) .hot .nil (fun _ _ i1 i2 => .cons i1 i2) rr
          obtain ⟨rr, er, hr⟩ := x2.pre
          refine ⟨⟨by simp [x2.ok.len], nd, fun n b ob z1 z2 => ?_⟩, ⟨rr ++ [L], by rw [er, List.append_assoc], fun b hb => ?_⟩, x2.fr, x2.sea⟩
          · by_cases hl : n < p2.length
            · rw [List.getElem?_append_left hl] at z1
              rw [List.getElem?_append_left (by rw [← x2.ok.len]; exact hl)] at z2
              have ro := x2.ok.ob n b ob z1 z2
              exact ro.mv (fun _ q => q) go
            · have hz : n = p2.length := by
                have := (List.getElem?_eq_some_iff.mp z1).1
                simp at this
                omega
              subst hz
              rw [List.getElem?_append_right (Nat.le_refl _)] at z1
              simp at z1
              subst z1
              rw [List.getElem?_append_right (by rw [x2.ok.len]; exact Nat.le_refl _)] at z2
              simp [x2.ok.len] at z2
              subst z2
              exact ⟨vacc, eL, go _ _ ra⟩
          · rcases List.mem_append.mp hb with hb | hb
            · exact hr b hb
            · simp at hb
              subst hb
              exact hL
        · rw [← x2.ok.len, List.getElem?_append_right (Nat.le_refl _)]
          simp
      · exact q2.elim
    | succ n =>
      have hi : i < w.its.length := by omega
      rw [List.drop_eq_getElem_cons hi] at q2
      unfold lcL at q2
      split at q2
      · rename_i hgd
        obtain ⟨go, yl⟩ := (wk i p2 m2 H2 (x2.w e1.ok) hgd).1 _ (List.getElem?_eq_getElem hi)
        refine .inr ⟨go, fun H' => ∃ p' m' acc vacc, Ext (gx X) p1 H1 p' m' H' ∧ L ∉ p' ∧ H' L = some (.lst vacc) ∧ RDs (gx X) p' H' acc vacc ∧
          GoV (gx X) p1 H1 ((lcL w.gd pt t x (wipeM e vs) (w.its.drop (i + 1)) acc m').bind fun ys m2 => .ok (.ref m2.length) (m2 ++ [O.lst ys])) Q (WE W σ),
          fun H' ⟨p', m', acc', vacc', y1, y2, y3, y4, y5⟩ => ⟨n, Nat.lt_succ_self n, p', m', acc', vacc', y1, y2, y3, y4, by omega, y5⟩, fun v H3 hy => ?_⟩
        obtain ⟨x3, rv⟩ := yl v H3 hy
        have x13 := x2.trans e1.ok x3
        have r3 := (r2.ext x2.ok x3).wipe vs
        cases hpt : patM pt w.its[i] (wipeM e vs) with
        | none => rw [hpt] at q2; exact q2.elim
        | some e3 =>
          rw [hpt] at q2
          refine pat_in rv r3 hs hpt fun σ3 ro3 hw => ⟨hw.trans ?_, ?_⟩
          · apply List.ext_getElem?
            intro j
            rw [wipe_at, wipe_at]
            by_cases hj : j ∈ vs
            · simp [hj, Option.map_map, Function.comp_def]
            · simp [hj, wipe_at]
          · refine ⟨e3, p2, m2, x3.ok, ro3, ?_⟩
            change GoV _ _ _ (((t e3 m2).calm.bind _).bind _) _ _ at q2
            cases h3 : t e3 m2 with
            | bad => rw [h3] at q2; exact q2
            | exc c m3 => rw [h3] at q2; exact q2.elim
            | ok b m3 =>
              rw [h3] at q2
              intro p4 H4 x4
              have x14 := x13.trans e1.ok x4
              have nL4 : L ∉ p4 := fun z => by
                obtain ⟨rr, er, hr⟩ := x4.pre
                rw [er] at z
                rcases List.mem_append.mp z with z | z
                · exact nL z
                · have z1 := hr L z
                  rw [x3.fr L _ eL nL] at z1
                  cases z1
              have eL4 : H4 L = some (.lst vacc) := x4.fr L _ (x3.fr L _ eL nL) nL
              have ra4 := (ra.ext x2.ok x3).ext x3.ok x4
              cases b with
              | false => exact ⟨p4, m3, acc, vacc, x14, nL4, eL4, ra4, q2⟩
              | true =>
                refine ⟨e3, p4, m3, x4.ok, ro3.ext x3.ok x4, ?_⟩
                change GoV _ _ _ (((x e3 m3).calm.bind _).bind _) _ _ at q2
                cases h4 : x e3 m3 with
                | bad => rw [h4] at q2; exact q2
                | exc c m4 => rw [h4] at q2; exact q2.elim
                | ok y m4 =>
                  rw [h4] at q2
                  intro p5 H5 vy x5 ry
                  have x15 := x14.trans e1.ok x5
                  have nL5 : L ∉ p5 := fun z => by
                    obtain ⟨rr, er, hr⟩ := x5.pre
                    rw [er] at z
                    rcases List.mem_append.mp z with z | z
                    · exact nL4 z
                    · have z1 := hr L z
                      rw [eL4] at z1
                      cases z1
                  have eL5 : H5 L = some (.lst vacc) := x5.fr L _ eL4 nL4
                  have ra5 := ra4.ext x4.ok x5
                  change GoV _ _ _ ((if acc.length < 1000000 then _ else _ : R (List D)).bind _) _ _ at q2
                  split at q2
                  · rename_i hsz
                    refine ⟨vacc, eL5, szlt (by rw [← ra5.length]; exact hsz), ?_⟩
                    have hs5 : ∀ {b ys}, SqT X.K H5 b ys → SqT X.K (upd H5 L (.lst (vacc ++ [vy]))) b ys := fun {b ys} z => by
                      rcases z with (z | ⟨w', z⟩) | z
                      · exact .inl (.inl (by rw [upd_ne]; exact z; intro e; subst e; rw [eL5] at z; cases z))
                      · exact .inl (.inr ⟨w', by rw [upd_ne]; exact z; intro e; subst e; rw [eL5] at z; cases z⟩)
                      · exact .inr z
                    have hz5 : ∀ {b ys}, Fz X.K H5 b ys → Fz X.K (upd H5 L (.lst (vacc ++ [vy]))) b ys := fun {b ys} z => by
                      rcases z with ⟨w', z⟩ | z
                      · exact .inl ⟨w', by rw [upd_ne]; exact z; intro e; subst e; rw [eL5] at z; cases z⟩
                      · exact .inr z
                    have go5 : ∀ (ds : List D) (ws : List V), RDs (gx X) p5 H5 ds ws → RDs (gx X) p5 (upd H5 L (.lst (vacc ++ [vy]))) ds ws := by
                      intro ds ws rr
                      exact RDs.rec (g := gx X) (p := p5) (H := H5) (motive_1 := fun d v _ => RD (gx X) p5 (upd H5 L (.lst (vacc ++ [vy]))) d v) (motive_2 := fun d v _ => RDs (gx X) p5 (upd H5 L (.lst (vacc ++ [vy]))) d v) .non .bl .int .str (fun h _ ih => .tup (hs5 h) ih) (fun h => .ref h) (fun h => .fn h) (fun h _ ih => .fro (hz5 h) ih) .hot .nil (fun _ _ i1 i2 => .cons i1 i2) rr
                    refine ⟨p5, m4, acc ++ [y], vacc ++ [vy], ⟨⟨x5.ok.len, x5.ok.nd, fun n b ob z1 z2 => ?_⟩, x15.pre, fun b o z zb => ?_, fun b o u z => by rw [upd_ne (ne_of_none z hL)]; exact x15.sea b o u z⟩, nL5, upd_same, go5 _ _ (ra5.app (.cons ry .nil)), q2⟩
                    · have nb : b ≠ L := fun z => by
                        subst z
                        exact nL5 (List.mem_of_getElem? z1)
                      have ro := x5.ok.ob n b ob z1 z2
                      exact ro.mv (fun _ q => by rw [upd_ne nb]; exact q) go5
                    · rw [upd_ne (ne_of_none z hL)]
                      exact x15.fr b o z zb
                  · exact q2.elim
      · exact q2.elim
end
end Mi
namespace Mi
open PySem PySem.Spec PyProof.Rows L2 Classical

/-! ### a def -/
def runM (n : Nat) (b : MS) : List D → M D := fun ds m => match b (ds.map some ++ List.replicate (n - ds.length) none) m with
  | .nx _ m' => .ok .non m'
  | .rt d m' => .ok d m'
  | .exc c _ m' => .exc c m'
  | _ => .bad
theorem RDo.start {g : Gx} {p : List Addr} {H : Hp} {N : List Str} {ds : List D} {vs : List V} (r : RDs g p H ds vs) : RDo g p H (ds.map some ++ List.replicate (N.length - ds.length) none) (L2.start N vs) := by
  have hl := r.length
  refine ⟨by unfold L2.start; simp [hl], fun i d h => ?_⟩
  by_cases hi : i < ds.length
  · rw [List.getElem?_append_left (by simpa using hi), List.getElem?_map] at h
    rw [Option.map_eq_some_iff] at h
    obtain ⟨d', h1, h2⟩ := h
    cases h2
    obtain ⟨v, hv, rv⟩ := r.get h1
    refine ⟨v, ?_, rv⟩
    unfold L2.start
    rw [List.getElem?_append_left (by rw [List.length_map, ← hl]; exact hi), List.getElem?_map, hv]
    rfl
  · rw [List.getElem?_append_right (by simp; omega)] at h
    rw [List.getElem?_replicate] at h
    split at h <;> cases h
structure Cal (P : Program) (w : World) (K : PySem.W.Frag) (mg : Str → Option Value) (base : Heap) (k : Nat) (x : Str) (n : Nat) (fn : List D → M D) : Prop where
  ex : ∃ f fd ps, FnOk P w K mg base (L2.CX P w) k f fd ps (spM ⟨K, mg⟩ n fn) ∧ mg x = some (.ref f) ∧ PySem.W.keepIn K (.ref f) = true ∧ Binds K fd ps []
theorem fn_ok {P : Program} {w : World} {K : PySem.W.Frag} {mg : Str → Option Value} {base : Heap} {x qual : Str} {st : Stmt} {f : Addr} {fd : FuncData} {N ps : List Str} {k : Nat} {b : MS} (F : Fun K x qual st f fd) (S : FnScope N ps (defScope st))
    (hb : ∀ (cdv : Value) (A : Around) (outer : List Env) (s : Shared) (H : Hp) (E : XK), Room k (A.deeper (envOfC qual (defScope st) s.heap.objs.size f cdv)) → SB (cxOf (L2.CX P w) P w K mg base N qual (defScope st) f cdv A outer s H E) (fun c d _ H => E c d H) (defBody st) b) :
    FnOk P w K mg base (L2.CX P w) (k + 1) f fd ps (spM ⟨K, mg⟩ ps.length (runM N.length b)) := by
  refine F.okX S (fun vs H Q E h => ?_) (fun cdv A outer s H vs Q E hr h => ?_)
  · obtain ⟨_, _, _, h, _⟩ := h
    exact h
  · obtain ⟨p, m, ds, hl, ok, r, q⟩ := h
    refine ⟨_, hb cdv A outer s H E hr, _, p, m, ok, RDo.start (N := N) r, ?_⟩
    unfold runM at q
    split at q <;> rename_i h1
    · rw [h1]
      exact fun p' H' σ' x _ => q p' H' _ x .non
    · rw [h1]
      exact fun p' H' v x y => q p' H' v x y
    · rw [h1]
      exact fun p' H' σ' C x _ y => q p' H' C x y
    · exact q.elim
theorem cal_of {P : Program} {w : World} {K : PySem.W.Frag} {mg : Str → Option Value} {base : Heap} {x : Str} {st : Stmt} {f : Addr} {fd : FuncData} {N ps : List Str} {k n : Nat} {b : MS} (F : Fun K x x st f fd) (S : FnScope N ps (defScope st)) (hm : mg x = some (.ref f)) (hB : Binds K fd ps []) (hn : ps.length = n)
    (hb : ∀ (cdv : Value) (A : Around) (outer : List Env) (s : Shared) (H : Hp) (E : XK), Room k (A.deeper (envOfC x (defScope st) s.heap.objs.size f cdv)) → SB (cxOf (L2.CX P w) P w K mg base N x (defScope st) f cdv A outer s H E) (fun c d _ H => E c d H) (defBody st) b) :
    Cal P w K mg base (k + 1) x n (runM N.length b) := ⟨f, fd, ps, hn ▸ fn_ok F S hb, hm, F.kp, hB⟩
/-- nothing is promised of a function that tells nothing -/
theorem cal_bad {P : Program} {w : World} {K : PySem.W.Frag} {mg : Str → Option Value} {base : Heap} {x qual : Str} {st : Stmt} {f : Addr} {fd : FuncData} {ps : List Str} {k n : Nat} (F : Fun K x qual st f fd) (hm : mg x = some (.ref f)) (hB : Binds K fd ps []) :
    Cal P w K mg base k x n (fun _ _ => .bad) := ⟨f, fd, ps, ⟨fun vs H Q E h => by obtain ⟨_, _, _, _, _, _, q⟩ := h; exact q.elim, fun A outer s H args us vs Q E _ _ _ _ h => by obtain ⟨_, _, _, _, _, _, q⟩ := h; exact q.elim⟩, hm, F.kp, hB⟩
section
variable {X : Cx} {W : WX} {pos : Pos} {tg : Expr}
theorem so_fun {k j : Nat} {x : Str} {pf : Pos} {xa : Expr} {xs : List Expr} {n : Nat} {fn : List D → M D} {a : MA} (c : Cal X.prog X.w X.K X.mg X.base k x n fn) (tk : Takes X W) (hr : Room j X.A) (hj : k ≤ j) (hg : Gl X x)
    (ha : SA X W (xa :: xs) a) (hdb : (x == ("__debug__" : Str)) = false := by decide) (he : starEach (xa :: xs) X.env = (false, eval xa X.env) :: starEach xs X.env := by rfl) (hpl : (backTo pos (starEach xs X.env)).any (·.1) = false := by rfl) :
    SE X W (.Call (.Name x pf) (xa :: xs) [] pos) (mCall n fn a) := by
  obtain ⟨f, fd, ps, F, hm, hk, hb⟩ := c.ex
  exact so_call F tk (hr.mono hj) hg hm hk hb ha hdb he hpl
theorem ss_forx {x : Expr} {xs : List Stmt} {f : MI} {t : MG} {b : MS} (hp : PassesOwn (model X.prog X.w) X.A X.env X.xe) (hc : X.calm = true) (hi : SI X W tg x f) (hg : SG X W tg t) (hb : SB X W xs b) (hs : ∀ y, foldedSetIterable x X.env y = pure y := by intro _; rfl) : SS X W (.For tg x xs [] pos) (sFor f t b) :=
  ss_for hp hc hi hg hb (ps_for hp hc hi hg hb hs)
theorem pts_none : PTs X [] (rdT (gx X) W mYes) := ⟨fun pins s σ H Q I h => pts_nil.run pins s σ H Q I (by
  obtain ⟨e, p, m, k, _, q⟩ := h
  exact q p H (Ext.refl k))⟩
theorem pts_some {x : Expr} {t : MT} (h : ST X W x t) : PTs X [x] (rdT (gx X) W t) := pts_one h
theorem so_lc {elt iter : Expr} {ifs : List Expr} {scope : Scope} {own : List (Str × Nat)} {f : MI} {pt : Pat} {t : MT} {x : ME} (hc : X.calm = true) (hN : X.N.Nodup) (hi : SI X W tg iter f) (ok : BlkOk X.N X.env.scope scope own)
    (hg : ∀ (s : Shared) (H : Hp) (C : Addr) (cl : List (Str × Addr)) (fp : List Addr), PG (X.blk s H scope (compEnvC scope cl C X.env) fp) tg (patT X.K pt))
    (ht : ∀ (s : Shared) (H : Hp) (C : Addr) (cl : List (Str × Addr)) (fp : List Addr), PTs (X.blk s H scope (compEnvC scope cl C X.env) fp) ifs (rdT (gx X) W0 t))
    (he : ∀ (s : Shared) (H : Hp) (C : Addr) (cl : List (Str × Addr)) (fp : List Addr), SE (X.blk s H scope (compEnvC scope cl C X.env) fp) W0 elt x)
    (hsl : ∀ i ∈ pt.slots, i ∈ own.map (·.2) := by decide) (hs : ∀ y, foldedSetIterable iter X.env y = pure y := by intro _; rfl) : SE X W (.ListComp elt [⟨tg, iter, ifs, 0⟩] scope pos) (mLc f pt t x (own.map (·.2))) :=
  pe_imp (pe_lc (te := rdE (gx X) W0 x) hc hN hi ok hg ht he hs) fun σ H Q h => lc_in hsl h
theorem ss_setLc {i : Nat} {y : Str} {py spos : Pos} {elt iter : Expr} {ifs : List Expr} {scope : Scope} {own : List (Str × Nat)} {f : MI} {pt : Pat} {t : MT} {x : ME} (hc : X.calm = true) (hN : X.N.Nodup) (hy : X.N[i]? = some y) (hyl : X.env.scope.names.lookup y = some .local)
    (hsw : swapsWith (.ListComp elt [⟨tg, iter, ifs, 0⟩] scope pos) (some (.Name y py)) spos.line X.env = pure true) (hi : SI X W tg iter f) (ok : BlkOk X.N X.env.scope scope own)
    (hg : ∀ (s : Shared) (H : Hp) (C : Addr) (cl : List (Str × Addr)) (fp : List Addr), PG (X.blk s H scope (compEnvC scope cl C X.env) fp) tg (patT X.K pt))
    (ht : ∀ (s : Shared) (H : Hp) (C : Addr) (cl : List (Str × Addr)) (fp : List Addr), PTs (X.blk s H scope (compEnvC scope cl C X.env) fp) ifs (rdT (gx X) W0 t))
    (he : ∀ (s : Shared) (H : Hp) (C : Addr) (cl : List (Str × Addr)) (fp : List Addr), SE (X.blk s H scope (compEnvC scope cl C X.env) fp) W0 elt x)
    (hsl : ∀ i ∈ pt.slots, i ∈ own.map (·.2) := by decide) (hs : ∀ y, foldedSetIterable iter X.env y = pure y := by intro _; rfl) : SS X W (.Assign [.Name y py] (.ListComp elt [⟨tg, iter, ifs, 0⟩] scope pos) spos) (sAsg (mLc f pt t x (own.map (·.2))) (gSet i)) := by
  refine ps_imp (ps_setLc (te := rdE (gx X) W0 x) hc hN hy hyl hsw hi ok hg ht he hs) fun D' σ H h => ?_
  obtain ⟨e, p, m, k, r, q⟩ := h
  refine lc_in (Q := fun v H1 => gName i v σ H1 D'.nx) hsl ⟨e, p, m, k, r, GoS.val k r q fun d m1 p1 H1 v _ x y q1 => ?_⟩
  exact q1 p1 H1 _ (Ext.refl x.ok) ((r.ext k x).set i y)

/-! ### operations on data -/
/-- what stays as it is -/
theorem fin_int {g : Gx} {p : List Addr} {m : Mem} {H : Hp} {Q : VK} {E : XK} {d : D} {v : V} (k : Ok g p m H) (r : RD g p H d v) (q : GoV g p H (.ok d m) Q E) : Q v H := q p H v (Ext.refl k) r
def dAdd (d e : D) (m : Mem) : R D := match d, e with
  | .int i, .int j => .ok (.int (i + j)) m
  | .str x, .str y => if x.length + y.length ≤ 1000000 then .ok (.str (x ++ y)) m else .bad
  | .tup xs, .tup ys => if xs.length + ys.length ≤ 1000000 then .ok (.tup (xs ++ ys)) m else .bad
  | .ref a, .ref b => match m[a]?, m[b]? with
    | some (.lst xs), some (.lst ys) => if xs.length + ys.length ≤ 1000000 then .ok (.ref m.length) (m ++ [.lst (xs ++ ys)]) else .bad
    | _, _ => .bad
  | _, _ => .bad
theorem od_add : OpR X (binaryOp .Add) (rd2 (gx X) dAdd) := by
  intro pins s σ H x y v u Q I rx ry h
  obtain ⟨p, m, d, e, k, rd, re, q⟩ := h
  cases rd with
  | int i => cases re with
    | int j => exact op_add pins s σ H _ _ v u Q I rx ry ⟨i, j, rfl, rfl, q p H _ (Ext.refl k) (.int _)⟩
    | _ => exact q.elim
  | str i => cases re with
    | str j =>
      change GoV _ _ _ (if i.length + j.length ≤ 1000000 then _ else _) _ _ at q
      split at q
      · rename_i hl
        exact op_add_str pins s σ H _ _ v u Q I rx ry ⟨i, j, rfl, rfl, szle hl, q p H _ (Ext.refl k) (.str _)⟩
      · exact q.elim
    | _ => exact q.elim
  | @tup a vs xs h1 r1 => cases re with
    | @tup b ws ys h2 r2 =>
      change GoV _ _ _ (if xs.length + ys.length ≤ 1000000 then _ else _) _ _ at q
      split at q
      · rename_i hl
        refine op_catA pins s σ H _ _ v u Q I rx ry ⟨a, b, vs, ws, rfl, rfl, h1, h2, szle (by rw [← r1.length, ← r2.length]; exact hl), fun e => ?_, fun e1 e2 => ?_, fun e1 e2 c hc => ?_⟩
        · subst e
          cases r1
          exact q p H _ (Ext.refl k) (.tup h2 r2)
        · subst e2
          cases r2
          refine q p H _ (Ext.refl k) (.tup h1 ?_)
          rw [List.append_nil]
          exact r1
        · have z := Ext.fresh (o := .tup (vs ++ ws)) k hc
          exact q p _ _ z (.tup (.inl (.inl upd_same)) ((r1.app r2).ext k z))
      · exact q.elim
    | _ => exact q.elim
  | @ref n a h1 => cases re with
    | @ref n2 b h2 =>
      change GoV _ _ _ (match m[n]?, m[n2]? with | some (.lst xs), some (.lst ys) => _ | _, _ => _) _ _ at q
      split at q
      · rename_i xs ys e1 e2
        split at q
        · rename_i hl
          obtain ⟨vs, hv, rv⟩ := k.ob n a _ h1 e1
          obtain ⟨ws, hw, rw'⟩ := k.ob n2 b _ h2 e2
          refine op_cat pins s σ H _ _ v u Q I rx ry ⟨a, b, vs, ws, rfl, rfl, hv, hw, szle (by rw [← rv.length, ← rw'.length]; exact hl), fun c hc => ?_⟩
          have z := new_lst k (rv.app rw') hc
          exact q _ _ _ z.1 z.2
        · exact q.elim
      · exact q.elim
    | _ => exact q.elim
  | non => exact q.elim
  | bl i => exact q.elim
  | fn i => exact q.elim
  | fro _ _ => exact q.elim
  | hot _ => exact q.elim
/-- two ints -/
theorem od_i {f : Value → Value → Sem Value} {C : Int → Int → Prop} {gI : Int → Int → Int} {dd : D → D → M D} (h : OpR X f (rI C fun i j => .int (gI i j)))
    (hd : ∀ d e m, (∃ i j, d = .int i ∧ e = .int j ∧ C i j ∧ dd d e m = .ok (.int (gI i j)) m) ∨ dd d e m = .bad) : OpR X f (rd2 (gx X) dd) := by
  intro pins s σ H x y v u Q I rx ry hq
  obtain ⟨p, m, d, e, k, rd, re, q⟩ := hq
  rcases hd d e m with ⟨i, j, rfl, rfl, hc, z⟩ | z
  · rw [z] at q
    cases rd
    cases re
    exact h pins s σ H _ _ v u Q I rx ry ⟨i, j, rfl, rfl, hc, q p H _ (Ext.refl k) (.int _)⟩
  · rw [z] at q
    exact q.elim
theorem od_b {f : Value → Value → Sem Value} {gB : Int → Int → Bool} {dd : D → D → M D} (h : OpR X f (rI0 fun i j => .bl (gB i j)))
    (hd : ∀ d e m, (∃ i j, d = .int i ∧ e = .int j ∧ dd d e m = .ok (.bl (gB i j)) m) ∨ dd d e m = .bad) : OpR X f (rd2 (gx X) dd) := by
  intro pins s σ H x y v u Q I rx ry hq
  obtain ⟨p, m, d, e, k, rd, re, q⟩ := hq
  rcases hd d e m with ⟨i, j, rfl, rfl, z⟩ | z
  · rw [z] at q
    cases rd
    cases re
    exact h pins s σ H _ _ v u Q I rx ry ⟨i, j, rfl, rfl, q p H _ (Ext.refl k) (.bl _)⟩
  · rw [z] at q
    exact q.elim
def dI2 (C : Int → Int → Prop) [∀ i j, Decidable (C i j)] (f : Int → Int → Int) (d e : D) (m : Mem) : R D := match d, e with
  | .int i, .int j => if C i j then .ok (.int (f i j)) m else .bad
  | _, _ => .bad
def dB2 (f : Int → Int → Bool) (d e : D) (m : Mem) : R D := match d, e with
  | .int i, .int j => .ok (.bl (f i j)) m
  | _, _ => .bad
theorem dI2_or {C : Int → Int → Prop} [∀ i j, Decidable (C i j)] {f : Int → Int → Int} (d e : D) (m : Mem) : (∃ i j, d = .int i ∧ e = .int j ∧ C i j ∧ dI2 C f d e m = .ok (.int (f i j)) m) ∨ dI2 C f d e m = .bad := by
  cases d with
  | int i => cases e with
    | int j =>
      by_cases h : C i j
      · exact .inl ⟨i, j, rfl, rfl, h, by simp only [dI2, if_pos h]⟩
      · exact .inr (by simp only [dI2, if_neg h])
    | _ => exact .inr rfl
  | _ => exact .inr rfl
theorem dB2_or {f : Int → Int → Bool} (d e : D) (m : Mem) : (∃ i j, d = .int i ∧ e = .int j ∧ dB2 f d e m = .ok (.bl (f i j)) m) ∨ dB2 f d e m = .bad := by
  cases d with
  | int i => cases e with
    | int j => exact .inl ⟨i, j, rfl, rfl, rfl⟩
    | _ => exact .inr rfl
  | _ => exact .inr rfl
def CTrue (_ _ : Int) : Prop := True
instance : ∀ i j, Decidable (CTrue i j) := fun _ _ => isTrue trivial
instance : ∀ i j, Decidable (CMul i j) := fun i j => by unfold CMul; exact inferInstance
instance : ∀ i j, Decidable (CDivW i j) := fun i j => by unfold CDivW; exact inferInstance
instance : ∀ i j, Decidable (CPow i j) := fun i j => by unfold CPow; exact inferInstance
def CPos (_ j : Int) : Prop := 0 < j
instance : ∀ i j, Decidable (CPos i j) := fun i j => by unfold CPos; exact inferInstance
def dSub : D → D → M D := dI2 CTrue (· - ·)
def dMul : D → D → M D := dI2 CMul (· * ·)
def dDiv : D → D → M D := dI2 CDivW (· / ·)
def dMod : D → D → M D := dI2 CPos (· % ·)
def dPow : D → D → M D := dI2 CPow (fun i j => i ^ j.toNat)
theorem od_sub : OpR X (binaryOp .Sub) (rd2 (gx X) dSub) := od_i (C := CTrue) (gI := (· - ·)) (fun pins s σ H x y v u Q I rx ry ⟨i, j, e1, e2, _, q⟩ => op_sub pins s σ H x y v u Q I rx ry ⟨i, j, e1, e2, q⟩) dI2_or
theorem od_mul : OpR X (binaryOp .Mult) (rd2 (gx X) dMul) := od_i (C := CMul) op_mul dI2_or
theorem od_div : OpR X (binaryOp .FloorDiv) (rd2 (gx X) dDiv) := od_i (C := CDivW) op_fdivW dI2_or
theorem od_mod : OpR X (binaryOp .Mod) (rd2 (gx X) dMod) := od_i (C := CPos) op_mod dI2_or
theorem od_pow : OpR X (binaryOp .Pow) (rd2 (gx X) dPow) := od_i (C := CPow) op_pow dI2_or
def dLt : D → D → M D := dB2 fun i j => decide (i < j)
def dLe : D → D → M D := dB2 fun i j => decide (i ≤ j)
def dGt : D → D → M D := dB2 fun i j => decide (j < i)
def dGe : D → D → M D := dB2 fun i j => decide (j ≤ i)
theorem od_lt : OpR X (compareOp .Lt) (rd2 (gx X) dLt) := od_b op_lt dB2_or
theorem od_le : OpR X (compareOp .LtE) (rd2 (gx X) dLe) := od_b op_le dB2_or
theorem od_gt : OpR X (compareOp .Gt) (rd2 (gx X) dGt) := od_b op_gt dB2_or
theorem od_ge : OpR X (compareOp .GtE) (rd2 (gx X) dGe) := od_b op_ge dB2_or
def dNeg (d : D) (m : Mem) : R D := match d with
  | .int i => .ok (.int (-i)) m
  | _ => .bad
theorem ud_neg : UnR X (unaryOp .USub) (rd1 (gx X) dNeg) := by
  intro pins s σ H x v Q I rx h
  obtain ⟨p, m, d, k, rd, q⟩ := h
  cases rd with
  | int i => exact un_neg pins s σ H _ v Q I rx ⟨i, rfl, q p H _ (Ext.refl k) (.int _)⟩
  | _ => exact q.elim
/-! equality -/
def toPy (m : Mem) : Nat → D → Option PyData
  | 0, _ => none
  | n + 1, d => match d with
    | .non => some .none
    | .bl b => some (.bool b)
    | .int i => some (.int i)
    | .str x => some (.str x)
    | .tup ds => ((ds.mapM (toPy m n)).map PyData.tuple)
    | .ref a => match m[a]? with
      | some (.lst xs) => ((xs.mapM (toPy m n)).map PyData.list)
      | _ => none
    | .fn _ => none
    | .fro ds => ((ds.mapM (toPy m n)).map PyData.list)
    | .hot _ => none
theorem toPy_dp {g : Gx} {p : List Addr} {m : Mem} {H : Hp} (k : Ok g p m H) : ∀ (n : Nat) (d : D) (v : V) (y : PyData), RD g p H d v → toPy m n d = some y → Dp g.K H v y
  | 0, _, _, _, _, h => by cases h
  | n + 1, d, v, y, r, h => by
    have all : ∀ (ds : List D) (vs : List V) (ys : List PyData), RDs g p H ds vs → ds.mapM (toPy m n) = some ys → DpAll g.K H vs ys := by
      intro ds
      induction ds with
      | nil =>
        intro vs ys r h
        cases r
        simp at h
        subst h
        exact .nil
      | cons d ds ih =>
        intro vs ys r h
        cases r with
        | cons r1 r2 =>
          rw [List.mapM_cons] at h
          cases h1 : toPy m n d with
          | none => rw [h1] at h; cases h
          | some y1 =>
            rw [h1] at h
            cases h2 : ds.mapM (toPy m n) with
            | none => rw [h2] at h; cases h
            | some y2 =>
              rw [h2] at h
              cases h
              exact .cons (toPy_dp k n d _ y1 r1 h1) (ih _ _ r2 h2)
    cases r with
    | non => cases h; exact .non
    | bl b => cases h; exact .bl b
    | int i => cases h; exact .int i
    | str x => cases h; exact .str x
    | fn _ => cases h
    | hot _ => cases h
    | @fro a vs ds h1 r1 =>
      change (ds.mapM (toPy m n)).map PyData.list = some y at h
      cases h2 : ds.mapM (toPy m n) with
      | none => rw [h2] at h; cases h
      | some ys =>
        rw [h2] at h
        cases h
        exact .lst h1.sq (all _ _ _ r1 h2)
    | @tup a vs ds h1 r1 =>
      change (ds.mapM (toPy m n)).map PyData.tuple = some y at h
      cases h2 : ds.mapM (toPy m n) with
      | none => rw [h2] at h; cases h
      | some ys =>
        rw [h2] at h
        cases h
        exact .tup h1 (all _ _ _ r1 h2)
    | @ref n2 a h1 =>
      simp only [toPy] at h
      split at h
      · rename_i xs e1
        obtain ⟨vs, hv, rv⟩ := k.ob n2 a _ h1 e1
        cases h2 : xs.mapM (toPy m n) with
        | none => rw [h2] at h; cases h
        | some ys =>
          rw [h2] at h
          cases h
          exact .lst (.inl (.inl hv)) (all _ _ _ rv h2)
      · cases h
def dEqB (f : PyData → PyData → Bool) (d e : D) (m : Mem) : R D := match d, e with
  | .str x, .str y => .ok (.bl (f (.str x) (.str y))) m
  | d, e => match toPy m 12 d, toPy m 12 e with
    | some x, some y => if SeqAt.shaped x = true ∧ SeqAt.shaped y = true then .ok (.bl (f x y)) m else .bad
    | _, _ => .bad
def dEq : D → D → M D := dEqB fun x y => PyData.eqv x y
def dNe : D → D → M D := dEqB fun x y => !PyData.eqv x y
theorem od_eq (hu : X.A.units + 64 < cLine) : OpR X (compareOp .Eq) (rd2 (gx X) dEq) := by
  intro pins s σ H x y v u Q I rx ry hq
  obtain ⟨p, m, d, e, k, rd, re, q⟩ := hq
  unfold dEq dEqB at q
  split at q
  · rename_i a b
    cases rd
    cases re
    refine op_eq pins s σ H _ _ v u Q I rx ry ⟨rfl, ?_⟩
    have q1 := q p H _ (Ext.refl k) (.bl _)
    simp only [PyData.eqv] at q1
    rw [dec_str]
    exact q1
  split at q
  · rename_i a b h1 h2
    split at q
    · rename_i hs
      exact op_eqD hu pins s σ H _ _ v u Q I rx ry ⟨a, b, toPy_dp k _ _ _ _ rd h1, toPy_dp k _ _ _ _ re h2, hs.1, hs.2, q p H _ (Ext.refl k) (.bl _)⟩
    · exact q.elim
  · exact q.elim
theorem od_ne (hu : X.A.units + 64 < cLine) : OpR X (compareOp .NotEq) (rd2 (gx X) dNe) := by
  intro pins s σ H x y v u Q I rx ry hq
  obtain ⟨p, m, d, e, k, rd, re, q⟩ := hq
  unfold dNe dEqB at q
  split at q
  · rename_i a b
    cases rd
    cases re
    refine op_ne pins s σ H _ _ v u Q I rx ry ⟨rfl, ?_⟩
    have q1 := q p H _ (Ext.refl k) (.bl _)
    simp only [PyData.eqv] at q1
    rw [dec_str]
    exact q1
  split at q
  · rename_i a b h1 h2
    split at q
    · rename_i hs
      exact op_neD hu pins s σ H _ _ v u Q I rx ry ⟨a, b, toPy_dp k _ _ _ _ rd h1, toPy_dp k _ _ _ _ re h2, hs.1, hs.2, q p H _ (Ext.refl k) (.bl _)⟩
    · exact q.elim
  · exact q.elim
/-- is None, is not None -/
def isNon : D → Bool
  | .non => true
  | _ => false
def dIsN (d e : D) (m : Mem) : R D := match e with
  | .non => .ok (.bl (isNon d)) m
  | _ => .bad
def dNotN (d e : D) (m : Mem) : R D := match e with
  | .non => .ok (.bl (!isNon d)) m
  | _ => .bad
theorem isNon_eq {g : Gx} {p : List Addr} {H : Hp} {d : D} {v : V} (r : RD g p H d v) : decide (v = .non) = isNon d := by cases r <;> rfl
theorem od_isN : OpR X (compareOp .Is) (rd2 (gx X) dIsN) := by
  intro pins s σ H x y v u Q I rx ry hq
  obtain ⟨p, m, d, e, k, rd, re, q⟩ := hq
  cases re with
  | non => exact op_isN pins s σ H _ _ v u Q I rx ry ⟨rfl, by rw [isNon_eq rd]; exact q p H _ (Ext.refl k) (.bl _)⟩
  | _ => exact q.elim
theorem od_notN : OpR X (compareOp .IsNot) (rd2 (gx X) dNotN) := by
  intro pins s σ H x y v u Q I rx ry hq
  obtain ⟨p, m, d, e, k, rd, re, q⟩ := hq
  cases re with
  | non => exact op_notN pins s σ H _ _ v u Q I rx ry ⟨rfl, by rw [isNon_eq rd]; exact q p H _ (Ext.refl k) (.bl _)⟩
  | _ => exact q.elim
/-! items and slices -/
def seqOf (d : D) (m : Mem) : Option (List D) := match d with
  | .tup ds => some ds
  | .fro ds => some ds
  | .ref n => match m[n]? with
    | some (.lst xs) => some xs
    | _ => none
  | _ => none
theorem seq_of {g : Gx} {p : List Addr} {m : Mem} {H : Hp} {d : D} {v : V} {ds : List D} (k : Ok g p m H) (r : RD g p H d v) (h : seqOf d m = some ds) : ∃ a vs, v = .ref a ∧ (SqL g.K H a vs ∨ SqT g.K H a vs) ∧ RDs g p H ds vs := by
  cases r with
  | @tup a vs es h1 r1 => cases h; exact ⟨a, vs, rfl, .inr h1, r1⟩
  | @ref n a h1 =>
    simp only [seqOf] at h
    split at h
    · rename_i xs e1
      cases h
      obtain ⟨vs, hv, rv⟩ := k.ob n a _ h1 e1
      exact ⟨a, vs, rfl, .inl (.inl (.inl hv)), rv⟩
    · cases h
  | non => cases h
  | bl i => cases h
  | int i => cases h
  | str i => cases h
  | fn i => cases h
  | fro h1 r1 => cases h; exact ⟨_, _, rfl, .inl h1.sq, r1⟩
  | hot _ => cases h
def dIx (d e : D) (m : Mem) : R D := match seqOf d m, e with
  | some ds, .int i => match atI ds i with
    | some x => .ok x m
    | none => .bad
  | _, _ => .bad
theorem RDs.atI {g : Gx} {p : List Addr} {H : Hp} {ds : List D} {vs : List V} {i : Int} {d : D} (r : RDs g p H ds vs) (h : L2.atI ds i = some d) : ∃ v, L2.atI vs i = some v ∧ RD g p H d v := by
  unfold L2.atI at h ⊢
  rw [← r.length]
  cases h1 : ixN ds.length i with
  | none => rw [h1] at h; cases h
  | some j =>
    rw [h1] at h
    exact r.get h
theorem xd_ix : IxR X (rd2 (gx X) dIx) := by
  intro value slice pins s σ H x y v u Q I rx ry hq hsl
  obtain ⟨p, m, d, e, k, rd, re, q⟩ := hq
  unfold dIx at q
  split at q
  · rename_i ds i h1
    split at q
    · rename_i z h2
      cases re
      obtain ⟨a, vs, rfl, hs, rv⟩ := seq_of k rd h1
      obtain ⟨w, hw, rw'⟩ := rv.atI h2
      rcases hs with hs | hs
      · exact ix_list value slice pins s σ H _ _ v u Q I rx ry ⟨a, vs, i, w, rfl, rfl, hs, hw, q p H _ (Ext.refl k) rw'⟩ hsl
      · exact ix_tup value slice pins s σ H _ _ v u Q I rx ry ⟨a, vs, i, w, rfl, rfl, hs, hw, q p H _ (Ext.refl k) rw'⟩ hsl
    · exact q.elim
  · exact q.elim
def cutD (xs : List D) (lo hi : Option Int) : List D := (xs.drop (HT.sIx xs.length 0 lo)).take (HT.sIx xs.length xs.length hi - HT.sIx xs.length 0 lo)
abbrev MO := En → M (Option Int)
def GoO (g : Gx) (p : List Addr) (H : Hp) (r : R (Option Int)) (Q : Option Int → Hp → Prop) (E : XK) : Prop := match r with
  | .ok d m' => ∀ p' H', Ext g p H p' m' H' → Q d H'
  | .exc c m' => ∀ p' H' C, Ext g p H p' m' H' → g.mg c = some (.ref C) → E (.ref C) none H'
  | .bad => False
def rdO (g : Gx) (W : WX) (f : MO) : TO := fun σ H Q => ∃ e p m, Ok g p m H ∧ RDo g p H e σ ∧ GoO g p H (f e m) Q (WE W σ)
def SO (X : Cx) (W : WX) (x : Option Expr) (f : MO) : Prop := PO X x (rdO (gx X) W f)
theorem po_imp {x : Option Expr} {t t' : TO} (h : PO X x t) (k : ∀ σ H Q, t' σ H Q → t σ H Q) : PO X x t' := ⟨fun pins s σ H Q I q => h.run pins s σ H Q I (k _ _ _ q)⟩
def oNone : MO := fun _ m => .ok none m
def oSome (a : ME) : MO := fun e m => (a e m).bind fun d m1 => match d with
  | .int i => .ok (some i) m1
  | _ => .bad
theorem so_no : SO X W none oNone := po_imp po_none fun σ H Q ⟨e, p, m, k, r, q⟩ => q p H (Ext.refl k)
theorem so_yes {x : Expr} {a : ME} (h : SE X W x a) : SO X W (some x) (oSome a) := po_imp (po_some h) fun σ H Q ⟨e, p, m, k, r, q⟩ => by
  refine ⟨e, p, m, k, r, ?_⟩
  unfold oSome at q
  cases h1 : a e m with
  | bad => rw [h1] at q; exact q
  | exc c m1 => rw [h1] at q; exact q
  | ok d m1 =>
    rw [h1] at q
    intro p1 H1 v e1 r1
    cases r1 with
    | int i => exact ⟨i, rfl, q p1 H1 e1⟩
    | _ => exact q.elim
def dCut (d : D) (lo hi : Option Int) (m : Mem) : R D := match d with
  | .tup ds => .ok (.tup (cutD ds lo hi)) m
  | .ref n => match m[n]? with
    | some (.lst xs) => .ok (.ref m.length) (m ++ [.lst (cutD xs lo hi)])
    | _ => .bad
  | .fro xs => .ok (.ref m.length) (m ++ [.lst (cutD xs lo hi)])
  | _ => .bad
def mCut (a : ME) (lo hi : MO) : ME := fun e m => (a e m).bind fun d m1 => (lo e m1).bind fun l m2 => (hi e m2).bind fun h m3 => (dCut d l h m3).calm
def rdCut (g : Gx) : V → Option Int → Option Int → Hp → VK → Prop := fun x lo hi H Q => ∃ p m d, Ok g p m H ∧ RD g p H d x ∧ GoV g p H (dCut d lo hi m) Q (fun _ _ _ => False)
theorem RDs.cut {g : Gx} {p : List Addr} {H : Hp} {ds : List D} {vs : List V} (r : RDs g p H ds vs) (lo hi : Option Int) : RDs g p H (cutD ds lo hi) (cutV vs lo hi) := by
  unfold cutD cutV
  rw [r.length]
  exact (r.drop _).take _
theorem sl_cut : SlR X (rdCut (gx X)) := by
  intro pins s σ H x v vl vu lo hi sl Q I rx hs pl pu h
  obtain ⟨p, m, d, k, rd, q⟩ := h
  cases rd with
  | @tup a vs ds h1 r1 =>
    refine sl_tupA pins s σ H _ v vl vu lo hi sl Q I rx hs pl pu ⟨a, vs, rfl, h1, fun hw => ?_, fun _ b hb => ?_⟩
    · refine q p H _ (Ext.refl k) (.tup h1 ?_)
      unfold cutD
      rw [← r1.length] at hw
      rw [hw.1, hw.2]
      simpa using r1
    · have z := Ext.fresh (o := .tup (cutV vs lo hi)) k hb
      exact q p _ _ z (.tup (.inl (.inl upd_same)) ((r1.cut lo hi).ext k z))
  | @ref n a h1 =>
    simp only [dCut] at q
    cases h2 : m[n]? with
    | none => rw [h2] at q; exact q.elim
    | some o =>
      rw [h2] at q
      have ro := k.ob n a o h1 h2
      cases o with
      | lst xs =>
        obtain ⟨vs, hv, rv⟩ := ro
        refine sl_list pins s σ H _ v vl vu lo hi sl Q I rx hs pl pu ⟨a, vs, rfl, .inl (.inl hv), fun b hb => ?_⟩
        have z := new_lst k (rv.cut lo hi) hb
        exact q _ _ _ z.1 z.2
      | dic xs => exact q.elim
      | fdic xs => exact q.elim
      | ins _ _ => exact q.elim
      | dT _ => exact q.elim
  | non => exact q.elim
  | bl i => exact q.elim
  | int i => exact q.elim
  | str i => exact q.elim
  | fn i => exact q.elim
  | hot _ => exact q.elim
  | fro h1 r1 =>
    refine sl_list pins s σ H _ v vl vu lo hi sl Q I rx hs pl pu ⟨_, _, rfl, h1.sq, fun b hb => ?_⟩
    have z := new_lst k (r1.cut lo hi) hb
    exact q _ _ _ z.1 z.2
theorem so_cut {x : Expr} {xl xh : Option Expr} {a : ME} {lo hi : MO} {p2 : Pos} (h : SE X W x a) (hl : SO X W xl lo) (hh : SO X W xh hi) : SE X W (.Subscript x (.Slice xl xh none p2) pos) (mCut a lo hi) := pe_imp (pe_slice sl_cut h hl hh) fun σ H Q ⟨e, p, m, k, r, q⟩ => by
  refine ⟨e, p, m, k, r, ?_⟩
  unfold mCut at q
  cases h1 : a e m with
  | bad => rw [h1] at q; exact q
  | exc c m1 => rw [h1] at q; exact q
  | ok d m1 =>
    rw [h1] at q
    intro p1 H1 v e1 r1
    have q1 := GoV.step k e1 q
    refine ⟨e, p1, m1, e1.ok, r.ext k e1, ?_⟩
    change GoV _ _ _ ((lo e m1).bind _) _ _ at q1
    cases h2 : lo e m1 with
    | bad => rw [h2] at q1; exact q1
    | exc c m2 => rw [h2] at q1; exact q1
    | ok l m2 =>
      rw [h2] at q1
      intro p2 H2 e2
      have q2 := GoV.step e1.ok e2 q1
      refine ⟨e, p2, m2, e2.ok, (r.ext k e1).ext e1.ok e2, ?_⟩
      change GoV _ _ _ ((hi e m2).bind _) _ _ at q2
      cases h3 : hi e m2 with
      | bad => rw [h3] at q2; exact q2
      | exc c m2 => rw [h3] at q2; exact q2
      | ok u m3 =>
        rw [h3] at q2
        intro p3 H3 e3
        exact ⟨p3, m3, d, e3.ok, (r1.ext e1.ok e2).ext e2.ok e3, GoV.calm (GoV.step e2.ok e3 q2)⟩
end
end Mi
namespace Mi
open PySem PySem.Spec PyProof.Rows L2 Classical
section
variable {X : Cx} {W : WX} {pos : Pos} {tg : Expr}

/-! ### built-in calls -/
theorem so_cb {id : String} {x : Str} {pf : Pos} {xa : Expr} {xs : List Expr} {f : List D → M D} {a : MA} (hc : CallR X (.builtin id) (rdC (gx X) f)) (hg : Gl X x) (hm : X.mg x = none) (hv : bootBuiltins x = some (.builtin id)) (ha : SA X W (xa :: xs) a)
    (h : PE X (.Call (.Name x pf) (xa :: xs) [] pos) (tCB (rdC (gx X) f) (rdA (gx X) W a))) : SE X W (.Call (.Name x pf) (xa :: xs) [] pos) (mCB f a) := so_args h
def dLen (ds : List D) (m : Mem) : R D := match ds with
  | [.str x] => if x.length ≤ 1000000 then .ok (.int x.length) m else .bad
  | [.tup xs] => .ok (.int xs.length) m
  | [.fro xs] => .ok (.int xs.length) m
  | [.ref n] => match m[n]? with
    | some (.lst xs) => .ok (.int xs.length) m
    | some (.dic xs) => .ok (.int xs.length) m
    | _ => .bad
  | _ => .bad
theorem cd_len : CallR X (.builtin "len") (rdC (gx X) dLen) := by
  intro pins s σ H xs us Q I r hq
  obtain ⟨p, m, ds, k, rd, q⟩ := hq
  cases rd with
  | nil => exact q.elim
  | cons r1 r2 =>
    cases r2 with
    | cons _ _ =>
      unfold dLen at q
      split at q <;> rename_i h <;> first | exact q.elim | (cases h)
    | nil =>
      cases r1 with
      | str x =>
        change GoV _ _ _ (if x.length ≤ 1000000 then _ else _) _ _ at q
        split at q
        · rename_i hl
          exact call_len pins s σ H _ us Q I r ⟨.str x, x.length, rfl, ⟨szle hl, rfl⟩, q p H _ (Ext.refl k) (.int _)⟩
        · exact q.elim
      | @tup a vs es h1 r1 => exact call_len pins s σ H _ us Q I r ⟨.ref a, vs.length, rfl, .inr ⟨vs, h1, rfl⟩, by rw [← r1.length]; exact q p H _ (Ext.refl k) (.int _)⟩
      | @ref n a h1 =>
        simp only [dLen] at q
        cases h2 : m[n]? with
        | none => rw [h2] at q; exact q.elim
        | some o =>
          rw [h2] at q
          have ro := k.ob n a o h1 h2
          cases o with
          | lst xs =>
            obtain ⟨vs, hv, rv⟩ := ro
            exact call_len pins s σ H _ us Q I r ⟨.ref a, vs.length, rfl, .inl ⟨vs, .inl (.inl hv), rfl⟩, by rw [← rv.length]; exact q p H _ (Ext.refl k) (.int _)⟩
          | dic xs =>
            obtain ⟨vs, hv, e1, rv⟩ := ro
            have e := rv.length
            rw [List.length_map, List.length_map] at e
            obtain ⟨u, rfl, ru⟩ := vals1 r
            cases ru
            refine d_len I (.inl hv) fun t s' I' => ⟨.int vs.length, H, I', ⟨t, rfl⟩, ?_⟩
            rw [← e]
            exact q p H _ (Ext.refl k) (.int _)
          | fdic xs => exact q.elim
          | ins _ _ => exact q.elim
          | dT _ => exact q.elim
      | non => exact q.elim
      | bl i => exact q.elim
      | int i => exact q.elim
      | fn i => exact q.elim
      | fro h1 r1 => exact call_len pins s σ H _ us Q I r ⟨_, _, rfl, .inl ⟨_, h1.sq, rfl⟩, by rw [← r1.length]; exact q p H _ (Ext.refl k) (.int _)⟩
      | hot _ => exact q.elim
def kD : Key → D
  | .inl i => .int i
  | .inr x => .str x
theorem RD.key {g : Gx} {p : List Addr} {H : Hp} (k : Key) : RD g p H (kD k) (kV k) := by
  cases k with
  | inl i => exact .int i
  | inr x => exact .str x
theorem RDs.keys {g : Gx} {p : List Addr} {H : Hp} {κ : Type} (f : κ → Key) : ∀ (ks : List κ), RDs g p H (ks.map fun k => kD (f k)) (ks.map fun k => kV (f k))
  | [] => .nil
  | k :: ks => .cons (.key (f k)) (RDs.keys f ks)
def dList (ds : List D) (m : Mem) : R D := match ds with
  | [d] => match seqOf d m with
    | some xs => .ok (.ref m.length) (m ++ [.lst xs])
    | none => match d with
      | .ref n => match m[n]? with
        | some (.dic kvs) => .ok (.ref m.length) (m ++ [.lst (kvs.map fun kv => kD kv.1)])
        | _ => .bad
      | _ => .bad
  | _ => .bad
theorem cd_list (hc : X.calm = true) : CallR X (.type "list") (rdC (gx X) dList) := by
  intro pins s σ H xs us Q I r hq
  obtain ⟨p, m, ds, k, rd, q⟩ := hq
  cases rd with
  | nil => exact q.elim
  | @cons d v ds vs r1 r2 =>
    cases r2 with
    | cons _ _ => exact q.elim
    | nil =>
      simp only [dList] at q
      cases h1 : seqOf d m with
      | some ys =>
        rw [h1] at q
        obtain ⟨a, vs, rfl, hs, rv⟩ := seq_of k r1 h1
        refine call_list_of pins s σ H _ us Q I r ⟨a, vs, rfl, hs, fun l hl => ?_⟩
        have z := new_lst k rv hl
        exact q _ _ _ z.1 z.2
      | none =>
        rw [h1] at q
        cases r1 with
        | @ref n a h2 =>
          simp only at q
          cases h3 : m[n]? with
          | none => rw [h3] at q; exact q.elim
          | some o =>
            rw [h3] at q
            cases o with
            | lst _ => exact q.elim
            | fdic _ => exact q.elim
            | ins _ _ => exact q.elim
            | dT _ => exact q.elim
            | dic kvs =>
              obtain ⟨vs, hv, e1, rv⟩ := k.ob n a _ h2 h3
              refine call_list_dK hc pins s σ H _ us Q I r ⟨a, vs, rfl, hv, fun l hl => ?_⟩
              have e2 : (vs.map fun kv => kV kv.1) = (kvs.map fun kv => kV kv.1) := by
                have := congrArg (List.map kV) e1
                simpa [List.map_map, Function.comp_def] using this
              rw [e2]
              have z := new_lst k (RDs.keys (fun kv : Key × D => kv.1) kvs) hl
              exact q _ _ _ z.1 z.2
        | _ => exact q.elim
def dTuple (ds : List D) (m : Mem) : R D := match ds with
  | [d] => match seqOf d m with
    | some xs => .ok (.tup xs) m
    | none => .bad
  | _ => .bad
theorem cd_tuple : CallR X (.type "tuple") (rdC (gx X) dTuple) := by
  intro pins s σ H xs us Q I r hq
  obtain ⟨p, m, ds, k, rd, q⟩ := hq
  cases rd with
  | nil => exact q.elim
  | @cons d v ds vs r1 r2 =>
    cases r2 with
    | cons _ _ => exact q.elim
    | nil =>
      simp only [dTuple] at q
      cases h1 : seqOf d m with
      | none => rw [h1] at q; exact q.elim
      | some ys =>
        rw [h1] at q
        obtain ⟨a, vs, rfl, hs, rv⟩ := seq_of k r1 h1
        rcases hs with hs | hs
        · refine call_tuple_of pins s σ H _ us Q I r ⟨a, vs, rfl, .inl ⟨hs, fun l hl => ?_⟩⟩
          have z := Ext.fresh (o := .tup vs) k hl
          exact q p _ _ z (.tup (.inl (.inl upd_same)) (rv.ext k z))
        · exact call_tuple_of pins s σ H _ us Q I r ⟨a, vs, rfl, .inr ⟨hs, q p H _ (Ext.refl k) (.tup hs rv)⟩⟩
def dInt (ds : List D) (m : Mem) : R D := match ds with
  | [.int i] => .ok (.int i) m
  | [.bl b] => .ok (.int (if b then 1 else 0)) m
  | _ => .bad
theorem cd_int : CallR X (.type "int") (rdC (gx X) dInt) := by
  intro pins s σ H xs us Q I r hq
  obtain ⟨p, m, ds, k, rd, q⟩ := hq
  unfold dInt at q
  split at q
  · rename_i i
    cases rd with
    | cons r1 r2 => cases r1; cases r2; exact call_int1 pins s σ H _ us Q I r (.inl ⟨i, rfl, q p H _ (Ext.refl k) (.int _)⟩)
  · rename_i i
    cases rd with
    | cons r1 r2 => cases r1; cases r2; exact call_int1 pins s σ H _ us Q I r (.inr ⟨i, rfl, q p H _ (Ext.refl k) (.int _)⟩)
  · exact q.elim
def dMax2 (ds : List D) (m : Mem) : R D := match ds with
  | [.int i, .int j] => .ok (.int (if j > i then j else i)) m
  | _ => .bad
def dMin2 (ds : List D) (m : Mem) : R D := match ds with
  | [.int i, .int j] => .ok (.int (if j < i then j else i)) m
  | _ => .bad
theorem cd_max2 (hc : X.calm = true) : CallR X (.builtin "max") (rdC (gx X) dMax2) := by
  intro pins s σ H xs us Q I r hq
  obtain ⟨p, m, ds, k, rd, q⟩ := hq
  unfold dMax2 at q
  split at q
  · rename_i i j
    cases rd with
    | cons r1 r2 => cases r2 with
      | cons r2 r3 => cases r1; cases r2; cases r3; exact call_max2 hc pins s σ H _ us Q I r ⟨i, j, rfl, q p H _ (Ext.refl k) (.int _)⟩
  · exact q.elim
theorem cd_min2 (hc : X.calm = true) : CallR X (.builtin "min") (rdC (gx X) dMin2) := by
  intro pins s σ H xs us Q I r hq
  obtain ⟨p, m, ds, k, rd, q⟩ := hq
  unfold dMin2 at q
  split at q
  · rename_i i j
    cases rd with
    | cons r1 r2 => cases r2 with
      | cons r2 r3 => cases r1; cases r2; cases r3; exact call_min2 hc pins s σ H _ us Q I r ⟨i, j, rfl, q p H _ (Ext.refl k) (.int _)⟩
  · exact q.elim
def intsOf : List D → Option (List Int)
  | [] => some []
  | .int i :: ds => (intsOf ds).map (i :: ·)
  | _ => none
theorem intsOf_eq : ∀ {ds : List D} {ns : List Int}, intsOf ds = some ns → ds = ns.map D.int
  | [], _, h => by cases h; rfl
  | .int i :: ds, ns, h => by
    simp only [intsOf, Option.map_eq_some_iff] at h
    obtain ⟨ms, h1, rfl⟩ := h
    rw [intsOf_eq h1]
    rfl
  | .non :: _, _, h => by cases h
  | .bl _ :: _, _, h => by cases h
  | .str _ :: _, _, h => by cases h
  | .tup _ :: _, _, h => by cases h
  | .ref _ :: _, _, h => by cases h
  | .fn _ :: _, _, h => by cases h
  | .fro _ :: _, _, h => by cases h
theorem intsOf_map (ns : List Int) : intsOf (ns.map D.int) = some ns := by
  induction ns with
  | nil => rfl
  | cons i ns ih => simp [intsOf, ih]
def blsOf : List D → Option (List Bool)
  | [] => some []
  | .bl i :: ds => (blsOf ds).map (i :: ·)
  | _ => none
theorem blsOf_eq : ∀ {ds : List D} {ns : List Bool}, blsOf ds = some ns → ds = ns.map D.bl
  | [], _, h => by cases h; rfl
  | .bl i :: ds, ns, h => by
    simp only [blsOf, Option.map_eq_some_iff] at h
    obtain ⟨ms, h1, rfl⟩ := h
    rw [blsOf_eq h1]
    rfl
  | .non :: _, _, h => by cases h
  | .int _ :: _, _, h => by cases h
  | .str _ :: _, _, h => by cases h
  | .tup _ :: _, _, h => by cases h
  | .ref _ :: _, _, h => by cases h
  | .fn _ :: _, _, h => by cases h
  | .fro _ :: _, _, h => by cases h
theorem blsOf_map (ns : List Bool) : blsOf (ns.map D.bl) = some ns := by
  induction ns with
  | nil => rfl
  | cons i ns ih => simp [blsOf, ih]
def lstOf (d : D) (m : Mem) : Option (List D) := match d with
  | .ref n => match m[n]? with
    | some (.lst xs) => some xs
    | _ => none
  | .fro xs => some xs
  | _ => none
theorem lst_of {g : Gx} {p : List Addr} {m : Mem} {H : Hp} {d : D} {v : V} {ds : List D} (k : Ok g p m H) (r : RD g p H d v) (h : lstOf d m = some ds) : ∃ a vs, v = .ref a ∧ SqL g.K H a vs ∧ RDs g p H ds vs := by
  cases r with
  | @ref n a h1 =>
    simp only [lstOf] at h
    split at h
    · rename_i xs e1
      cases h
      obtain ⟨vs, hv, rv⟩ := k.ob n a _ h1 e1
      exact ⟨a, vs, rfl, .inl (.inl hv), rv⟩
    · cases h
  | fro h1 r1 => cases h; exact ⟨_, _, rfl, h1.sq, r1⟩
  | _ => cases h
/-- a built-in of one list of ints -/
def dInts (f : List Int → Mem → R D) (ds : List D) (m : Mem) : R D := match ds with
  | [d] => match lstOf d m with
    | some xs => match intsOf xs with
      | some ns => f ns m
      | none => .bad
    | none => .bad
  | _ => .bad
theorem cd_ints {id : Value} {f : List Int → Mem → R D} {r : List V → Hp → VK → Prop} (h : CallR X id r) (hf : ∀ a ns H p m Q, SqL X.K H a (ns.map V.int) → Ok (gx X) p m H → GoV (gx X) p H (f ns m) Q (fun _ _ _ => False) → r [.ref a] H Q) : CallR X id (rdC (gx X) (dInts f)) := by
  intro pins s σ H xs us Q I rr hq
  obtain ⟨p, m, ds, k, rd, q⟩ := hq
  cases rd with
  | nil => exact q.elim
  | @cons d v ds vs r1 r2 =>
    cases r2 with
    | cons _ _ => exact q.elim
    | nil =>
      simp only [dInts] at q
      cases h1 : lstOf d m with
      | none => rw [h1] at q; exact q.elim
      | some ys =>
        rw [h1] at q
        simp only at q
        cases h2 : intsOf ys with
        | none => rw [h2] at q; exact q.elim
        | some ns =>
          rw [h2] at q
          obtain ⟨a, vs, rfl, hs, rv⟩ := lst_of k r1 h1
          rw [intsOf_eq h2] at rv
          rw [rv.ints_eq] at hs
          exact h pins s σ H _ us Q I rr (hf a ns H p m Q hs k q)
def listMax : List Int → Int
  | [] => 0
  | [x] => x
  | x :: y :: r => if x ≤ listMax (y :: r) then listMax (y :: r) else x
theorem listMax_mem : ∀ (ns : List Int), ns ≠ [] → listMax ns ∈ ns
  | [], h => absurd rfl h
  | [x], _ => by simp [listMax]
  | x :: y :: r, _ => by
    unfold listMax
    split
    · exact List.mem_cons_of_mem _ (listMax_mem (y :: r) (by simp))
    · simp
theorem listMax_le : ∀ (ns : List Int) (x : Int), x ∈ ns → x ≤ listMax ns
  | [x], z, h => by simp at h; subst h; exact Int.le_refl _
  | x :: y :: r, z, h => by
    unfold listMax
    rcases List.mem_cons.mp h with h | h
    · subst h
      split <;> omega
    · have := listMax_le (y :: r) z h
      split <;> omega
def listMin (ns : List Int) : Int := -listMax (ns.map (- ·))
def dMax1 : List D → M D := dInts fun ns m => if ns = [] then .bad else .ok (.int (listMax ns)) m
theorem cd_max1 (hc : X.calm = true) : CallR X (.builtin "max") (rdC (gx X) dMax1) := cd_ints (cr_max hc) fun a ns H p m Q hs k q => by
  split at q
  · exact q.elim
  · rename_i hne
    refine ⟨a, ns, rfl, hs, by cases ns with | nil => exact absurd rfl hne | cons => simp, fun x hx hle => ?_⟩
    have e : x = listMax ns := Int.le_antisymm (listMax_le ns x hx) (hle _ (listMax_mem ns hne))
    rw [e]
    exact q p H _ (Ext.refl k) (.int _)
def dSum1 : List D → M D := dInts fun ns m => .ok (.int ns.sum) m
theorem cd_sum1 (hc : X.calm = true) : CallR X (.builtin "sum") (rdC (gx X) dSum1) := cd_ints (cr_sum hc) fun a ns H p m Q hs k q => ⟨a, ns, rfl, hs, q p H _ (Ext.refl k) (.int _)⟩
def isort (ns : List Int) : List Int := ns.mergeSort (fun a b => decide (a ≤ b))
theorem isort_perm (ns : List Int) : (isort ns).Perm ns := List.mergeSort_perm ns _
theorem isort_sorted (ns : List Int) : (isort ns).Pairwise (· ≤ ·) := by
  have h := List.pairwise_mergeSort (le := fun a b : Int => decide (a ≤ b)) (fun a b c h1 h2 => by simp at *; omega) (fun a b => by simp; omega) ns
  exact h.imp fun h => by simpa using h
theorem isort_uniq {ns ms : List Int} (h : ms.Perm ns) (hs : ms.Pairwise (· ≤ ·)) : ms = isort ns := PySem.W.ksm_same (h.trans (isort_perm ns).symm) hs (isort_sorted ns)
/-- sorted of a list of ints, of a dict whose keys are ints -/
def dSorted (ds : List D) (m : Mem) : R D := match ds with
  | [d] => match lstOf d m with
    | some xs => match intsOf xs with
      | some ns => if ns.length < 64 then .ok (.ref m.length) (m ++ [.lst ((isort ns).map D.int)]) else .bad
      | none => .bad
    | none => match d with
      | .ref n => match m[n]? with
        | some (.dic kvs) => match intsOf (kvs.map fun kv => kD kv.1) with
          | some ns => if ns.length < 64 then .ok (.ref m.length) (m ++ [.lst ((isort ns).map D.int)]) else .bad
          | none => .bad
        | _ => .bad
      | _ => .bad
  | _ => .bad
theorem keys_ints : ∀ (ks : List Key) (ns : List Int), intsOf (ks.map kD) = some ns → ks = ns.map Sum.inl
  | [], ns, h => by cases h; rfl
  | .inl i :: ks, ns, h => by
    simp only [List.map_cons, kD, intsOf, Option.map_eq_some_iff] at h
    obtain ⟨ms, h1, rfl⟩ := h
    rw [keys_ints ks ms h1]
    rfl
  | .inr x :: ks, ns, h => by cases h
theorem cd_sorted (hc : X.calm = true) : CallR X (.builtin "sorted") (rdC (gx X) dSorted) := by
  intro pins s σ H xs us Q I r hq
  obtain ⟨p, m, ds, k, rd, q⟩ := hq
  cases rd with
  | nil => exact q.elim
  | @cons d v ds vs r1 r2 =>
    cases r2 with
    | cons _ _ => exact q.elim
    | nil =>
      simp only [dSorted] at q
      cases h1 : lstOf d m with
      | some ys =>
        rw [h1] at q
        simp only at q
        cases h2 : intsOf ys with
        | none => rw [h2] at q; exact q.elim
        | some ns =>
          rw [h2] at q
          simp only at q
          split at q
          · rename_i hl
            obtain ⟨a, vs, rfl, hs, rv⟩ := lst_of k r1 h1
            rw [intsOf_eq h2] at rv
            rw [rv.ints_eq] at hs
            refine cr_sorted pins s σ H _ us Q I r ⟨a, ns, rfl, hs, hl, fun ns' c hp hst hc' => ?_⟩
            rw [isort_uniq hp hst]
            have z := new_lst k (RDs.ints (isort ns)) hc'
            exact q _ _ _ z.1 z.2
          · exact q.elim
      | none =>
        rw [h1] at q
        cases r1 with
        | @ref n a h2 =>
          simp only at q
          cases h3 : m[n]? with
          | none => rw [h3] at q; exact q.elim
          | some o =>
            rw [h3] at q
            cases o with
            | lst _ => exact q.elim
            | fdic _ => exact q.elim
            | ins _ _ => exact q.elim
            | dT _ => exact q.elim
            | dic kvs =>
              simp only at q
              obtain ⟨vs, hv, e1, rv⟩ := k.ob n a _ h2 h3
              cases h4 : intsOf (kvs.map fun kv => kD kv.1) with
              | none => rw [h4] at q; exact q.elim
              | some ns =>
                rw [h4] at q
                simp only at q
                split at q
                · rename_i hl
                  have hk : kvs.map (·.1) = ns.map Sum.inl := keys_ints _ _ (by rw [List.map_map]; exact h4)
                  refine call_sortedDI hc pins s σ H _ us Q I r ⟨a, vs, ns, rfl, .inl hv, by rw [e1]; exact hk, hl, fun ns' c hp hst hc' => ?_⟩
                  rw [isort_uniq hp hst]
                  have z := new_lst k (RDs.ints (isort ns)) hc'
                  exact q _ _ _ z.1 z.2
                · exact q.elim
        | _ => exact q.elim
def dAll (ds : List D) (m : Mem) : R D := match ds with
  | [d] => match lstOf d m with
    | some xs => match blsOf xs with
      | some bs => .ok (.bl (bs.all id)) m
      | none => .bad
    | none => .bad
  | _ => .bad
theorem cd_all (hc : X.calm = true) : CallR X (.builtin "all") (rdC (gx X) dAll) := by
  intro pins s σ H xs us Q I r hq
  obtain ⟨p, m, ds, k, rd, q⟩ := hq
  cases rd with
  | nil => exact q.elim
  | @cons d v ds vs r1 r2 =>
    cases r2 with
    | cons _ _ => exact q.elim
    | nil =>
      simp only [dAll] at q
      cases h1 : lstOf d m with
      | none => rw [h1] at q; exact q.elim
      | some ys =>
        rw [h1] at q
        simp only at q
        cases h2 : blsOf ys with
        | none => rw [h2] at q; exact q.elim
        | some ns =>
          rw [h2] at q
          obtain ⟨a, vs, rfl, hs, rv⟩ := lst_of k r1 h1
          rw [blsOf_eq h2] at rv
          rw [rv.bls_eq] at hs
          exact cr_all hc pins s σ H _ us Q I r ⟨a, ns, rfl, hs, q p H _ (Ext.refl k) (.bl _)⟩
/-! isinstance, of built-in classes -/
def tyD (d : D) (m : Mem) : Option String := match d with
  | .non => some "NoneType"
  | .bl _ => some "bool"
  | .int _ => some "int"
  | .str _ => some "str"
  | .tup _ => some "tuple"
  | .ref n => match m[n]? with
    | some (.lst _) => some "list"
    | some (.dic _) => some "dict"
    | _ => none
  | .fn _ => none
  | .fro _ => some "list"
  | .hot _ => none
def tys : List String := ["NoneType", "bool", "int", "str", "tuple", "list", "dict"]
def isiB (t c : String) : Bool := t == c || (t == "bool" && c == "int")
theorem kit_all : ∀ t ∈ tys, ∀ c ∈ ["bool", "int", "str", "tuple", "list", "dict"], kitB t c = some (isiB t c) := by decide +kernel
theorem tyD_mem {d : D} {m : Mem} {t : String} (h : tyD d m = some t) : t ∈ tys := by
  cases d with
  | non => cases h; decide
  | bl _ => cases h; decide
  | int _ => cases h; decide
  | str _ => cases h; decide
  | tup _ => cases h; decide
  | fn _ => cases h
  | fro _ => cases h; decide
  | hot _ => cases h
  | ref n =>
    simp only [tyD] at h
    split at h <;> cases h <;> decide
theorem tyD_of {g : Gx} {p : List Addr} {m : Mem} {H : Hp} {d : D} {v : V} {t : String} (k : Ok g p m H) (r : RD g p H d v) (h : tyD d m = some t) : TyX g.K H v (.type t) := by
  cases r with
  | non => cases h; exact .base .non
  | bl b => cases h; exact .base (.bl b)
  | int b => cases h; exact .base (.int b)
  | str b => cases h; exact .base (.str b)
  | fn _ => cases h
  | hot _ => cases h
  | fro h1 r1 =>
    cases h
    rcases h1 with ⟨o, h1⟩ | h1
    · exact .base (.frz h1)
    · rcases h1 with (h1 | ⟨o, h1⟩) | ⟨o, its, n, h1, h2, _⟩
      · cases h1
      · cases h1
      · exact .kList h1 h2
  | @tup a vs ds h1 r1 =>
    cases h
    rcases h1 with (h1 | ⟨o, h1⟩) | ⟨o, its, n, h1, h2, _⟩
    · exact .base (.tup h1)
    · exact .fTuple h1
    · exact .kTuple h1 h2
  | @ref n a h1 =>
    simp only [tyD] at h
    split at h
    · rename_i xs e1
      cases h
      obtain ⟨vs, hv, _⟩ := k.ob n a _ h1 e1
      exact .base (.lst hv)
    · rename_i xs e1
      cases h
      obtain ⟨vs, hv, _⟩ := k.ob n a _ h1 e1
      exact .base (.dK hv)
    · cases h
def dIsi (cs : List String) (d : D) (m : Mem) : R D := match tyD d m with
  | some t => .ok (.bl (cs.any fun c => isiB t c)) m
  | none => .bad
def mIsi (cs : List String) (a : ME) : ME := fun e m => (a e m).bind fun d m1 => dIsi cs d m1
theorem so_isi {xa : Expr} {a : ME} {c : Str} {cn : String} {pf p2 : Pos} (ha : SE X W xa a) (hg : Gl X "isinstance") (hm : X.mg "isinstance" = none) (hg2 : Gl X c) (hm2 : X.mg c = none) (hv : bootBuiltins c = some (.type cn)) (hc : cn ∈ ["bool", "int", "str", "tuple", "list", "dict"]) (hn : c ≠ "__name__") (hd : (c == ("__debug__" : Str)) = false)
    (hs1 : starEach [xa, .Name c p2] X.env = (false, eval xa X.env) :: starEach [.Name c p2] X.env := by rfl) (hs2 : starEach [.Name c p2] X.env = (false, eval (.Name c p2) X.env) :: starEach [] X.env := by rfl) (hpl : (backTo pos (starEach [.Name c p2] X.env)).any (·.1) = false := by rfl) : SE X W (.Call (.Name "isinstance" pf) [xa, .Name c p2] [] pos) (mIsi [cn] a) := by
  refine pe_imp (pe_callB call_isi hg hm (by decide +kernel) (pa_cons ha (pa_cons (pe_bltn (v := .ty cn) hg2 hm2 hv rfl hn hd) pa_nil hs2) hs1) (by decide) (by decide) hs1 hpl) fun σ H Q ⟨e, p, m, k, r, q⟩ => ?_
  refine ⟨e, p, m, k, r, ?_⟩
  unfold mIsi at q
  cases h1 : a e m with
  | bad => rw [h1] at q; exact q
  | exc c m1 => rw [h1] at q; exact q
  | ok d m1 =>
    rw [h1] at q
    intro p1 H1 v e1 r1
    have q1 := GoV.step k e1 q
    change GoV _ _ _ (dIsi [cn] d m1) _ _ at q1
    unfold dIsi at q1
    split at q1
    · rename_i t ht
      refine ⟨v, .ty cn, .type t, .type cn, isiB t cn, rfl, .ty cn, tyD_of e1.ok r1 ht, kit_ty (kit_all t (tyD_mem ht) cn hc), ?_⟩
      have z : ([cn].any fun c => isiB t c) = isiB t cn := by simp
      rw [z] at q1
      exact q1 p1 H1 _ (Ext.refl e1.ok) (.bl _)
    · exact q1.elim
theorem so_isi2 {xa : Expr} {a : ME} {c c' : Str} {cn cn' : String} {pf p2 p3 p4 : Pos} {kt : Nat} (ha : SE X W xa a) (hg : Gl X "isinstance") (hm : X.mg "isinstance" = none) (hg2 : Gl X c) (hm2 : X.mg c = none) (hv : bootBuiltins c = some (.type cn)) (hc : cn ∈ ["bool", "int", "str", "tuple", "list", "dict"]) (hn : c ≠ "__name__") (hd : (c == ("__debug__" : Str)) = false)
    (hg3 : Gl X c') (hm3 : X.mg c' = none) (hv3 : bootBuiltins c' = some (.type cn')) (hc3 : cn' ∈ ["bool", "int", "str", "tuple", "list", "dict"]) (hn3 : c' ≠ "__name__") (hd3 : (c' == ("__debug__" : Str)) = false)
    (hs1 : starEach [xa, .Tuple [.Name c p2, .Name c' p3] kt p4] X.env = (false, eval xa X.env) :: starEach [.Tuple [.Name c p2, .Name c' p3] kt p4] X.env := by rfl) (hs2 : starEach [.Tuple [.Name c p2, .Name c' p3] kt p4] X.env = (false, eval (.Tuple [.Name c p2, .Name c' p3] kt p4) X.env) :: starEach [] X.env := by rfl)
    (hs3 : starEach [.Name c p2, .Name c' p3] X.env = (false, eval (.Name c p2) X.env) :: starEach [.Name c' p3] X.env := by rfl) (hs4 : starEach [.Name c' p3] X.env = (false, eval (.Name c' p3) X.env) :: starEach [] X.env := by rfl) (hpl : (backTo pos (starEach [.Tuple [.Name c p2, .Name c' p3] kt p4] X.env)).any (·.1) = false := by rfl) :
    SE X W (.Call (.Name "isinstance" pf) [xa, .Tuple [.Name c p2, .Name c' p3] kt p4] [] pos) (mIsi [cn, cn'] a) := by
  refine pe_imp (pe_callB call_isiT hg hm (by decide +kernel) (pa_cons ha (pa_cons (pe_tup (pa_cons (pe_bltn (v := .ty cn) hg2 hm2 hv rfl hn hd) (pa_cons (pe_bltn (v := .ty cn') hg3 hm3 hv3 rfl hn3 hd3) pa_nil hs4) hs3)) pa_nil hs2) hs1) (by decide) (by decide) hs1 hpl) fun σ H Q ⟨e, p, m, k, r, q⟩ => ?_
  refine ⟨e, p, m, k, r, ?_⟩
  unfold mIsi at q
  cases h1 : a e m with
  | bad => rw [h1] at q; exact q
  | exc c m1 => rw [h1] at q; exact q
  | ok d m1 =>
    rw [h1] at q
    intro p1 H1 v e1 r1
    refine ⟨by show 2 ≤ sizeLine; decide, fun b hb => ?_⟩
    have x2 := Ext.fresh (o := .tup [.ty cn, .ty cn']) e1.ok hb
    have q1 := GoV.step k (e1.trans k x2) q
    change GoV _ _ _ (dIsi [cn, cn'] d m1) _ _ at q1
    unfold dIsi at q1
    split at q1
    · rename_i t ht
      refine ⟨v, b, [.ty cn, .ty cn'], .type t, [.type cn, .type cn'], isiB t cn || isiB t cn', rfl, upd_same, .cons (.ty cn) (.cons (.ty cn') .nil), tyD_of x2.ok (r1.ext e1.ok x2) ht, ?_, ?_⟩
      · have k1 : PySem.W.kitOne X.K (.type t) (.type cn) = some (isiB t cn) := kit_ty (kit_all t (tyD_mem ht) cn hc)
        have k2 : PySem.W.kitOne X.K (.type t) (.type cn') = some (isiB t cn') := kit_ty (kit_all t (tyD_mem ht) cn' hc3)
        cases h3 : isiB t cn with
        | true => exact kitAny_cons (b := true) (by rw [← h3]; exact k1) (fun z => nomatch z) (fun _ => rfl)
        | false =>
          refine kitAny_cons (b := false) (by rw [← h3]; exact k1) (fun _ => ?_) (fun z => nomatch z)
          cases h4 : isiB t cn' with
          | true => exact kitAny_cons (b := true) (by rw [← h4]; exact k2) (fun z => nomatch z) (fun _ => rfl)
          | false => exact kitAny_cons (b := false) (by rw [← h4]; exact k2) (fun _ => rfl) (fun z => nomatch z)
      · have z : ([cn, cn'].any fun c => isiB t c) = (isiB t cn || isiB t cn') := by simp
        rw [z] at q1
        exact q1 p1 _ _ (Ext.refl x2.ok) (.bl _)
    · exact q1.elim
end
end Mi
namespace Mi
open PySem PySem.Spec PyProof.Rows L2 Classical
section
variable {X : Cx} {W : WX} {pos : Pos} {tg : Expr}

/-! ### a built-in's name, called -/
theorem so_blt {id : String} {x : Str} {pf : Pos} {xa : Expr} {xs : List Expr} {f : List D → M D} {a : MA} (hc : CallR X (.builtin id) (rdC (gx X) f)) (hg : Gl X x) (hm : X.mg x = none) (hv : bootBuiltins x = some (.builtin id)) (ha : SA X W (xa :: xs) a) (hn : x ≠ "__name__" := by decide) (hdb : (x == ("__debug__" : Str)) = false := by decide)
    (he : starEach (xa :: xs) X.env = (false, eval xa X.env) :: starEach xs X.env := by rfl) (hpl : (backTo pos (starEach xs X.env)).any (·.1) = false := by rfl) : SE X W (.Call (.Name x pf) (xa :: xs) [] pos) (mCB f a) := so_args (pe_callB hc hg hm hv ha hn hdb he hpl)
theorem so_ty {T : String} {x : Str} {pf : Pos} {xa : Expr} {xs : List Expr} {f : List D → M D} {a : MA} (hc : CallR X (.type T) (rdC (gx X) f)) (hg : Gl X x) (hm : X.mg x = none) (hv : bootBuiltins x = some (.type T)) (ha : SA X W (xa :: xs) a) (hn : x ≠ "__name__" := by decide) (hdb : (x == ("__debug__" : Str)) = false := by decide)
    (he : starEach (xa :: xs) X.env = (false, eval xa X.env) :: starEach xs X.env := by rfl) (hpl : (backTo pos (starEach xs X.env)).any (·.1) = false := by rfl) : SE X W (.Call (.Name x pf) (xa :: xs) [] pos) (mCB f a) := so_args (pe_callTy hc hg hm hv ha hn hdb he hpl)
/-- list(range(..)) -/
def mListRg (a : MA) : ME := fun e m => (a e m).bind fun ds m1 => match ds with
  | [.int j] => if 0 ≤ j ∧ j ≤ 1000000 then .ok (.ref m1.length) (m1 ++ [.lst (rgD 0 j.toNat)]) else .bad
  | _ => .bad
theorem RDs.rg {g : Gx} {p : List Addr} {H : Hp} (lo : Int) (f : Nat → Int) : ∀ (l : List Nat), RDs g p H (l.map fun i => D.int (lo + f i)) (l.map fun i => V.int (lo + f i))
  | [] => .nil
  | i :: l => .cons (.int _) (RDs.rg lo f l)
theorem so_listRg {xa : Expr} {a : MA} {pf p2 pos2 : Pos} (hc : X.calm = true) (hg : Gl X "list") (hm : X.mg "list" = none) (hg2 : Gl X "range") (hm2 : X.mg "range" = none) (h : SE X W xa b) (ha : a = mCons b mNil) (na : starEach [xa] X.env = (false, eval xa X.env) :: starEach [] X.env := by rfl)
    (nb : starEach [.Call (.Name "range" p2) [xa] [] pos2] X.env = (false, eval (.Call (.Name "range" p2) [xa] [] pos2) X.env) :: starEach [] X.env := by rfl) : SE X W (.Call (.Name "list" pf) [.Call (.Name "range" p2) [xa] [] pos2] [] pos) (mListRg a) := by
  subst ha
  refine pe_imp (pe_listRg hc hg hm (prg_1 hg2 hm2 h na) nb) fun σ H Q ⟨e, p, m, k, r, q⟩ => ?_
  refine ⟨e, p, m, k, r, ?_⟩
  unfold mListRg mCons mNil at q
  cases h1 : b e m with
  | bad => rw [h1] at q; exact q
  | exc c m1 => rw [h1] at q; exact q
  | ok d m1 =>
    rw [h1] at q
    intro p1 H1 v e1 r1
    have q1 := GoV.step k e1 q
    cases r1 with
    | int j =>
      change GoV _ _ _ (if 0 ≤ j ∧ j ≤ 1000000 then _ else _) _ _ at q1
      split at q1
      · rename_i hj
        refine ⟨j, rfl, RgOk.of_le (by omega) (by omega) (by omega) hj.1, fun c hc' => ?_⟩
        have rr : RDs (gx X) p1 H1 (rgD 0 j.toNat) (rgV 0 j) := by
          unfold rgD rgV
          rw [show (j - 0).toNat = j.toNat by omega]
          exact RDs.rg 0 (fun i => ((i : Nat) : Int)) _
        have z := new_lst e1.ok rr hc'
        exact q1 _ _ _ z.1 z.2
      · exact q1.elim
    | _ => exact q1.elim

/-! ### methods of lists -/
def mMt (f : D → List D → M D) (o : ME) (a : MA) : ME := fun e m => (o e m).bind fun d m1 => (a e m1).bind fun ds m2 => (f d ds m2).calm
def listAt (d : D) (m : Mem) : Bool := match d with
  | .fro _ => true
  | .ref n => match m[n]? with
    | some (.lst _) => true
    | _ => false
  | _ => false
def mMtL (f : D → List D → M D) (o : ME) (a : MA) : ME := fun e m => (o e m).bind fun d m1 => if listAt d m1 = true then (a e m1).bind fun ds m2 => (f d ds m2).calm else .bad
theorem listAt_ty {g : Gx} {p : List Addr} {m : Mem} {H : Hp} {d : D} {v : V} (k : Ok g p m H) (r : RD g p H d v) (h : listAt d m = true) : tyV g.K "list" v H := by
  cases r with
  | @ref n a h1 =>
    simp only [listAt] at h
    split at h
    · rename_i xs e1
      obtain ⟨vs, hv, _⟩ := k.ob n a _ h1 e1
      exact .inl ⟨rfl, vs, .inl (.inl hv)⟩
    · cases h
  | fro h1 r1 => exact .inl ⟨rfl, _, h1.sq⟩
  | _ => cases h
theorem so_mtL {xo : Expr} {xa : Expr} {xs : List Expr} {name : Str} {apos : Pos} {id : String} {f : D → List D → M D} {o : ME} {a : MA} (slot : Slot "list" name id) (hty : typeOf (.builtin id) = pure (.type "method_descriptor")) (hm : MtR X id (rdM (gx X) f)) (ho : SE X W xo o) (ha : SA X W (xa :: xs) a)
    (h : PE X (.Call (.Attribute xo name apos) (xa :: xs) [] pos) (tBM X.K "list" (rdM (gx X) f) (rdE (gx X) W o) (rdA (gx X) W a))) : SE X W (.Call (.Attribute xo name apos) (xa :: xs) [] pos) (mMtL f o a) := pe_imp h fun σ H Q ⟨e, p, m, k, r, q⟩ => by
  refine ⟨e, p, m, k, r, ?_⟩
  unfold mMtL at q
  cases h1 : o e m with
  | bad => rw [h1] at q; exact q
  | exc c m1 => rw [h1] at q; exact q
  | ok d m1 =>
    rw [h1] at q
    intro p1 H1 v e1 r1
    have q1 := GoV.step k e1 q
    change GoV _ _ _ (if listAt d m1 = true then _ else _) _ _ at q1
    split at q1
    · rename_i hl
      refine ⟨listAt_ty e1.ok r1 hl, e, p1, m1, e1.ok, r.ext k e1, ?_⟩
      cases h2 : a e m1 with
      | bad => rw [h2] at q1; exact q1
      | exc c m1 => rw [h2] at q1; exact q1
      | ok ds m2 =>
        rw [h2] at q1
        intro p2 H2 vs e2 r2
        exact ⟨p2, m2, d, ds, e2.ok, r1.ext e1.ok e2, r2, GoV.calm (GoV.step e1.ok e2 q1)⟩
    · exact q1.elim
theorem so_mtL0 {xo : Expr} {name : Str} {apos : Pos} {f : D → List D → M D} {o : ME}
    (h : PE X (.Call (.Attribute xo name apos) [] [] pos) (tBM0 X.K "list" (rdM (gx X) f) (rdE (gx X) W o))) : SE X W (.Call (.Attribute xo name apos) [] [] pos) (mMtL f o mNil) := pe_imp h fun σ H Q ⟨e, p, m, k, r, q⟩ => by
  refine ⟨e, p, m, k, r, ?_⟩
  unfold mMtL at q
  cases h1 : o e m with
  | bad => rw [h1] at q; exact q
  | exc c m1 => rw [h1] at q; exact q
  | ok d m1 =>
    rw [h1] at q
    intro p1 H1 v e1 r1
    have q1 := GoV.step k e1 q
    change GoV _ _ _ (if listAt d m1 = true then _ else _) _ _ at q1
    split at q1
    · rename_i hl
      exact ⟨listAt_ty e1.ok r1 hl, p1, m1, d, [], e1.ok, r1, .nil, GoV.calm q1⟩
    · exact q1.elim
theorem put_lst {g : Gx} {p : List Addr} {m : Mem} {H : Hp} {n : Nat} {a : Addr} {vs ws : List V} {ys : List D} (k : Ok g p m H) (hp : p[n]? = some a) (hv : H a = some (.lst vs)) (r : RDs g p H ys ws) : Ext g p H p (m.set n (.lst ys)) (upd H a (.lst ws)) :=
  Ext.put k hp hv (fun _ z => nomatch z) (fun _ _ z => nomatch z) fun H' e go => ⟨ws, e, go _ _ r⟩
def dAppend (d : D) (ds : List D) (m : Mem) : R D := match d, ds with
  | .ref n, [x] => match m[n]? with
    | some (.lst xs) => if xs.length < 1000000 then .ok .non (m.set n (.lst (xs ++ [x]))) else .bad
    | _ => .bad
  | _, _ => .bad
theorem td_append : MtR X "list.append" (rdM (gx X) dAppend) := by
  intro pins s σ H x xs v us Q I rx rxs hq
  obtain ⟨p, m, d, ds, k, rd, rds, q⟩ := hq
  unfold dAppend at q
  split at q
  · rename_i n y
    cases rd with
    | @ref _ a h1 =>
      cases rds with
      | cons r1 r2 =>
        cases r2
        split at q
        · rename_i ys e1
          split at q
          · rename_i hl
            obtain ⟨vs, hv, rv⟩ := k.ob n a _ h1 e1
            have z := put_lst k h1 hv (rv.app (.cons r1 .nil))
            exact mt_append pins s σ H _ _ v us Q I rx rxs ⟨a, vs, _, rfl, rfl, hv, szlt (by rw [← rv.length]; exact hl), q _ _ _ z .non⟩
          · exact q.elim
        · exact q.elim
  · exact q.elim
def dPopAt (d : D) (ds : List D) (m : Mem) : R D := match d, ds with
  | .ref n, [.int i] => match m[n]? with
    | some (.lst xs) => if 0 ≤ i ∧ i < 2 ^ 63 then (match xs[i.toNat]? with
      | some y => .ok y (m.set n (.lst (xs.eraseIdx i.toNat)))
      | none => .bad) else .bad
    | _ => .bad
  | _, _ => .bad
theorem td_popAt : MtR X "list.pop" (rdM (gx X) dPopAt) := by
  intro pins s σ H x xs v us Q I rx rxs hq
  obtain ⟨p, m, d, ds, k, rd, rds, q⟩ := hq
  unfold dPopAt at q
  split at q
  · rename_i n i
    cases rd with
    | @ref _ a h1 =>
      cases rds with
      | cons r1 r2 =>
        cases r2
        cases r1
        split at q
        · rename_i ys e1
          split at q
          · rename_i hi
            split at q
            · rename_i y hy
              obtain ⟨vs, hv, rv⟩ := k.ob n a _ h1 e1
              obtain ⟨w, hw, rw'⟩ := rv.get hy
              have hlt : i.toNat < vs.length := (List.getElem?_eq_some_iff.mp hw).1
              have z := put_lst k h1 hv (rv.erase i.toNat)
              refine mt_popAt pins s σ H _ _ v us Q I rx rxs ⟨a, vs, i, i.toNat, w, rfl, rfl, hv, by omega, hi.2, ?_, hw, q _ _ _ z (rw'.ext k z)⟩
              have := ixN_seq (n := vs.length) (i := i) (j := i.toNat) (by unfold ixN; rw [if_pos hi.1, if_pos (by omega)])
              exact this.1
            · exact q.elim
          · exact q.elim
        · exact q.elim
  · exact q.elim

/-! ### items stored: lists, dicts -/
def keyD : D → Option Key
  | .int i => some (.inl i)
  | .str x => some (.inr x)
  | _ => none
theorem keyD_of {g : Gx} {p : List Addr} {H : Hp} {d : D} {v : V} {k : Key} (r : RD g p H d v) (h : keyD d = some k) : v = kV k := by
  cases r with
  | int i => cases h; rfl
  | str i => cases h; rfl
  | _ => cases h
def putD (kvs : List (Key × D)) (k : Key) (v : D) : List (Key × D) := if kvs.any (fun kv => decide (kv.1 = k)) then kvs.map fun kv => if kv.1 = k then (kv.1, v) else kv else kvs ++ [(k, v)]
def dSetItem (o i d : D) (m : Mem) : R Unit := match o with
  | .ref n => match m[n]? with
    | some (.lst xs) => match i with
      | .int j => match ixN xs.length j with
        | some t => .ok () (m.set n (.lst (xs.set t d)))
        | none => .bad
      | _ => .bad
    | some (.dic kvs) => match keyD i with
      | some k => if kvs.length < 1000000 then .ok () (m.set n (.dic (putD kvs k d))) else .bad
      | none => .bad
    | _ => .bad
  | _ => .bad
def rdSet (g : Gx) : TSet := fun o i v H Q => ∃ p m d e f, Ok g p m H ∧ RD g p H d o ∧ RD g p H e i ∧ RD g p H f v ∧ match dSetItem d e f m with
  | .ok _ m' => ∀ p' H', Ext g p H p' m' H' → Q H'
  | _ => False
theorem map_fst_put (kvs : List (Key × D)) (vs : List (Key × V)) (k : Key) (d : D) (v : V) (h : vs.map (·.1) = kvs.map (·.1)) : (putK vs k v).map (·.1) = (putD kvs k d).map (·.1) := by
  unfold putK putD
  have ha : (vs.any fun kv => decide (kv.1 = k)) = (kvs.any fun kv => decide (kv.1 = k)) := by
    have e1 : (vs.any fun kv => decide (kv.1 = k)) = ((vs.map (·.1)).any fun x => decide (x = k)) := by rw [List.any_map]; rfl
    have e2 : (kvs.any fun kv => decide (kv.1 = k)) = ((kvs.map (·.1)).any fun x => decide (x = k)) := by rw [List.any_map]; rfl
    rw [e1, e2, h]
  rw [ha]
  split
  · rw [List.map_map, List.map_map]
    have f1 : ((fun x : Key × V => x.1) ∘ fun kv => if kv.1 = k then (kv.1, v) else kv) = (fun x => x.1) := by funext x; simp only [Function.comp]; split <;> rfl
    have f2 : ((fun x : Key × D => x.1) ∘ fun kv => if kv.1 = k then (kv.1, d) else kv) = (fun x => x.1) := by funext x; simp only [Function.comp]; split <;> rfl
    rw [f1, f2, h]
  · simp [h]
theorem snd_put {g : Gx} {p : List Addr} {H : Hp} (k : Key) (d : D) (v : V) (rv : RD g p H d v) (kvs : List (Key × D)) (vs : List (Key × V)) (h : vs.map (·.1) = kvs.map (·.1)) (r : RDs g p H (kvs.map (·.2)) (vs.map (·.2))) : RDs g p H ((putD kvs k d).map (·.2)) ((putK vs k v).map (·.2)) := by
  unfold putK putD
  have ha : (vs.any fun kv => decide (kv.1 = k)) = (kvs.any fun kv => decide (kv.1 = k)) := by
    have e1 : (vs.any fun kv => decide (kv.1 = k)) = ((vs.map (·.1)).any fun x => decide (x = k)) := by rw [List.any_map]; rfl
    have e2 : (kvs.any fun kv => decide (kv.1 = k)) = ((kvs.map (·.1)).any fun x => decide (x = k)) := by rw [List.any_map]; rfl
    rw [e1, e2, h]
  rw [ha]
  split
  · rename_i hh
    clear ha hh
    induction kvs generalizing vs with
    | nil => cases vs with
      | nil => exact .nil
      | cons => cases h
    | cons kv kvs ih => cases vs with
      | nil => cases h
      | cons w vs =>
        simp only [List.map_cons, List.cons.injEq] at h
        cases r with
        | cons r1 r2 =>
          simp only [List.map_cons]
          refine .cons ?_ (ih vs h.2 r2)
          rw [h.1]
          split
          · exact rv
          · exact r1
  · simp only [List.map_append, List.map_cons, List.map_nil]
    exact r.app (.cons rv .nil)
theorem ps_setItem (hu : X.A.units + 1 < cLine) : PSet X (rdSet (gx X)) := by
  intro pins s σ H o i v ov iv u Q I ro ri rv hq
  obtain ⟨p, m, d, e, f, k, rd, re, rf, q⟩ := hq
  unfold dSetItem at q
  cases rd with
  | @ref n a h1 =>
    simp only at q
    cases h2 : m[n]? with
    | none => rw [h2] at q; exact q.elim
    | some ob =>
      rw [h2] at q
      have rob := k.ob n a ob h1 h2
      cases ob with
      | lst xs =>
        obtain ⟨vs, hv, rvs⟩ := rob
        cases re with
        | int j =>
          simp only at q
          cases h3 : ixN xs.length j with
          | none => rw [h3] at q; exact q.elim
          | some t =>
            rw [h3] at q
            have z := put_lst k h1 hv (rvs.set t rf)
            exact set_list pins s σ H _ _ v ov iv u Q I ro ri rv ⟨a, vs, j, t, rfl, rfl, hv, by rw [← rvs.length]; exact h3, q _ _ z⟩
        | _ => exact q.elim
      | dic kvs =>
        obtain ⟨vs, hv, e1, rvs⟩ := rob
        simp only at q
        cases h3 : keyD e with
        | none => rw [h3] at q; exact q.elim
        | some kk =>
          rw [h3] at q
          simp only at q
          split at q
          · rename_i m' hm'
            split at hm'
            · rename_i hl
              cases hm'
              have hel := rvs.length
              rw [List.length_map, List.length_map] at hel
              rw [keyD_of re h3] at ri
              cases (show ov = Value.ref a from ro)
              have z : Ext (gx X) p H p (m.set n (.dic (putD kvs kk f))) (upd H a (.dK (putK vs kk v))) := Ext.put k h1 hv (fun _ z => nomatch z) (fun _ _ z => nomatch z) fun H' e go => ⟨_, e, map_fst_put kvs vs kk f v e1, go _ _ (snd_put kk f v rf kvs vs e1 rvs)⟩
              exact d_setItem hu I (DPut.k (k := kk) (v := v) hv (szlt (by rw [← hel]; exact hl))) ri rv fun s' I' => ⟨_, I', q _ _ z⟩
            · cases hm'
          · exact q.elim
      | fdic kvs => exact q.elim
      | ins _ _ => exact q.elim
      | dT _ => exact q.elim
  | _ => exact q.elim
def gItem (o i : ME) : MG := fun d e m => (o e m).calm.bind fun x m1 => (i e m1).calm.bind fun y m2 => match dSetItem x y d m2 with
  | .ok _ m3 => .ok e m3
  | _ => .bad
theorem sg_item {xo xi : Expr} {o i : ME} (hu : X.A.units + 1 < cLine) (ho : SE X W xo o) (hi : SE X W xi i)
    (h : PG X (.Subscript xo xi pos) (gSub (rdE (gx X) W o) (rdE (gx X) W i) (rdSet (gx X)))) : SG X W (.Subscript xo xi pos) (gItem o i) := pg_imp h fun v σ H Q ⟨d, e, p, m, k, r, rd, q⟩ => by
  refine ⟨e, p, m, k, r, ?_⟩
  unfold gItem at q
  cases h1 : o e m with
  | bad => rw [h1] at q; exact q
  | exc c m1 => rw [h1] at q; exact q.elim
  | ok x m1 =>
    rw [h1] at q
    intro p1 H1 v1 e1 r1
    refine ⟨e, p1, m1, e1.ok, r.ext k e1, ?_⟩
    change GoG _ _ _ ((i e m1).calm.bind _) _ at q
    cases h2 : i e m1 with
    | bad => rw [h2] at q; exact q
    | exc c m1 => rw [h2] at q; exact q.elim
    | ok y m2 =>
      rw [h2] at q
      intro p2 H2 v2 e2 r2
      refine ⟨p2, m2, x, y, d, e2.ok, r1.ext e1.ok e2, r2, rd.ext k (e1.trans k e2), ?_⟩
      change GoG _ _ _ (match dSetItem x y d m2 with | .ok _ m3 => .ok e m3 | _ => .bad) _ at q
      cases h3 : dSetItem x y d m2 with
      | bad => rw [h3] at q; exact q
      | exc c m1 => rw [h3] at q; exact q.elim
      | ok u m3 =>
        rw [h3] at q
        intro p3 H3 e3
        have x03 := e1.trans k (e2.trans e1.ok e3)
        exact q p3 H3 σ x03 (r.ext k x03)

/-- a thing that lay apart becomes the store's -/
theorem Ext.adopt {g : Gx} {p p2 : List Addr} {m2 : Mem} {H H2 : Hp} {L : Addr} {u0 u : HO} {o : O} (x : Ext g p H p2 m2 H2) (h0 : H L = none) (nL : L ∉ p2) (hu0 : H2 L = some u0) (hu : ∀ xs, u0 ≠ .tup xs) (hu2 : ∀ ob w, u0 ≠ .frz ob w)
    (hr : ∀ H', H' L = some u → (∀ (ds : List D) (vs : List V), RDs g p2 H2 ds vs → RDs g (p2 ++ [L]) H' ds vs) → ROb g (p2 ++ [L]) H' L o) : Ext g p H (p2 ++ [L]) (m2 ++ [o]) (upd H2 L u) := by
  have hs : ∀ {b xs}, SqT g.K H2 b xs → SqT g.K (upd H2 L u) b xs := fun {b xs} z => by
    rcases z with (z | ⟨w, z⟩) | z
    · exact .inl (.inl (by rw [upd_ne]; exact z; intro e; subst e; rw [hu0] at z; exact hu _ (Option.some.inj z)))
    · exact .inl (.inr ⟨w, by rw [upd_ne]; exact z; intro e; subst e; rw [hu0] at z; exact hu2 _ _ (Option.some.inj z)⟩)
    · exact .inr z
  have hz : ∀ {b xs}, Fz g.K H2 b xs → Fz g.K (upd H2 L u) b xs := fun {b xs} z => by
    rcases z with ⟨w, z⟩ | z
    · exact .inl ⟨w, by rw [upd_ne]; exact z; intro e; subst e; rw [hu0] at z; exact hu2 _ _ (Option.some.inj z)⟩
    · exact .inr z
  have ix : ∀ {n : Nat} {b : Addr}, p2[n]? = some b → (p2 ++ [L])[n]? = some b := fun {n b} z => by rw [List.getElem?_append_left (List.getElem?_eq_some_iff.mp z).1]; exact z
  have go : ∀ (ds : List D) (vs : List V), RDs g p2 H2 ds vs → RDs g (p2 ++ [L]) (upd H2 L u) ds vs := by
    intro ds vs rr
    exact RDs.rec (g := g) (p := p2) (H := H2) (motive_1 := fun d v _ => RD g (p2 ++ [L]) (upd H2 L u) d v) (motive_2 := fun d v _ => RDs g (p2 ++ [L]) (upd H2 L u) d v) .non .bl .int .str (fun h _ ih => .tup (hs h) ih) (fun h => .ref (ix h)) (fun h => .fn h) (fun h _ ih => .fro (hz h) ih) .hot .nil (fun _ _ i1 i2 => .cons i1 i2) rr
  obtain ⟨rr, er, hr'⟩ := x.pre
  refine ⟨⟨by simp [x.ok.len], ?_, fun n b ob z1 z2 => ?_⟩, ⟨rr ++ [L], by rw [er, List.append_assoc], fun b hb => ?_⟩, fun b w e hb => ?_, fun b o' u' e => by rw [upd_ne (ne_of_none e h0)]; exact x.sea b o' u' e⟩
  · rw [List.nodup_append]
    exact ⟨x.ok.nd, by simp, fun a ha b hb => by simp at hb; subst hb; intro z; subst z; exact nL ha⟩
  · by_cases hl : n < p2.length
    · rw [List.getElem?_append_left hl] at z1
      rw [List.getElem?_append_left (by rw [← x.ok.len]; exact hl)] at z2
      have nb : b ≠ L := fun z => by
        subst z
        exact nL (List.mem_of_getElem? z1)
      have ro := x.ok.ob n b ob z1 z2
      exact ro.mv (fun _ q => by rw [upd_ne nb]; exact q) go
    · have hz : n = p2.length := by
        have := (List.getElem?_eq_some_iff.mp z1).1
        simp at this
        omega
      subst hz
      rw [List.getElem?_append_right (Nat.le_refl _)] at z1
      simp at z1
      subst z1
      rw [List.getElem?_append_right (by rw [x.ok.len]; exact Nat.le_refl _)] at z2
      simp [x.ok.len] at z2
      subst z2
      exact hr _ upd_same go
  · rcases List.mem_append.mp hb with hb | hb
    · exact hr' b hb
    · simp at hb
      subst hb
      exact h0
  · rw [upd_ne (ne_of_none e h0)]
    exact x.fr b w e hb
/-! ### a written dict of one to fifteen pairs -/
def mPairs : List (ME × ME) → En → M (List (D × D))
  | [], _ => fun m => .ok [] m
  | (a, b) :: r, e => fun m => (a e m).bind fun x m1 => (b e m1).bind fun y m2 => (mPairs r e m2).bind fun ps m3 => .ok ((x, y) :: ps) m3
def keysD : List (D × D) → Option (List (Key × D))
  | [] => some []
  | (x, y) :: r => match keyD x, keysD r with
    | some k, some t => some ((k, y) :: t)
    | _, _ => none
def mergeD (kvs more : List (Key × D)) : List (Key × D) := more.foldl (fun acc kv => putD acc kv.1 kv.2) kvs
def mDict (ps : List (ME × ME)) : ME := fun e m => (mPairs ps e m).bind fun xs m1 => match keysD xs with
  | some kvs => if kvs.length ≤ 15 then .ok (.ref m1.length) (m1 ++ [.dic (mergeD [] kvs)]) else .bad
  | none => .bad
inductive RDps (g : Gx) (p : List Addr) (H : Hp) : List (D × D) → List (V × V) → Prop
  | nil : RDps g p H [] []
  | cons {x y : D} {v w : V} {r : List (D × D)} {s : List (V × V)} : RD g p H x v → RD g p H y w → RDps g p H r s → RDps g p H ((x, y) :: r) ((v, w) :: s)
theorem pairs_in {g : Gx} {σ : L2.St} {e : En} (p0 : List Addr) (H0 : Hp) (m0 : Mem) (k0 : Ok g p0 m0 H0) (ro : RDo g p0 H0 e σ) (E : XK) : ∀ (ps : List (ME × ME)) (p : List Addr) (m : Mem) (H : Hp) (Q : List (V × V) → Hp → Prop), Ext g p0 H0 p m H →
    (match mPairs ps e m with
      | .ok xs m' => ∀ p' H' vs, Ext g p H p' m' H' → RDps g p' H' xs vs → Q vs H'
      | .exc _ _ => False
      | .bad => False) → tPairs (ps.map fun ab => (rdE g W0 ab.1, rdE g W0 ab.2)) σ H Q
  | [], p, m, H, Q, x0, q => q p H [] (Ext.refl x0.ok) .nil
  | (a, b) :: r, p, m, H, Q, x0, q => by
    refine ⟨e, p, m, x0.ok, ro.ext k0 x0, ?_⟩
    simp only [mPairs] at q
    show GoV g p H (a e m) _ _
    cases h1 : a e m with
    | bad => rw [h1] at q; exact q
    | exc c m1 => rw [h1] at q; exact q.elim
    | ok x m1 =>
      rw [h1] at q
      intro p1 H1 v1 e1 r1
      have x1 := x0.trans k0 e1
      refine ⟨e, p1, m1, e1.ok, ro.ext k0 x1, ?_⟩
      simp only [R.bind] at q
      show GoV g p1 H1 (b e m1) _ _
      cases h2 : b e m1 with
      | bad => rw [h2] at q; exact q
      | exc c m1 => rw [h2] at q; exact q.elim
      | ok y m2 =>
        rw [h2] at q
        intro p2 H2 v2 e2 r2
        refine pairs_in p0 H0 m0 k0 ro E r p2 m2 H2 _ (x1.trans k0 e2) ?_
        simp only at q
        cases h3 : mPairs r e m2 with
        | bad => rw [h3] at q; exact q
        | exc c m1 => rw [h3] at q; exact q.elim
        | ok xs m3 =>
          rw [h3] at q
          exact fun p3 H3 vs e3 r3 => q p3 H3 _ (e1.trans x0.ok (e2.trans e1.ok e3)) (.cons (r1.ext e1.ok (e2.trans e1.ok e3)) (r2.ext e2.ok e3) r3)
theorem keys_of {g : Gx} {p : List Addr} {H : Hp} : ∀ {xs : List (D × D)} {vs : List (V × V)} {kvs : List (Key × D)}, RDps g p H xs vs → keysD xs = some kvs → ∃ ws : List (Key × V), vs = ws.map (fun kv => (kV kv.1, kv.2)) ∧ ws.map (·.1) = kvs.map (·.1) ∧ RDs g p H (kvs.map (·.2)) (ws.map (·.2))
  | [], _, _, .nil, h => by cases h; exact ⟨[], rfl, rfl, .nil⟩
  | (x, y) :: r, (v, w) :: vs, kvs, .cons r1 r2 r3, h => by
    simp only [keysD] at h
    split at h
    · rename_i k t h1 h2
      cases h
      obtain ⟨ws, e1, e2, e3⟩ := keys_of r3 h2
      refine ⟨(k, w) :: ws, ?_, by simp [e2], .cons r2 e3⟩
      rw [e1, keyD_of r1 h1]
      rfl
    · cases h
theorem merge_of {g : Gx} {p : List Addr} {H : Hp} : ∀ {more : List (Key × D)} {ws : List (Key × V)} {kvs : List (Key × D)} {vs : List (Key × V)}, ws.map (·.1) = more.map (·.1) → RDs g p H (more.map (·.2)) (ws.map (·.2)) → vs.map (·.1) = kvs.map (·.1) → RDs g p H (kvs.map (·.2)) (vs.map (·.2)) →
    (mergeK vs ws).map (·.1) = (mergeD kvs more).map (·.1) ∧ RDs g p H ((mergeD kvs more).map (·.2)) ((mergeK vs ws).map (·.2))
  | [], [], kvs, vs, _, _, h1, h2 => ⟨h1, h2⟩
  | (k, d) :: more, (k', w) :: ws, kvs, vs, e, r, h1, h2 => by
    simp only [List.map_cons, List.cons.injEq] at e
    obtain ⟨rfl, e⟩ := e
    cases r with
    | cons r1 r2 => exact merge_of (more := more) (ws := ws) (kvs := putD kvs k' d) (vs := putK vs k' w) e r2 (map_fst_put _ _ _ _ _ h1) (snd_put _ _ _ r1 _ _ h1 h2)
  | [], _ :: _, _, _, e, _, _, _ => by cases e
  | _ :: _, [], _, _, e, _, _, _ => by cases e
theorem so_dict {keys : List (Option Expr)} {values : List Expr} {ps : List (ME × ME)} (h : PPs X pos keys values (ps.map fun ab => (rdE (gx X) W0 ab.1, rdE (gx X) W0 ab.2))) (hall : keys.all (·.isSome) = true) (hl : keys.length = values.length) (h0 : keys ≠ []) (h15 : keys.length ≤ 15) : SE X W (.Dict keys values pos) (fun e m => (mDict ps e m).calm) := pe_imp (pe_disp h hall hl h0 h15) fun σ H Q ⟨e, p, m, k, r, q⟩ => by
  intro a ha
  have x0 := Ext.fresh (o := .dK []) k ha
  refine pairs_in p _ m x0.ok (r.ext k x0) (fun _ _ _ => False) ps p m _ _ (Ext.refl x0.ok) ?_
  simp only [mDict] at q
  cases h1 : mPairs ps e m with
  | bad => rw [h1] at q; exact q
  | exc c m1 => rw [h1] at q; exact q.elim
  | ok xs m1 =>
    rw [h1] at q
    intro p1 H1 vs x1 rp
    change GoV _ _ _ (match keysD xs with | some kvs => _ | none => _ : R D).calm _ _ at q
    cases h2 : keysD xs with
    | none => rw [h2] at q; exact q.elim
    | some kvs =>
      rw [h2] at q
      simp only at q
      split at q
      · rename_i hl
        obtain ⟨ws, e1, e2, e3⟩ := keys_of rp h2
        have hap : a ∉ p1 := fun z => by
          obtain ⟨rr, er, hr⟩ := x1.pre
          rw [er] at z
          rcases List.mem_append.mp z with z | z
          · exact k.there z ha
          · have := hr a z
            rw [upd_same] at this
            cases this
        have hna : a ∉ p := fun z => k.there z ha
        have eA : H1 a = some (.dK []) := x1.fr a _ upd_same hna
        have hlw : ws.length ≤ 15 := by
          have := congrArg List.length e2
          rw [List.length_map, List.length_map] at this
          omega
        refine ⟨eA, ws, e1, hlw, ?_⟩
        have hx : Ext (gx X) p H p1 m1 H1 := x0.trans k x1
        refine q (p1 ++ [a]) _ (.ref a) (Ext.adopt (u := .dK (mergeK [] ws)) (o := .dic (mergeD [] kvs)) hx ha hap eA (fun _ z => nomatch z) (fun _ _ z => nomatch z) fun H' e' go => ?_) (.ref ?_)
        · obtain ⟨g1, g2⟩ := merge_of (kvs := []) (vs := []) e2 (go _ _ e3) rfl .nil
          exact ⟨_, e', g1, g2⟩
        · rw [← x1.ok.len, List.getElem?_append_right (Nat.le_refl _)]
          simp
      · exact q.elim
end
end Mi
namespace Mi
open PySem PySem.Spec PyProof.Rows L2 Classical
section
variable {X : Cx} {W : WX} {pos : Pos} {tg : Expr}

/-! ### zip and enumerate -/
def zipD : List D → List D → List D
  | x :: xs, y :: ys => .tup [x, y] :: zipD xs ys
  | _, _ => []
theorem zipD_get : ∀ (xs ys : List D) (i : Nat) (d : D), (zipD xs ys)[i]? = some d → ∃ x y, xs[i]? = some x ∧ ys[i]? = some y ∧ d = .tup [x, y]
  | [], _, _, _, h => by simp [zipD] at h
  | _ :: _, [], _, _, h => by simp [zipD] at h
  | x :: xs, y :: ys, 0, d, h => by
    simp [zipD] at h
    exact ⟨x, y, rfl, rfl, h.symm⟩
  | x :: xs, y :: ys, i + 1, d, h => by
    have := zipD_get xs ys i d (by simpa [zipD] using h)
    simpa using this
theorem zipD_len : ∀ (xs ys : List D), (zipD xs ys).length = min xs.length ys.length
  | [], _ => by simp [zipD]
  | _ :: _, [] => by simp [zipD]
  | x :: xs, y :: ys => by simp [zipD, zipD_len xs ys]
def dZip (ds : List D) (m : Mem) : R Wk := match ds with
  | [.tup xs, .tup ys] => .ok ⟨zipD xs ys, fun _ => True⟩ m
  | [.ref a, .ref b] => match m[a]?, m[b]? with
    | some (.lst xs), some (.lst ys) => .ok ⟨zipD xs ys, fun m' => m'[a]? = some (.lst xs) ∧ m'[b]? = some (.lst ys)⟩ m
    | _, _ => .bad
  | _ => .bad
def iZipM (a : MA) : MI := fun e m => (a e m).bind fun ds m1 => dZip ds m1
theorem si_zip {xa xb : Expr} {a : MA} {pf tpos : Pos} {elts : List Expr} {kk : Nat} (hg : Gl X "zip") (hm : X.mg "zip" = none) (h : SA X W [xa, xb] a) (hs : starEach [xa, xb] X.env = (false, eval xa X.env) :: starEach [xb] X.env := by rfl) (hpl : (backTo pos (starEach [xb] X.env)).any (·.1) = false := by rfl) :
    SI X W (.Tuple elts kk tpos) (.Call (.Name "zip" pf) [xa, xb] [] pos) (iZipM a) := pi_imp (RZ.pi_zipA hg hm h hs hpl) fun σ H R' ⟨e, p, m, k, r, q⟩ => by
  refine ⟨e, p, m, k, r, ?_⟩
  unfold iZipM at q
  cases h1 : a e m with
  | bad => rw [h1] at q; exact q
  | exc c m1 => rw [h1] at q; exact q
  | ok ds m1 =>
    rw [h1] at q
    intro p1 H1 vs e1 r1
    change GoI _ _ _ (dZip ds m1) _ _ at q
    unfold dZip at q
    split at q
    · rename_i xs ys
      cases r1 with
      | cons ra rb => cases rb with
        | cons rb rc =>
          cases rc
          cases ra with
          | @tup b ws _ hb rw1 => cases rb with
            | @tup c zs _ hc rz =>
              refine ⟨b, c, ws, zs, rfl, .inr ⟨hb, hc, q p1 H1 _ e1 fun i p2 m2 H2 x2 _ => ?_⟩⟩
              have hb2 := x2.sqT e1.ok hb
              have hc2 := x2.sqT e1.ok hc
              have rw2 := rw1.extW e1.ok x2
              have rz2 := rz.extW e1.ok x2
              refine ⟨fun d hd => ?_, fun hl => ?_⟩
              · obtain ⟨x, y, hx, hy, rfl⟩ := zipD_get xs ys i d hd
                obtain ⟨vx, hvx, rvx⟩ := rw2.get hx
                obtain ⟨vy, hvy, rvy⟩ := rz2.get hy
                refine ⟨⟨ws, zs, vx, vy, hb2, hc2, hvx, hvy⟩, ?_⟩
                rintro v H3 ⟨T, x', y', rfl, hT, rfl, g1, g2⟩
                have e1' := g1 ws hb2
                rw [hvx] at e1'
                cases e1'
                have e2' := g2 zs hc2
                rw [hvy] at e2'
                cases e2'
                have x3 := Ext.fresh (o := .tup [vx, vy]) x2.ok hT
                exact ⟨x3, .tup (.inl (.inl upd_same)) (.cons (rvx.ext x2.ok x3) (.cons (rvy.ext x2.ok x3) .nil))⟩
              · rw [zipD_len] at hl
                exact ⟨ws, zs, hb2, hc2, by rw [← rw2.length, ← rz2.length]; omega⟩
    · rename_i n n2
      cases r1 with
      | cons ra rb => cases rb with
        | cons rb rc =>
          cases rc
          cases ra with
          | @ref _ b hb => cases rb with
            | @ref _ c hc =>
              split at q
              · rename_i xs ys z1 z2
                obtain ⟨ws, hw, rw1⟩ := e1.ok.ob n b _ hb z1
                obtain ⟨zs, hz, rz1⟩ := e1.ok.ob n2 c _ hc z2
                refine ⟨b, c, ws, zs, rfl, .inl ⟨.inl (.inl hw), .inl (.inl hz), q p1 H1 _ e1 fun i p2 m2 H2 x2 hgd => ?_⟩⟩
                obtain ⟨ws2, hw2, rw2⟩ := x2.ok.ob n b _ (x2.at hb) hgd.1
                obtain ⟨zs2, hz2, rz2⟩ := x2.ok.ob n2 c _ (x2.at hc) hgd.2
                have hb2 : SqL X.K H2 b ws2 := .inl (.inl hw2)
                have hc2 : SqL X.K H2 c zs2 := .inl (.inl hz2)
                refine ⟨fun d hd => ?_, fun hl => ?_⟩
                · obtain ⟨x, y, hx, hy, rfl⟩ := zipD_get xs ys i d hd
                  obtain ⟨vx, hvx, rvx⟩ := rw2.get hx
                  obtain ⟨vy, hvy, rvy⟩ := rz2.get hy
                  refine ⟨⟨ws2, zs2, vx, vy, hb2, hc2, hvx, hvy⟩, ?_⟩
                  rintro v H3 ⟨T, x', y', rfl, hT, rfl, g1, g2⟩
                  have e1' := g1 ws2 hb2
                  rw [hvx] at e1'
                  cases e1'
                  have e2' := g2 zs2 hc2
                  rw [hvy] at e2'
                  cases e2'
                  have x3 := Ext.fresh (o := .tup [vx, vy]) x2.ok hT
                  exact ⟨x3, .tup (.inl (.inl upd_same)) (.cons (rvx.ext x2.ok x3) (.cons (rvy.ext x2.ok x3) .nil))⟩
                · rw [zipD_len] at hl
                  exact ⟨ws2, zs2, hb2, hc2, by rw [← rw2.length, ← rz2.length]; omega⟩
              · exact q.elim
    · exact q.elim
def enumD : Nat → List D → List D
  | _, [] => []
  | i, x :: xs => .tup [.int (i : Nat), x] :: enumD (i + 1) xs
theorem enumD_get : ∀ (j : Nat) (xs : List D) (i : Nat) (d : D), (enumD j xs)[i]? = some d → ∃ x, xs[i]? = some x ∧ d = .tup [.int ((j + i : Nat) : Int), x]
  | _, [], _, _, h => by simp [enumD] at h
  | j, x :: xs, 0, d, h => by
    simp [enumD] at h
    exact ⟨x, rfl, h.symm⟩
  | j, x :: xs, i + 1, d, h => by
    obtain ⟨y, h1, h2⟩ := enumD_get (j + 1) xs i d (by simpa [enumD] using h)
    refine ⟨y, by simpa using h1, ?_⟩
    rw [h2, show j + 1 + i = j + (i + 1) by omega]
theorem enumD_len : ∀ (j : Nat) (xs : List D), (enumD j xs).length = xs.length
  | _, [] => rfl
  | j, x :: xs => by simp [enumD, enumD_len (j + 1) xs]
def dEnumL (ds : List D) (m : Mem) : R Wk := match ds with
  | [.ref a] => match m[a]? with
    | some (.lst xs) => .ok ⟨enumD 0 xs, fun m' => m'[a]? = some (.lst xs)⟩ m
    | _ => .bad
  | _ => .bad
def iEnumL (a : MA) : MI := fun e m => (a e m).bind fun ds m1 => dEnumL ds m1
theorem si_enumL {xa : Expr} {a : MA} {pf tpos : Pos} {elts : List Expr} {kk : Nat} (hg : Gl X "enumerate") (hm : X.mg "enumerate" = none) (h : SA X W [xa] a) (hs : starEach [xa] X.env = [(false, eval xa X.env)] := by rfl) :
    SI X W (.Tuple elts kk tpos) (.Call (.Name "enumerate" pf) [xa] [] pos) (iEnumL a) := pi_imp (pi_enum hg hm h hs) fun σ H R' ⟨e, p, m, k, r, q⟩ => by
  refine ⟨e, p, m, k, r, ?_⟩
  unfold iEnumL at q
  cases h1 : a e m with
  | bad => rw [h1] at q; exact q
  | exc c m1 => rw [h1] at q; exact q
  | ok ds m1 =>
    rw [h1] at q
    intro p1 H1 vs e1 r1
    change GoI _ _ _ (dEnumL ds m1) _ _ at q
    unfold dEnumL at q
    split at q
    · rename_i n
      cases r1 with
      | cons ra rb =>
        cases rb
        cases ra with
        | @ref _ b hb =>
          split at q
          · rename_i xs z1
            obtain ⟨ws, hw, rw1⟩ := e1.ok.ob n b _ hb z1
            refine ⟨b, ws, rfl, .inl (.inl hw), q p1 H1 _ e1 fun i p2 m2 H2 x2 hgd => ?_⟩
            obtain ⟨ws2, hw2, rw2⟩ := x2.ok.ob n b _ (x2.at hb) hgd
            have hb2 : SqL X.K H2 b ws2 := .inl (.inl hw2)
            refine ⟨fun d hd => ?_, fun hl => ?_⟩
            · obtain ⟨x, hx, rfl⟩ := enumD_get 0 xs i d hd
              obtain ⟨vx, hvx, rvx⟩ := rw2.get hx
              refine ⟨⟨ws2, vx, hb2, hvx⟩, ?_⟩
              rintro v H3 ⟨T, x', rfl, hT, rfl, g1⟩
              have e1' := g1 ws2 hb2
              rw [hvx] at e1'
              cases e1'
              have x3 := Ext.fresh (o := .tup [.int (i : Nat), vx]) x2.ok hT
              refine ⟨x3, .tup (.inl (.inl upd_same)) (.cons ?_ (.cons (rvx.ext x2.ok x3) .nil))⟩
              rw [Nat.zero_add]
              exact .int _
            · rw [enumD_len] at hl
              exact ⟨ws2, hb2, by rw [← rw2.length]; exact hl⟩
          · exact q.elim
    · exact q.elim

/-! ### enumerate of a tuple -/
def IteT (K : PySem.W.Frag) (a : Addr) : It :=
  ⟨fun i H => ∃ (xs : List V) (x : V), SqT K H a xs ∧ xs[i]? = some x, fun i H v H' => ∃ T x, v = .ref T ∧ H T = none ∧ H' = upd H T (.tup [.int (i : Nat), x]) ∧ ∀ ys, SqT K H a ys → ys[i]? = some x, fun i H => ∃ zs : List V, SqT K H a zs ∧ zs.length ≤ i⟩
theorem meets_enum1 {v : Value} {o : Obj} {H : Heap → Prop} (B : Begins v o H) : Meets (Builtin.«enumerate.__new__» ⟨[.type "enumerate", v], []⟩) (fun _ R s => H s.heap ∧
      R (.ok (.ret (.ref (s.heap.push o).objs.size))) { s with heap := (s.heap.push o).push { cls := .type "enumerate", data := .fields #[.none, .bool false, .ref s.heap.objs.size, rawInt 0, .none, .none] } }) :=
  .of_wp fun prog w A R s h => by
    obtain ⟨hp, g, d, tk, os⟩ := s
    obtain ⟨h1, h⟩ := h
    have hsub := sub_enumerate
    have it : ∀ {A' : Around} {E' : Value → Shared → Prop} {Q' : Value → Shared → Prop}, Q' (.ref hp.objs.size) ⟨hp.push o, g, d, tk, os⟩ → wpAny (model prog w) A' (pyIter v) Q' E' ⟨hp, g, d, tk, os⟩ :=
      fun z => B.iter prog w _ _ ⟨hp, g, d, tk, os⟩ _ h1 z
    wp_walk using it
    refine wpAny_stack_any fun st => wpAny_pure ?_
    split
    · rename_i c _ _ _ _ _
      cases (c == Value.type "enumerate")
      · wp_walk using it
        exact ⟨_, rfl, h⟩
      · wp_walk using it
        exact ⟨_, rfl, h⟩
    · wp_walk using it
      exact ⟨_, rfl, h⟩
section
variable {prog : Program} {w : World} {A : Around} {E : Value → Shared → Prop} {s : Shared}
theorem call_enumT {t : Addr} {items : Array Value} {Q : Value → Shared → Prop} (hT : s.heap.IsTuple t items)
    (h : ∀ h', IsEnum h' (s.heap.objs.size + 1) s.heap.objs.size 0 .none → h'.IsTupleIter s.heap.objs.size t 0 → (∀ b o, s.heap.get? b = some o → h'.get? b = some o) → Q (.ref (s.heap.objs.size + 1)) { s with heap := h' }) :
    wpAny (model prog w) A (call (.type "enumerate") [.ref t]) Q E s := by
  refine callType_new F.called_enumerate (by decide) (F.typeCall_enumerate_1 _) (F.newCall_enumerate_1 _) (fun ob => F.args_object_init_2 ob _) F.entry_enumerate_new (meets_enum1 (begins_tuple t items)) ⟨hT, ?_⟩
  have z1 : (s.heap.push { cls := .type "tuple_iterator", data := .fields #[.ref t, .int 0 0] }).objs.size = s.heap.objs.size + 1 := Heap.size_push ..
  show _ ∧ _
  rw [z1]
  have z2 : IsEnum ((s.heap.push { cls := .type "tuple_iterator", data := .fields #[.ref t, .int 0 0] }).push { cls := .type "enumerate", data := .fields #[.none, .bool false, .ref s.heap.objs.size, rawInt 0, .none, .none] }) (s.heap.objs.size + 1) s.heap.objs.size 0 .none := by
    have z3 := Heap.get?_push_size (s.heap.push { cls := .type "tuple_iterator", data := .fields #[.ref t, .int 0 0] }) (o := { cls := .type "enumerate", data := .fields #[.none, .bool false, .ref s.heap.objs.size, rawInt 0, .none, .none] }) rfl
    rw [z1] at z3
    exact z3
  exact ⟨⟨_, z2, rfl⟩, h _ z2 ⟨_, Heap.get?_push_of_some _ (Heap.get?_push_size _ rfl), rfl, rfl⟩ fun b o x => Heap.get?_push_of_some _ (Heap.get?_push_of_some _ x)⟩
end
theorem turn_enumT {P : Program} {w : World} {K : PySem.W.Frag} {elts : List Expr} {kk : Nat} {tpos : Pos} (a e it : Addr) :
    Turn P w K (.Tuple elts kk tpos) (IteT K a) [e, it] e (fun i h => (∃ old, IsEnum h e it ((i : Nat) : Int) old) ∧ h.IsTupleIter it a i ∧ e ≠ it) where
  mem := by simp
  obj := fun i h st b hb => by
    obtain ⟨⟨old, he⟩, ⟨o, ho, hc, hd⟩, _⟩ := st
    have e' : b = e ∨ b = it := by simpa using hb
    rcases e' with z | z
    · rw [z]; exact ⟨_, he, fun v q => nomatch q⟩
    · rw [z]; exact ⟨o, ho, fun v q => by rw [hd] at q; cases q⟩
  keep := fun i h h' st k => let ⟨⟨old, he⟩, hi, hne⟩ := st; ⟨⟨old, k e (by simp) _ he⟩, hi.at fun o q => k it (by simp) o q, hne⟩
  item := by
    intro X hP hw hK hc i pins s σ H E I hf st hg
    subst hP hw hK
    obtain ⟨⟨old, he⟩, hit, hne⟩ := st
    obtain ⟨xs, x, hq, hx⟩ := hg
    obtain ⟨its, rv, pt, hz⟩ := I.tuple hq
    obtain ⟨u, hu, ru⟩ := rv.get hx
    have hel : e < s.heap.objs.size := Heap.lt_size he
    have hil : it < s.heap.objs.size := by obtain ⟨_, q, _⟩ := hit; exact Heap.lt_size q
    obtain ⟨ot, hot, hoc, nn, hod⟩ := id pt
    have hti : a ≠ it := fun z => by
      obtain ⟨oi, q1, q2, q3⟩ := hit
      rw [z, q1] at hot
      cases hot
      rw [q3] at hod
      cases hod
    have hte : a ≠ e := fun z => by
      rw [z, he] at hot
      cases hot
      cases hod
    have hlt : i < its.toArray.size := by
      have := (List.getElem?_eq_some_iff.mp hu).1
      simpa using this
    have hTup : s.heap.IsTuple a its.toArray := ⟨ot, hot, hoc, nn, hod⟩
    refine wpAny_pyNext_enum_itemD (Draws.tuple (prog := X.prog) (w := X.w) (A := X.A.in1) (I.ok.hd hc) it a hti its.toArray) he ⟨hit, hTup⟩ hlt hne (by simp [hne, Ne.symm hte]) fun y h' tk hy ho hst hT hsz hk => ?_
    have ey : y = u := by
      have : its.toArray[i]? = some u := by simpa using hu
      rw [this] at hy
      exact (Option.some.inj hy).symm
    subst ey
    refine ⟨_, rfl, wpAny_letOwnedTupleGo_enum (s := { s with heap := h', toks := tk + 1 }) ho fun h'' he' sb => ?_⟩
    have hT2 : h''.get? s.heap.objs.size = some { cls := .type "tuple", data := .seq #[.int i tk, y] } := (sb.2 _ (Nat.ne_of_gt hel)).trans hT
    have new : ObjOk X.prog X.w (upd H s.heap.objs.size (.tup [.int (i : Nat), x])) h'' s.heap.objs.size (.tup [.int (i : Nat), x]) :=
      ⟨by show 2 ≤ sizeLine; decide, [.int i tk, y], .cons ⟨_, rfl⟩ (.cons ru .nil), ⟨_, hT2, rfl, _, rfl⟩⟩
    have I1 : Inv X pins σ (upd H s.heap.objs.size (.tup [.int (i : Nat), x])) { s with heap := h'', toks := tk + 1 } :=
      I.turnedNew (ch := [e, it]) (fun b ob hb q => (sb.2 b (fun z => hb (by simp [z]))).trans (hk b ob (fun z => hb (by simp [z])) (fun z => hb (by simp [z])) q)) hf (Nat.le_refl _) new
    refine ⟨.ref s.heap.objs.size, _, I1, rfl, ⟨_, x, rfl, I.hok.fresh (Nat.le_refl _), rfl, fun ys hy' => by rw [I.tuple_inj hy' hq]; exact hx⟩, ⟨⟨y, ?_⟩, hst.1.at fun o q => (sb.2 it (Ne.symm hne)).trans q, hne⟩, fun b hb => ?_⟩
    · have e1 : ((i + 1 : Nat) : Int) = (i : Int) + 1 := by omega
      rw [e1]; exact he'
    · have hb' : b < s.heap.objs.size := by
        have e' : b = e ∨ b = it := by simpa using hb
        rcases e' with z | z
        · rw [z]; exact hel
        · rw [z]; exact hil
      rw [upd_ne (Nat.ne_of_lt hb')]
      exact (hf b hb).1
  done := by
    intro X hP hw hK hc i pins s σ H E I hf st hg
    subst hP hw hK
    obtain ⟨⟨old, he⟩, hit, hne⟩ := st
    obtain ⟨xs, hq, hx⟩ := hg
    obtain ⟨its, rv, pt, hz⟩ := I.tuple hq
    obtain ⟨f0, f1, f2, f3, f4, f5⟩ := hf it (by simp)
    obtain ⟨ot, hot, hoc, nn, hod⟩ := id pt
    have hTup : s.heap.IsTuple a its.toArray := ⟨ot, hot, hoc, nn, hod⟩
    have hl := rv.length
    have hTy : s.TypeIs (.ref e) "enumerate" := ⟨_, he, rfl⟩
    unfold pyNext
    refine wpAny_bind (wpAny_attempt (wpAny_callSpecial?_slot (name := Str.ofString "__next__") hTy F.slot_enumerate_next (wpAny_call_entry F.slot_enumerate_next hTy F.entry_enumerate_next ?_ (F.args_enumerate_next_1 _))))
    show wpAny _ _ (field (.ref e) 2 >>= _) _ _ _
    refine wpAny_bind (wpAny_field he rfl (x := .ref it) rfl (wpAny_bind (wpAny_nextOf_tuple_end (I.ok.hd hc) hit hTup (by simp; omega) fun h' x eb hx' => ?_)))
    obtain ⟨ox, hox, hcx⟩ := hx'
    refine wpAny_bind (wpAny_isInstance (T := "StopIteration") (b := true) ⟨ox, hox, hcx⟩ isSubtype_stop (wpAny_pure ?_))
    exact ⟨rfl, I.turned (t' := s.toks) (fun b o hb q => eb b o hb q) f0 f1 f3 f4 f5⟩
  self := fun A i s Q E st h => let ⟨⟨_, he⟩, _⟩ := st; wpAny_pyIter_enum he h
def iEnumTV (K : PySem.W.Frag) (ta : TA) : TI := fun σ H R => ta σ H fun vs H1 => ∃ a xs, vs = [.ref a] ∧ SqT K H1 a xs ∧ R (IteT K a) H1
theorem pi_enumT {e : Expr} {ta : TA} {p tpos : Pos} {elts : List Expr} {kk : Nat} (hg : Gl X "enumerate") (hm : X.mg "enumerate" = none) (ha : PA X [e] ta) (hs : starEach [e] X.env = [(false, eval e X.env)] := by rfl) :
    PI X (.Tuple elts kk tpos) (.Call (.Name "enumerate" p) [e] [] pos) (iEnumTV X.K ta) := by
  refine ⟨fun pins s σ H R I h => ?_⟩
  refine Call_ (ld_blt I hg hm boot_enumerate (PyProof.Rows.callWith_type1 (thn (ha.run pos pins s σ H _ I h) fun us s1 ⟨vs, H1, I1, r1, q1⟩ => ?_) hs rfl))
  obtain ⟨a, xs, ex, hq, q⟩ := q1
  subst ex
  cases r1 with
  | cons r rr =>
    cases rr
    cases r
    obtain ⟨its, rv, pt, hz⟩ := I1.tuple hq
    obtain ⟨ot, hot, hoc, nn, hod⟩ := id pt
    refine call_enumT (items := its.toArray) ⟨ot, hot, hoc, nn, hod⟩ fun h' he hit hk => wpAny_pyIter_enum he ?_
    have I2 : Inv X pins σ H1 { s1 with heap := h' } := I1.kept (t' := s1.toks) hk
    refine ⟨s1.heap.objs.size + 1, [s1.heap.objs.size + 1, s1.heap.objs.size], _, _, H1, rfl, I2, turn_enumT a (s1.heap.objs.size + 1) s1.heap.objs.size, ⟨⟨.none, he⟩, hit, Nat.succ_ne_self _⟩, fun b hb => ?_, q⟩
    have hle : s1.heap.objs.size ≤ b := by
      have e' : b = s1.heap.objs.size + 1 ∨ b = s1.heap.objs.size := by simpa using hb
      rcases e' with z | z
      · rw [z]; exact Nat.le_add_right _ _
      · rw [z]; exact Nat.le_refl _
    exact I1.fpOk hle (I1.hok.fresh hle)
def dEnumT (ds : List D) (m : Mem) : R Wk := match ds with
  | [.tup xs] => .ok ⟨enumD 0 xs, fun _ => True⟩ m
  | _ => .bad
def iEnumT (a : MA) : MI := fun e m => (a e m).bind fun ds m1 => dEnumT ds m1
theorem si_enumT {xa : Expr} {a : MA} {pf tpos : Pos} {elts : List Expr} {kk : Nat} (hg : Gl X "enumerate") (hm : X.mg "enumerate" = none) (h : SA X W [xa] a) (hs : starEach [xa] X.env = [(false, eval xa X.env)] := by rfl) :
    SI X W (.Tuple elts kk tpos) (.Call (.Name "enumerate" pf) [xa] [] pos) (iEnumT a) := pi_imp (pi_enumT hg hm h hs) fun σ H R' ⟨e, p, m, k, r, q⟩ => by
  refine ⟨e, p, m, k, r, ?_⟩
  unfold iEnumT at q
  cases h1 : a e m with
  | bad => rw [h1] at q; exact q
  | exc c m1 => rw [h1] at q; exact q
  | ok ds m1 =>
    rw [h1] at q
    intro p1 H1 vs e1 r1
    change GoI _ _ _ (dEnumT ds m1) _ _ at q
    unfold dEnumT at q
    split at q
    · rename_i xs
      cases r1 with
      | cons ra rb =>
        cases rb
        cases ra with
        | @tup b ws _ hb rw1 =>
          refine ⟨b, ws, rfl, hb, q p1 H1 _ e1 fun i p2 m2 H2 x2 _ => ?_⟩
          have hb2 := x2.sqT e1.ok hb
          have rw2 := rw1.extW e1.ok x2
          refine ⟨fun d hd => ?_, fun hl => ?_⟩
          · obtain ⟨x, hx, rfl⟩ := enumD_get 0 xs i d hd
            obtain ⟨vx, hvx, rvx⟩ := rw2.get hx
            refine ⟨⟨ws, vx, hb2, hvx⟩, ?_⟩
            rintro v H3 ⟨T, x', rfl, hT, rfl, g1⟩
            have e1' := g1 ws hb2
            rw [hvx] at e1'
            cases e1'
            have x3 := Ext.fresh (o := .tup [.int (i : Nat), vx]) x2.ok hT
            refine ⟨x3, .tup (.inl (.inl upd_same)) (.cons ?_ (.cons (rvx.ext x2.ok x3) .nil))⟩
            rw [Nat.zero_add]
            exact .int _
          · rw [enumD_len] at hl
            exact ⟨ws, hb2, by rw [← rw2.length]; exact hl⟩
    · exact q.elim
/-! ### x or y by truth -/
def mOrT (a b : ME) : ME := fun e m => (a e m).bind fun x m1 => (dTruth x m1).bind fun c m2 => if c = true then .ok x m2 else b e m2
theorem so_orT {x y : Expr} {ys : List Expr} {a b : ME} (h : SE X W x a) (h2 : SE X W (.BoolOp .Or (y :: ys) pos) b) : SE X W (.BoolOp .Or (x :: y :: ys) pos) (mOrT a b) := pe_imp (pe_orT h h2) fun σ H Q ⟨e, p, m, k, r, q⟩ => by
  refine ⟨e, p, m, k, r, ?_⟩
  unfold mOrT at q
  cases h1 : a e m with
  | bad => rw [h1] at q; exact q
  | exc c m1 => rw [h1] at q; exact q
  | ok d m1 =>
    rw [h1] at q
    intro p1 H1 v e1 r1
    have q1 := GoV.step k e1 q
    change GoV _ _ _ ((dTruth d m1).bind _) _ _ at q1
    rcases tru_of e1.ok r1 rfl with z | ⟨c, z, t⟩
    · rw [z] at q1
      exact q1.elim
    · rw [z] at q1
      refine ⟨c, t, ?_⟩
      cases c with
      | true => exact q1 p1 H1 v (Ext.refl e1.ok) r1
      | false => exact ⟨e, p1, m1, e1.ok, r.ext k e1, q1⟩
/-- a, b, c = x, y, z -/
def sPar3 (i j l : Nat) (a : MA) : MS := fun e m => (a e m).go e fun ds m1 => match ds with
  | [d, d', d''] => .nx (((e.set i (some d)).set j (some d')).set l (some d'')) m1
  | _ => .bad
theorem ss_par3 {i j l : Nat} {x : Stmt} {a : MA} (h : PS X x (tPar3 i j l (rdA (gx X) W a))) : SS X W x (sPar3 i j l a) := ps_imp h fun D σ H ⟨e, p, m, k, r, q⟩ => by
  refine ⟨e, p, m, k, r, ?_⟩
  unfold sPar3 at q
  cases h1 : a e m with
  | bad => rw [h1] at q; exact q
  | exc c m1 => rw [h1] at q; exact fun p' H' C x y => q p' H' σ C x (r.ext k x) y
  | ok ds m1 =>
    rw [h1] at q
    intro p1 H1 vs x1 r1
    have q1 := GoS.step k x1 q
    cases r1 with
    | nil => exact q1.elim
    | cons ra t => cases t with
      | nil => exact q1.elim
      | cons rb t => cases t with
        | nil => exact q1.elim
        | cons rc t => cases t with
          | nil => exact ⟨_, _, _, rfl, q1 p1 H1 _ (Ext.refl x1.ok) ((((r.ext k x1).set i ra).set j rb).set l rc)⟩
          | cons _ _ => exact q1.elim
def mAndT (a b : ME) : ME := fun e m => (a e m).bind fun x m1 => (dTruth x m1).bind fun c m2 => if c = true then b e m2 else .ok x m2
theorem so_andT {x y : Expr} {ys : List Expr} {a b : ME} (h : SE X W x a) (h2 : SE X W (.BoolOp .And (y :: ys) pos) b) : SE X W (.BoolOp .And (x :: y :: ys) pos) (mAndT a b) := pe_imp (pe_andT h h2) fun σ H Q ⟨e, p, m, k, r, q⟩ => by
  refine ⟨e, p, m, k, r, ?_⟩
  unfold mAndT at q
  cases h1 : a e m with
  | bad => rw [h1] at q; exact q
  | exc c m1 => rw [h1] at q; exact q
  | ok d m1 =>
    rw [h1] at q
    intro p1 H1 v e1 r1
    have q1 := GoV.step k e1 q
    change GoV _ _ _ ((dTruth d m1).bind _) _ _ at q1
    rcases tru_of e1.ok r1 rfl with z | ⟨c, z, t⟩
    · rw [z] at q1
      exact q1.elim
    · rw [z] at q1
      refine ⟨c, t, ?_⟩
      cases c with
      | false => exact q1 p1 H1 v (Ext.refl e1.ok) r1
      | true => exact ⟨e, p1, m1, e1.ok, r.ext k e1, q1⟩
def mNotT (a : ME) : ME := fun e m => (a e m).bind fun x m1 => (dTruth x m1).bind fun c m2 => .ok (.bl (!c)) m2
theorem so_notT {x : Expr} {a : ME} (h : SE X W x a) : SE X W (.UnaryOp .Not x pos) (mNotT a) := pe_imp (pe_notT h) fun σ H Q ⟨e, p, m, k, r, q⟩ => by
  refine ⟨e, p, m, k, r, ?_⟩
  unfold mNotT at q
  cases h1 : a e m with
  | bad => rw [h1] at q; exact q
  | exc c m1 => rw [h1] at q; exact q
  | ok d m1 =>
    rw [h1] at q
    intro p1 H1 v e1 r1
    have q1 := GoV.step k e1 q
    change GoV _ _ _ ((dTruth d m1).bind _) _ _ at q1
    rcases tru_of e1.ok r1 rfl with z | ⟨c, z, t⟩
    · rw [z] at q1
      exact q1.elim
    · rw [z] at q1
      exact ⟨c, t, q1 p1 H1 _ (Ext.refl e1.ok) (.bl _)⟩
/-! ### list or tuple walked: whichever it is -/
theorem pi_or {x : Expr} {t t' : TI} (h : PI X tg x t) (h' : PI X tg x t') : PI X tg x (fun σ H Q => t σ H Q ∨ t' σ H Q) := ⟨fun pins s σ H Q I q => q.elim (fun q => h.run pins s σ H Q I q) fun q => h'.run pins s σ H Q I q⟩
theorem si_or {x : Expr} {f f' f'' : MI} (h : SI X W tg x f) (h' : SI X W tg x f') (hf : ∀ e m, f'' e m = f e m ∨ f'' e m = f' e m) : SI X W tg x f'' := pi_imp (pi_or h h') fun σ H Q ⟨e, p, m, k, r, q⟩ => by
  rcases hf e m with z | z
  · rw [z] at q
    exact .inl ⟨e, p, m, k, r, q⟩
  · rw [z] at q
    exact .inr ⟨e, p, m, k, r, q⟩
theorem si_seq {x : Expr} {a : ME} (h : SE X W x a) : SI X W tg x (iSeq a) := si_or (si_lst h) (si_tup h) fun e m => by
  unfold iSeq iLst iTupM
  cases h1 : a e m with
  | bad => exact .inl rfl
  | exc c m1 => exact .inl rfl
  | ok d m1 =>
    cases d with
    | tup ds => exact .inr rfl
    | _ => exact .inl rfl
def dEnum (ds : List D) (m : Mem) : R Wk := match ds with
  | [.tup xs] => .ok ⟨enumD 0 xs, fun _ => True⟩ m
  | [.ref a] => match m[a]? with
    | some (.lst xs) => .ok ⟨enumD 0 xs, fun m' => m'[a]? = some (.lst xs)⟩ m
    | _ => .bad
  | _ => .bad
def iEnumM (a : MA) : MI := fun e m => (a e m).bind fun ds m1 => dEnum ds m1
theorem si_enum {xa : Expr} {a : MA} {pf tpos : Pos} {elts : List Expr} {kk : Nat} (hg : Gl X "enumerate") (hm : X.mg "enumerate" = none) (h : SA X W [xa] a) (hs : starEach [xa] X.env = [(false, eval xa X.env)] := by rfl) :
    SI X W (.Tuple elts kk tpos) (.Call (.Name "enumerate" pf) [xa] [] pos) (iEnumM a) := si_or (si_enumL hg hm h hs) (si_enumT hg hm h hs) fun e m => by
  unfold iEnumL iEnumT iEnumM
  cases h1 : a e m with
  | bad => exact .inl rfl
  | exc c m1 => exact .inl rfl
  | ok ds m1 =>
    show dEnum ds m1 = dEnumL ds m1 ∨ dEnum ds m1 = dEnumT ds m1
    unfold dEnum dEnumL dEnumT
    split
    · exact .inr rfl
    · exact .inl rfl
    · rename_i n1 n2
      left
      split
      · rename_i a
        exact absurd rfl (n2 a)
      · rfl
/-! ### x += y -/
def dAddI (d e : D) (m : Mem) : R D := match d, e with
  | .int i, .int j => .ok (.int (i + j)) m
  | .str x, .str y => if x.length + y.length ≤ 1000000 then .ok (.str (x ++ y)) m else .bad
  | _, _ => .bad
theorem ip_addD : PIp X .Add (rd2 (gx X) dAddI) := by
  intro pins s σ H x y v u Q I rx ry h
  obtain ⟨p, m, d, e, k, rd, re, q⟩ := h
  cases rd with
  | int i => cases re with
    | int j => exact ip_add pins s σ H _ _ v u Q I rx ry ⟨i, j, rfl, rfl, q p H _ (Ext.refl k) (.int _)⟩
    | _ => exact q.elim
  | str i => cases re with
    | str j =>
      change GoV _ _ _ (if i.length + j.length ≤ 1000000 then _ else _) _ _ at q
      split at q
      · rename_i hl
        exact iop_add_str pins s σ H _ _ v u Q I rx ry ⟨i, j, rfl, rfl, szle hl, q p H _ (Ext.refl k) (.str _)⟩
      · exact q.elim
    | _ => exact q.elim
  | _ => exact q.elim
theorem ip_subD : PIp X .Sub (rd2 (gx X) dSub) := by
  intro pins s σ H x y v u Q I rx ry h
  obtain ⟨p, m, d, e, k, rd, re, q⟩ := h
  rcases dI2_or (C := CTrue) (f := (· - ·)) d e m with ⟨i, j, rfl, rfl, hc, z⟩ | z
  · rw [dSub, z] at q
    cases rd
    cases re
    exact ip_sub pins s σ H _ _ v u Q I rx ry ⟨i, j, rfl, rfl, q p H _ (Ext.refl k) (.int _)⟩
  · rw [dSub, z] at q
    exact q.elim
end
end Mi
namespace Mi
open PySem PySem.Spec PyProof.Rows L2
/-! ### the law's own promise -/
def spLaw (K : PySem.W.Frag) : Sp := fun vs H Q _ => ∃ (a : Addr) (ns : List Int), vs = [.ref a] ∧ Fz K H a (ns.map V.int) ∧ ns.length ≤ 63 ∧ ∀ H', Q (.bl true) H'
theorem fz_only {K : PySem.W.Frag} {H : Hp} {a : Addr} {xs : List V} (hO : Only H) (h : SqL K H a xs) : Fz K H a xs := by
  rcases h with (h | ⟨o, h⟩) | h
  · rcases hO a with z | ⟨o, ys, z⟩
    · rw [z] at h; cases h
    · rw [z] at h; cases h
  · exact .inl ⟨o, h⟩
  · exact .inr (.inr h)
theorem sp_law {K : PySem.W.Frag} {mg : Str → Option Value} {f : List D → M D} (hf : ∀ ns : List Int, ns.length ≤ 63 → ∃ m', f [.fro (ns.map D.int)] [] = .ok (.bl true) m') (vs : List V) (H : Hp) (Q : VK) (E : XK) (h : spLaw K vs H Q E) : spM ⟨K, mg⟩ 1 f vs H Q E := by
  obtain ⟨a, ns, rfl, hz, hl, q⟩ := h
  obtain ⟨m', e⟩ := hf ns hl
  refine ⟨[], [], [.fro (ns.map D.int)], rfl, ⟨rfl, List.nodup_nil, fun n b o z => by simp at z⟩, .cons (.fro hz (RDs.ints ns)) .nil, ?_⟩
  rw [e]
  intro p' H' v _ r
  cases r
  exact q H'
end Mi
namespace Mi
open PySem PySem.Spec PyProof.Rows L2
theorem cx_no {P : Program} {w : World} {outer : List Env} {H : Hp} {s : Shared} {e : Value} {s' : Shared} (h : L2.CX P w outer H s (fun _ _ _ => False) e s') : False := by
  obtain ⟨_, _, _, _, _, _, _, _, _, _, _, _, z⟩ := h
  exact z.elim
end Mi
namespace Mi
open PySem PySem.Spec PyProof.Rows L2
theorem walk_ofX {l : PySem.W.OpenLaw} {n k : Nat} {q : Program} {loose : List Str} {XP : (Str → Option Value) → Heap → Prop} {YP : World → Heap → Prop} {d : DefRec} {K : Params → PySem.W.Frag} {CX : World → CXT} {sp : World → Sp} {x : Str}
    (hn : l.most = some n) (hn2 : n ≤ sizeLine) (hdf : d.params.defaults = []) (hr : Room k callerA) (hY : ∀ (w : World) (h : Heap), YP w h → (K w.params).In h)
    (F : ∀ (w : World) (mg : Str → Option Value) (fa : Addr) (h : Heap), (K w.params).In h → h.Ns mainGlobals mg → XP mg h → mg d.name = some (.ref fa) →
      ∃ fd : FuncData, (∀ (s : Shared) (u : Value), BindsTo s fd ⟨[u], []⟩ [(x, u)]) ∧ ∀ base : Heap, (K w.params).In base → base.Ns mainGlobals mg → FnOk l.prog w (K w.params) mg base (CX w) k fa fd [x] (sp w))
    (hsp : ∀ (w : World) (H : Hp) (a : Addr) (ns : List Int), ns.length ≤ n → Only H → SqL (K w.params) H a (ns.map V.int) → sp w [.ref a] H (fun v _ => v = .bl true) fun _ _ _ => False)
    (hCX : ∀ (w : World) (H : Hp) (s : Shared) (e : Value) (s' : Shared), CX w [] H s (fun _ _ _ => False) e s' → False) : PySem.W.WalkO q loose XP YP l.row.toRowW d [] (fun f vs => PySem.call f vs) := by
  refine Att.attach_call hn hdf fun w s₀ s₁ mg mb fa o pm cd doc a vs ns G Y ho hd hcd hmg hobj hints hlen hg => ?_
  have kx := hY w _ Y
  obtain ⟨fd, hb, hF⟩ := F w mg fa _ kx G.T.g G.X hmg
  exact law_call kx G.T.g G.T.b G.T.builtins G.T.nolimit hg hobj hints (Nat.le_trans hlen hn2) hr hF hb (fun H hO hS => hsp w H a ns hlen hO hS) fun H e s' => hCX w H s₁ e s'
theorem loose_int {lv : List (Str × PySem.W.WData)} {mg : Str → Option Value} {h : Heap} {c : Str} {i : Int} (x : PySem.W.LooseAre lv mg h) (hm : (c, PySem.W.WData.int i) ∈ lv) : ∃ t, mg c = some (.int i t) := by
  obtain ⟨v, h1, h2⟩ := x.val _ hm
  cases h2
  exact ⟨_, h1⟩
end Mi
/-! ### a set comprehension of whole numbers, of which only the length is asked -/
namespace Mi
open PySem PySem.Spec PyProof.Rows L2 Classical
section
variable {X : Cx}
/-- the number k goes into the set at L -/
theorem put_int {ps : List (Addr × Obj)} {σ : L2.St} {H : Hp} {s : Shared} {Er : Value → Shared → Prop} {L : Addr} {S : Int → Bool} {n : Nat} {k : Int} {tk : Tok} {R : Value → Shared → Prop} (I : Inv X ps σ H s) (hL : H L = some (SetO X.w L S n)) (small : n + 1 < scanBound)
    (after : ∀ s1, Inv X ps σ (upd H L (SetO X.w L (fun a => S a || decide (a = k)) (if S k = true then n else n + 1))) s1 → R .none s1) : wpAny (model X.prog X.w) X.A (call (.builtin "set.add") [.ref L, .int k tk]) R Er s := by
  refine setR_add (setO_get I hL) small fun hh frame now => after _ (I.write (e := L) (t' := s.toks + 1) (by rw [hL]; trivial) (.inl rfl) (fun b u nb hu => (frame.2 b nb).trans hu) ?_ (setO_new now))
  obtain ⟨o, _, _, _, ho, _⟩ := now
  exact ⟨o, ho⟩
/-- what a set comprehension of numbers comes to: L the set that is made -/
def tScI (w : World) (walk : TI) (g : TG) (cond : TT) (item : TE) (vs : List Nat) : TE := fun σ H Q => walk σ H fun J Hw => ∀ L, Hw L = none → ∃ Btw : Nat → Nat → Hp → Prop, (∃ z, Btw 0 z (upd Hw L (SetO w L (fun _ => false) 0))) ∧ ∀ i z Hi, Btw i z Hi →
  (J.stop i Hi ∧ Q (.ref L) Hi) ∨ (J.go i Hi ∧ ∃ Af : Hp → Prop, (∀ Ha, Af Ha → ∃ y, y < z ∧ Btw (i + 1) y Ha) ∧ ∀ x Hx, J.yld i Hi x Hx → g x (wipe σ vs) Hx fun τ Ht => wipe τ vs = wipe σ vs ∧ cond τ Ht fun b Hb =>
    if b = true then item τ Hb fun y Hy => ∃ (k : Int) (S : Int → Bool) (n : Nat), y = .int k ∧ Hy L = some (SetO w L S n) ∧ n + 1 < scanBound ∧ Af (upd Hy L (SetO w L (fun a => S a || decide (a = k)) (if S k = true then n else n + 1))) else Af Hb)
abbrev AnyBlk (X : Cx) (scope : Scope) (Pr : Cx → Prop) : Prop := ∀ (s : Shared) (H : Hp) (C : Addr) (cl : List (PySem.Str × Addr)) (fp : List Addr), Pr (X.blk s H scope (compEnvC scope cl C X.env) fp)
theorem scI_all {ps : List (Addr × Obj)} {s : Shared} {σ : L2.St} {H : Hp} {Q : VK} {elt tg iter : Expr} {ifs : List Expr} {scope : Scope} {own : List (PySem.Str × Nat)} {pos pos' : Pos} {walk : TI} {g : TG} {cond : TT} {item : TE} {use : Option (Value → Sem Unit)} {Qf : Value → Shared → Prop}
    (calm : X.calm = true) (hN : X.N.Nodup) (I : Inv X ps σ H s) (hi : PI X tg iter walk) (ok : BlkOk X.N X.env.scope scope own) (hg : AnyBlk X scope fun Y => PG Y tg g) (ht : AnyBlk X scope fun Y => PTs Y ifs cond) (he : AnyBlk X scope fun Y => PE Y elt item)
    (fold : ∀ x, foldedSetIterable iter X.env x = pure x) (h : tScI X.w walk g cond item (own.map (·.2)) σ H Q)
    (back : ∀ L C s1 ns H1, Inv X ps σ H1 s1 → Q (.ref L) H1 → s1.heap.Ns C ns → FpOk X ps H1 C → compPost (model X.prog X.w) X.A X.xe use Qf (.ref L) C (.ok .next) s1) :
    wpAny (model X.prog X.w) X.A (comprehension (.SetComp elt [⟨tg, iter, ifs, 0⟩] scope pos) scope X.env pos' (newSet (.type "set")) false (eval iter X.env) use) Qf X.xe s := by
  have free : ∀ y ∈ scope.names, y.2 = .free → ∃ c, X.env.cells.lookup y.1 = some c := fun y my fy => (ok.free y my fy).elim (fun k => I.ok.has _ (.inl k)) (fun k => I.ok.has _ (.inr k))
  refine wpAny_comprehension_free (use := use) rfl fold (closure_ok free) ok.kind (fun y my fy => by rw [ok.uniq y my, fy]) (thn (hi.run ps s σ H _ I h) fun xv s1 hx => thn hx fun itv s2 hw => ?_)
  obtain ⟨it, fp, tn, J, Hw, rfl, Iw, T, stw, fw, q⟩ := hw
  refine PpSet.newSet_ok (newEnv_comp ?_)
  obtain ⟨L, eL⟩ : ∃ L, s2.heap.objs.size = L := ⟨_, rfl⟩
  rw [eL]
  obtain ⟨Btw, ⟨z0, start⟩, turn⟩ := q L (Iw.hok.fresh (Nat.le_of_eq eL))
  obtain ⟨s3, es3⟩ : ∃ s3 : Shared, ({ s2 with heap := s2.heap.push { cls := .type "set", dict := none, data := .set #[] 0 (.fresh 0 0 (!X.w.params.followText "set-order")) } } : Shared) = s3 := ⟨_, rfl⟩
  have heap3 : s3.heap = s2.heap.push { cls := .type "set", dict := none, data := .set #[] 0 (.fresh 0 0 (!X.w.params.followText "set-order")) } := by rw [← es3]
  obtain ⟨H3, eH3⟩ : ∃ H3, upd Hw L (SetO X.w L (fun _ => false) 0) = H3 := ⟨_, rfl⟩
  rw [eH3] at start
  have I3 : Inv X ps σ H3 s3 := by
    rw [← es3, ← eH3]
    refine Iw.laid (t' := s2.toks) (fun b o hb => Heap.get?_push_of_some _ hb) (Nat.le_of_eq eL) ?_
    rw [← eL]
    exact setO_new (setR_fresh X.w)
  have f3 : ∀ b ∈ fp, FpOk X ps H3 b ∧ b < s3.heap.objs.size := fun b mb => by
    obtain ⟨o, ho, _⟩ := T.obj _ _ stw b mb
    have lt := Heap.lt_size ho
    refine ⟨⟨?_, (fw b mb).2⟩, heap3 ▸ (Heap.size_push _ _).symm ▸ Nat.lt_succ_of_lt lt⟩
    rw [← eH3, upd_ne (eL ▸ Nat.ne_of_lt lt)]
    exact (fw b mb).1
  have I4 := block_start I3 ok hN f3
  have none3 : ∀ b ∈ fp, H3 b = none := fun b mb => (f3 b mb).1.1
  have st3 : tn 0 s3.heap := T.keep _ _ _ stw fun b _ o ho => by rw [heap3]; exact Heap.get?_push_of_some _ ho
  obtain ⟨cells, ecells⟩ : ∃ cells, cellsFrom (s3.heap.objs.size + 1) scope.names (cloFrom X.env.cells scope.names []) = cells := ⟨_, rfl⟩
  obtain ⟨ce, ece⟩ : ∃ ce, compEnvC scope cells s3.heap.objs.size X.env = ce := ⟨_, rfl⟩
  have pg := hg s3 H3 s3.heap.objs.size cells fp
  have pt := ht s3 H3 s3.heap.objs.size cells fp
  have pe := he s3 H3 s3.heap.objs.size cells fp
  rw [ecells, ece] at I4
  rw [ece] at pg pt pe
  have locals : ce.locals = s3.heap.objs.size := by rw [← ece]; rfl
  obtain ⟨s4, es4⟩ : ∃ s4 : Shared, ({ s3 with heap := pushCells (s3.heap.push { cls := .type "dict", data := .dict #[] }) scope.names } : Shared) = s4 := ⟨_, rfl⟩
  rw [es4] at I4
  have st4 : tn 0 s4.heap := T.keep _ _ _ st3 fun b _ o ho => by rw [← es4]; exact pushCells_keeps _ _ _ _ (Heap.get?_push_of_some _ ho)
  have still : ∀ {τ : L2.St} {Hx : Hp} {sx : Shared}, Inv (X.blk s3 H3 scope ce fp) [] τ Hx sx → (∀ b ∈ fp, Hx b = none) → ∀ b ∈ fp, FpOk (X.blk s3 H3 scope ce fp) [] Hx b := fun {τ Hx sx} Ix nx b mb =>
    ⟨nx b mb, (Ix.ok.exf b mb).1, Ix.ok.exfs b mb, .inl mb, fun x c e => (Ix.ok.exf b mb).2 x c e, fun p mp => by simp at mp⟩
  have round : codeAny (model X.prog X.w) X.A (.compLoop (.SetComp elt [⟨tg, iter, ifs, 0⟩] scope pos) 0 (.ref it) (.ref L) ce) (compPost (model X.prog X.w) X.A X.xe use Qf (.ref L) s3.heap.objs.size) s4 := by
    refine PpSet.compLoopS_any (fun z sx => ∃ i Hx, Inv (X.blk s3 H3 scope ce fp) [] (wipe σ (own.map (·.2))) Hx sx ∧ tn i sx.heap ∧ (∀ b ∈ fp, Hx b = none) ∧ Btw i z Hx) ?_ z0 ⟨0, H3, I4, st4, none3, start⟩
    rintro z s5 ⟨i, H5, I5, st5, n5, w5⟩
    rcases turn i z H5 w5 with ⟨stop, qq⟩ | ⟨go, Af, less, step⟩
    · refine thnF (T.done (X.blk s3 H3 scope ce fp) rfl rfl rfl calm i [] s5 _ H5 (fun _ _ => False) I5 (still I5 n5) st5 stop) fun r s6 hr6 => ?_
      obtain ⟨rfl, I6⟩ := hr6
      have I7 : Inv X ps σ H5 s6 := I3.call' (ch := fp) I6.os I6.base I6.hok I6.bare fun b mb => let zz := (f3 b mb).1; ⟨zz.2.2.2.1, zz.2.1, zz.2.2.2.2.1, zz.2.2.2.2.2⟩
      have nC : H5 s3.heap.objs.size = none := locals ▸ (show H5 ce.locals = none from I6.free)
      obtain ⟨ns, hn, _⟩ := I6.loc
      exact back L s3.heap.objs.size s6 ns H5 I7 qq (locals ▸ (show s6.heap.Ns ce.locals ns from hn)) (I3.fpOk (Nat.le_refl _) nC)
    · refine thnF (T.item (X.blk s3 H3 scope ce fp) rfl rfl rfl calm i [] s5 _ H5 (fun _ _ => False) I5 (still I5 n5) st5 go) fun r s6 hr6 => ?_
      obtain ⟨u, rfl, h6⟩ := hr6
      refine thnF h6 fun _ s7 h7 => ?_
      obtain ⟨x, H7, I7, r7, y7, st7, n7⟩ := h7
      refine thnF (pg.run _ s7 _ H7 x u _ (I7.pinned (still I7 n7) (T.obj _ _ st7)) r7 (step x H7 y7)) fun _ s8 h8 => ?_
      obtain ⟨τ, H8, I8, wp, q8⟩ := h8
      refine thnF (pt.run _ s8 τ H8 _ I8 q8) fun b s9 h9 => ?_
      obtain ⟨H9, I9, q9⟩ := h9
      have turned : ∀ {sx : Shared} {Hx : Hp}, Inv (X.blk s3 H3 scope ce fp) ([] ++ pinsAt fp s7.heap) τ Hx sx → Af Hx → ∃ y, y < z ∧ ∃ i Hx, Inv (X.blk s3 H3 scope ce fp) [] (wipe σ (own.map (·.2))) Hx sx ∧ tn i sx.heap ∧ (∀ b ∈ fp, Hx b = none) ∧ Btw i y Hx := fun {sx Hx} Ix ax => by
        obtain ⟨y, ly, wy⟩ := less Hx ax
        have pinned : ∀ b ∈ fp, ∀ o, s7.heap.get? b = some o → sx.heap.get? b = some o ∧ Hx b = none := fun b mb o ho => by
          have zz := Ix.pin (b, o) (List.mem_append_right _ (List.mem_append_right _ (mem_pinsAt mb ho)))
          exact ⟨zz.1, zz.2.1⟩
        have len : (wipe σ (own.map (·.2))).length = τ.length := by rw [← wp, wipe_length]
        refine ⟨y, ly, i + 1, Hx, (Ix.unpinned (pins := [])).weak len (fun j v hv => ?_), T.keep _ _ _ st7 fun b mb o ho => (pinned b mb o ho).1, fun b mb => ?_, wy⟩
        · rw [← wp] at hv
          exact (wipe_some hv).1
        · obtain ⟨o, ho, _⟩ := T.obj _ _ st7 b mb
          exact (pinned b mb o ho).2
      cases b with
      | false =>
        rw [if_neg Bool.false_ne_true] at q9 ⊢
        exact turned I9 q9
      | true =>
        rw [if_pos rfl] at q9 ⊢
        refine thnF (pe.run _ s9 τ H9 _ I9 q9) fun u s10 h10 => ?_
        obtain ⟨yv, H10, I10, r10, k, S, n, rfl, hL10, small, ax⟩ := h10
        obtain ⟨tk, rfl⟩ := r10
        exact put_int (X := X.blk s3 H3 scope ce fp) I10 hL10 small fun s11 I11 => turned I11 ax
  rw [es3]
  have fin := PpSet.codeAny_compStart_set round (T.self X.A 0 _ _ _ st4 round)
  rw [← es4, ← ece, ← ecells] at fin
  exact fin
theorem pe_scI {elt tg iter : Expr} {ifs : List Expr} {scope : Scope} {own : List (PySem.Str × Nat)} {pos : Pos} {walk : TI} {g : TG} {cond : TT} {item : TE} (calm : X.calm = true) (hN : X.N.Nodup) (hi : PI X tg iter walk) (ok : BlkOk X.N X.env.scope scope own)
    (hg : AnyBlk X scope fun Y => PG Y tg g) (ht : AnyBlk X scope fun Y => PTs Y ifs cond) (he : AnyBlk X scope fun Y => PE Y elt item) (fold : ∀ x, foldedSetIterable iter X.env x = pure x) : PE X (.SetComp elt [⟨tg, iter, ifs, 0⟩] scope pos) (tScI X.w walk g cond item (own.map (·.2))) := by
  constructor
  intro ps s σ H Q I h
  rw [PpSet.eval_SetComp]
  refine scI_all calm hN I hi ok hg ht he fold h fun L C s1 ns H1 I1 q hn f => ⟨ns, hn, fun hh frame => ?_⟩
  obtain ⟨a0, a1, _, a3, a4, a5⟩ := f
  exact ⟨.ref L, H1, I1.turned (t' := s1.toks) (fun b o nb ho => (frame.2 b nb).trans ho) a0 a1 a3 a4 a5, rfl, q⟩
/-- how many there are, of a set of numbers -/
def rLenS (w : World) : List V → Hp → VK → Prop := fun xs H Q => ∃ (L : Addr) (S : Int → Bool) (n : Nat), xs = [V.ref L] ∧ H L = some (SetO w L S n) ∧ n ≤ 1000 ∧ Q (.int (n : Nat)) H
theorem cr_lenS : CallR X (.builtin "len") (rLenS X.w) := by
  intro ps s σ H xs us Q I r h
  obtain ⟨L, S, n, rfl, hL, hn, q⟩ := h
  cases r with
  | cons r1 rt =>
    cases rt
    cases r1
    have hS : s.heap.SetOf (intKind X.prog X.w) L S n := (setO_get I hL).setOf
    obtain ⟨o, es, ep, t, ho, hex, hd, _, _, _, hf, hz⟩ := hS
    exact call_len_set ho hex hd hf (by rw [hz]; omega) ⟨.int n, H, I.tok _, ⟨_, by rw [hz]⟩, q⟩
end
/-- the numbers, each once -/
def dedI (ns : List Int) : List Int := ns.foldl (fun a y => if y ∈ a then a else a ++ [y]) []
theorem dedI_snoc (ns : List Int) (k : Int) : dedI (ns ++ [k]) = if k ∈ dedI ns then dedI ns else dedI ns ++ [k] := by
  unfold dedI
  rw [List.foldl_append]
  rfl
theorem dedI_mem (ns : List Int) (j : Int) : j ∈ dedI ns ↔ j ∈ ns := by
  suffices h : ∀ (ns a : List Int), j ∈ ns.foldl (fun a y => if y ∈ a then a else a ++ [y]) a ↔ j ∈ a ∨ j ∈ ns by unfold dedI; simpa using h ns []
  intro ns
  induction ns with
  | nil => intro a; simp
  | cons y ns ih =>
    intro a
    rw [List.foldl_cons, ih]
    by_cases hy : y ∈ a
    · rw [if_pos hy]
      constructor
      · rintro (z | z)
        · exact .inl z
        · exact .inr (by simp [z])
      · rintro (z | z)
        · exact .inl z
        · rcases List.mem_cons.mp z with rfl | z
          · exact .inl hy
          · exact .inr z
    · rw [if_neg hy]
      simp [or_assoc]
theorem dedI_le (ns : List Int) : (dedI ns).length ≤ ns.length := by
  suffices h : ∀ (ns a : List Int), (ns.foldl (fun a y => if y ∈ a then a else a ++ [y]) a).length ≤ a.length + ns.length by unfold dedI; simpa using h ns []
  intro ns
  induction ns with
  | nil => intro a; simp
  | cons y ns ih =>
    intro a
    rw [List.foldl_cons]
    refine Nat.le_trans (ih _) ?_
    split
    · simp
    · simp
      omega
theorem dedI_nodup {ns : List Int} (h : ns.Nodup) : dedI ns = ns := by
  suffices z : ∀ (ns a : List Int), (a ++ ns).Nodup → ns.foldl (fun a y => if y ∈ a then a else a ++ [y]) a = a ++ ns by unfold dedI; simpa using z ns [] (by simpa using h)
  intro ns
  induction ns with
  | nil => intro a _; simp
  | cons y ns ih =>
    intro a hn
    have hy : y ∉ a := fun hy => (List.nodup_append.mp hn).2.2 y hy y (by simp) rfl
    rw [List.foldl_cons, if_neg hy, ih _ (by simpa using hn)]
    simp
noncomputable def scL (gd : Mem → Prop) (pt : Pat) (t : MT) (x : ME) (e : En) : List D → List Int → M (List Int)
  | [], acc => fun m => if gd m then .ok acc m else .bad
  | d :: ds, acc => fun m => if gd m then (match patM pt d e with
      | some e1 => (t e1 m).calm.bind fun b m1 => if b = true then (x e1 m1).calm.bind fun y m2 => (match y with
          | .int k => if acc.length < 900 then scL gd pt t x e ds (acc ++ [k]) m2 else .bad
          | _ => .bad) else scL gd pt t x e ds acc m1
      | none => .bad) else .bad
noncomputable def mLenSc (f : MI) (pt : Pat) (t : MT) (x : ME) (vs : List Nat) : ME := fun e m => (f e m).bind fun w m1 => (scL w.gd pt t x (wipeM e vs) w.its [] m1).bind fun ns m2 => if ns.length ≤ 900 then .ok (.int ((dedI ns).length : Nat)) m2 else .bad
section
variable {X : Cx} {W : WX} {tg : Expr} {pos : Pos}
/-- the set at L, unlisted, may change -/
theorem Ok.side {w : World} {p : List Addr} {m : Mem} {H : Hp} {g : Gx} {L : Addr} {S S' : Int → Bool} {n n' : Nat} (k : Ok g p m H) (nL : L ∉ p) (eL : H L = some (SetO w L S n)) : Ok g p m (upd H L (SetO w L S' n')) := by
  unfold SetO at eL
  have sq : ∀ {b ys}, SqT g.K H b ys → SqT g.K (upd H L (SetO w L S' n')) b ys := fun {b ys} z => by
    rcases z with (z | ⟨w', z⟩) | z
    · exact .inl (.inl (by rw [upd_ne]; exact z; intro e; subst e; rw [eL] at z; cases z))
    · exact .inl (.inr ⟨w', by rw [upd_ne]; exact z; intro e; subst e; rw [eL] at z; cases z⟩)
    · exact .inr z
  have fz : ∀ {b ys}, Fz g.K H b ys → Fz g.K (upd H L (SetO w L S' n')) b ys := fun {b ys} z => by
    rcases z with ⟨w', z⟩ | z
    · exact .inl ⟨w', by rw [upd_ne]; exact z; intro e; subst e; rw [eL] at z; cases z⟩
    · exact .inr z
  have all : ∀ (ds : List D) (ws : List V), RDs g p H ds ws → RDs g p (upd H L (SetO w L S' n')) ds ws := by
    intro ds ws rr
    exact RDs.rec (g := g) (p := p) (H := H) (motive_1 := fun d v _ => RD g p (upd H L (SetO w L S' n')) d v) (motive_2 := fun d v _ => RDs g p (upd H L (SetO w L S' n')) d v) .non .bl .int .str (fun h _ ih => .tup (sq h) ih) (fun h => .ref h) (fun h => .fn h) (fun h _ ih => .fro (fz h) ih) .hot .nil (fun _ _ i1 i2 => .cons i1 i2) rr
  refine ⟨k.len, k.nd, fun n b ob z1 z2 => ?_⟩
  have nb : b ≠ L := fun z => by
    subst z
    exact nL (List.mem_of_getElem? z1)
  have ro := k.ob n b ob z1 z2
  exact ro.mv (fun _ q => by rw [upd_ne nb]; exact q) all
theorem Ext.keeps {g : Gx} {p p1 : List Addr} {m1 : Mem} {H H1 : Hp} {L : Addr} {o : HO} (a : Ext g p H p1 m1 H1) (nL : L ∉ p) (eL : H L = some o) : L ∉ p1 ∧ H1 L = some o := by
  refine ⟨fun z => ?_, a.fr L _ eL nL⟩
  obtain ⟨rr, er, hr⟩ := a.pre
  rw [er] at z
  rcases List.mem_append.mp z with z | z
  · exact nL z
  · have z1 := hr L z
    rw [eL] at z1
    cases z1
def Holds (w : World) (H : Hp) (L : Addr) (ns : List Int) : Prop := ∃ S : Int → Bool, H L = some (SetO w L S (dedI ns).length) ∧ ∀ j, S j = decide (j ∈ ns)
theorem sc_in {f : MI} {pt : Pat} {t : MT} {x : ME} {vs : List Nat} {σ : L2.St} {H : Hp} {Q : VK} (hs : ∀ i ∈ pt.slots, i ∈ vs) (h : rdE (gx X) W (mLenSc f pt t x vs) σ H Q) : tScI X.w (rdI (gx X) W f) (patT X.K pt) (rdT (gx X) W0 t) (rdE (gx X) W0 x) vs σ H (fun v H1 => rLenS X.w [v] H1 Q) := by
  obtain ⟨e, p, m, k, r, q⟩ := h
  refine ⟨e, p, m, k, r, ?_⟩
  unfold mLenSc at q
  cases h1 : f e m with
  | bad => rw [h1] at q; exact q
  | exc c m1 => rw [h1] at q; exact q
  | ok w m1 =>
    rw [h1] at q
    intro p1 H1 J e1 wk L hL
    have q1 := GoV.step k e1 q
    change GoV _ _ _ ((scL w.gd pt t x (wipeM e vs) w.its [] m1).bind _) _ _ at q1
    have xL : Ext (gx X) p1 H1 p1 m1 (upd H1 L (SetO X.w L (fun _ => false) 0)) := Ext.fresh e1.ok hL
    have hLp : L ∉ p1 := fun z => e1.ok.there z hL
    refine ⟨fun i n H' => ∃ p' m' acc, Ext (gx X) p1 H1 p' m' H' ∧ L ∉ p' ∧ Holds X.w H' L acc ∧ i + n = w.its.length ∧
      GoV (gx X) p1 H1 ((scL w.gd pt t x (wipeM e vs) (w.its.drop i) acc m').bind fun ns m2 => if ns.length ≤ 900 then .ok (.int ((dedI ns).length : Nat)) m2 else .bad) Q (WE W σ), ⟨w.its.length, p1, m1, [], xL, hLp, ⟨_, upd_same, by simp⟩, by omega, q1⟩, ?_⟩
    rintro i n H2 ⟨p2, m2, acc, x2, nL, hold, hin, q2⟩
    have r2 := (r.ext k e1).ext e1.ok x2
    obtain ⟨S, eL, hS⟩ := hold
    cases n with
    | zero =>
      have hi : w.its.length ≤ i := by omega
      rw [List.drop_eq_nil_of_le hi] at q2
      unfold scL at q2
      split at q2
      · rename_i hgd
        refine .inl ⟨(wk i p2 m2 H2 (x2.w e1.ok) hgd).2 hi, ?_⟩
        change GoV _ _ _ (if acc.length ≤ 900 then _ else _) _ _ at q2
        split at q2
        · rename_i hl
          have := dedI_le acc
          exact ⟨L, S, _, rfl, eL, by omega, q2 p2 H2 _ x2 (.int _)⟩
        · exact q2.elim
      · exact q2.elim
    | succ n =>
      have hi : i < w.its.length := by omega
      rw [List.drop_eq_getElem_cons hi] at q2
      unfold scL at q2
      split at q2
      · rename_i hgd
        obtain ⟨go, yl⟩ := (wk i p2 m2 H2 (x2.w e1.ok) hgd).1 _ (List.getElem?_eq_getElem hi)
        refine .inr ⟨go, fun H' => ∃ p' m' acc, Ext (gx X) p1 H1 p' m' H' ∧ L ∉ p' ∧ Holds X.w H' L acc ∧
          GoV (gx X) p1 H1 ((scL w.gd pt t x (wipeM e vs) (w.its.drop (i + 1)) acc m').bind fun ns m2 => if ns.length ≤ 900 then .ok (.int ((dedI ns).length : Nat)) m2 else .bad) Q (WE W σ),
          fun H' ⟨p', m', acc', y1, y2, y3, y5⟩ => ⟨n, Nat.lt_succ_self n, p', m', acc', y1, y2, y3, by omega, y5⟩, fun v H3 hy => ?_⟩
        obtain ⟨x3, rv⟩ := yl v H3 hy
        have x13 := x2.trans e1.ok x3
        have r3 := (r2.ext x2.ok x3).wipe vs
        obtain ⟨nL3, eL3⟩ := x3.keeps nL eL
        cases hpt : patM pt w.its[i] (wipeM e vs) with
        | none => rw [hpt] at q2; exact q2.elim
        | some e3 =>
          rw [hpt] at q2
          refine pat_in rv r3 hs hpt fun σ3 ro3 hw => ⟨hw.trans ?_, ?_⟩
          · apply List.ext_getElem?
            intro j
            rw [wipe_at, wipe_at]
            by_cases hj : j ∈ vs
            · simp [hj, Option.map_map, Function.comp_def]
            · simp [hj, wipe_at]
          · refine ⟨e3, p2, m2, x3.ok, ro3, ?_⟩
            change GoV _ _ _ (((t e3 m2).calm.bind _).bind _) _ _ at q2
            cases h3 : t e3 m2 with
            | bad => rw [h3] at q2; exact q2
            | exc c m3 => rw [h3] at q2; exact q2.elim
            | ok b m3 =>
              rw [h3] at q2
              intro p4 H4 x4
              have x14 := x13.trans e1.ok x4
              obtain ⟨nL4, eL4⟩ := x4.keeps nL3 eL3
              cases b with
              | false => exact ⟨p4, m3, acc, x14, nL4, ⟨S, eL4, hS⟩, q2⟩
              | true =>
                refine ⟨e3, p4, m3, x4.ok, ro3.ext x3.ok x4, ?_⟩
                change GoV _ _ _ (((x e3 m3).calm.bind _).bind _) _ _ at q2
                cases h4 : x e3 m3 with
                | bad => rw [h4] at q2; exact q2
                | exc c m4 => rw [h4] at q2; exact q2.elim
                | ok y m4 =>
                  rw [h4] at q2
                  intro p5 H5 vy x5 ry
                  have x15 := x14.trans e1.ok x5
                  obtain ⟨nL5, eL5⟩ := x5.keeps nL4 eL4
                  cases ry with
                  | int z =>
                    change GoV _ _ _ ((if acc.length < 900 then _ else _ : R (List Int)).bind _) _ _ at q2
                    split at q2
                    · rename_i hsz
                      have hde := dedI_le acc
                      refine ⟨z, S, _, rfl, eL5, by unfold scanBound; omega, p5, m4, acc ++ [z], ⟨Ok.side x5.ok nL5 eL5, x15.pre, fun b o zo zb => ?_, fun b o u z => by rw [upd_ne (ne_of_none z hL)]; exact x15.sea b o u z⟩, nL5, ⟨fun a => S a || decide (a = z), ?_, fun j => ?_⟩, q2⟩
                      · rw [upd_ne (ne_of_none zo hL)]
                        exact x15.fr b o zo zb
                      · rw [upd_same, dedI_snoc, hS z]
                        by_cases hz : z ∈ acc
                        · rw [if_pos (by simpa using hz), if_pos ((dedI_mem acc z).mpr hz)]
                        · rw [if_neg (by simpa using hz), if_neg (fun h => hz ((dedI_mem acc z).mp h)), List.length_append]
                          rfl
                      · show (S j || decide (j = z)) = decide (j ∈ acc ++ [z])
                        rw [hS j]
                        simp
                    · exact q2.elim
                  | _ => exact q2.elim
      · exact q2.elim
theorem so_lenSc {elt iter : Expr} {ifs : List Expr} {scope : Scope} {own : List (Str × Nat)} {f : MI} {pt : Pat} {t : MT} {x : ME} {pf ps : Pos} (hc : X.calm = true) (hN : X.N.Nodup) (hgl : Gl X "len") (hm : X.mg "len" = none) (hi : SI X W tg iter f) (ok : BlkOk X.N X.env.scope scope own)
    (hg : AnyBlk X scope fun Y => PG Y tg (patT X.K pt)) (ht : AnyBlk X scope fun Y => PTs Y ifs (rdT (gx X) W0 t)) (he : AnyBlk X scope fun Y => SE Y W0 elt x)
    (hsl : ∀ i ∈ pt.slots, i ∈ own.map (·.2) := by decide) (hs : ∀ y, foldedSetIterable iter X.env y = pure y := by intro _; rfl)
    (h1 : starEach [.SetComp elt [⟨tg, iter, ifs, 0⟩] scope ps] X.env = (false, eval (.SetComp elt [⟨tg, iter, ifs, 0⟩] scope ps) X.env) :: starEach [] X.env := by rfl) : SE X W (.Call (.Name "len" pf) [.SetComp elt [⟨tg, iter, ifs, 0⟩] scope ps] [] pos) (mLenSc f pt t x (own.map (·.2))) :=
  pe_imp (pe_callB cr_lenS hgl hm (by decide +kernel) (pa_cons (pe_scI (item := rdE (gx X) W0 x) hc hN hi ok hg ht he hs) pa_nil h1) (by decide) (by decide) h1 rfl) fun σ H Q h => sc_in hsl h
end
end Mi
/-! ### in, not in; the reverse of a list -/
namespace Mi
open PySem PySem.Spec PyProof.Rows L2 Classical
def flatD : D → Bool
  | .non => true
  | .bl _ => true
  | .int _ => true
  | .str _ => true
  | _ => false
def eqF : D → D → Bool
  | .non, .non => true
  | .bl a, .bl b => a == b
  | .bl a, .int b => (if a then 1 else 0) == b
  | .int a, .bl b => a == (if b then 1 else 0)
  | .int a, .int b => a == b
  | .str a, .str b => a == b
  | _, _ => false
theorem flat_of {g : Gx} {p : List Addr} {H : Hp} {d : D} {v : V} (r : RD g p H d v) (h : flatD d = true) : flatV v = true := by
  cases r <;> first | rfl | (cases h)
theorem eqF_of {g : Gx} {p : List Addr} {H : Hp} {d e : D} {v u : V} (r : RD g p H d v) (r2 : RD g p H e u) (h : flatD d = true) (h2 : flatD e = true) : eqV v u = eqF d e := by
  cases r <;> first | (cases h; done) | (cases r2 <;> first | rfl | (cases h2; done))
theorem flats_of {g : Gx} {p : List Addr} {H : Hp} : ∀ {ds : List D} {vs : List V}, RDs g p H ds vs → ds.all flatD = true → vs.all flatV = true
  | _, _, .nil, _ => rfl
  | _, _, .cons r t, h => by
    rw [List.all_cons, Bool.and_eq_true] at h ⊢
    exact ⟨flat_of r h.1, flats_of t h.2⟩
theorem ins_of {g : Gx} {p : List Addr} {H : Hp} {e : D} {u : V} (r2 : RD g p H e u) (h2 : flatD e = true) : ∀ {ds : List D} {vs : List V}, RDs g p H ds vs → ds.all flatD = true → inV u vs = ds.any fun d => eqF d e
  | _, _, .nil, _ => rfl
  | _, _, .cons r t, h => by
    rw [List.all_cons, Bool.and_eq_true] at h
    have ih := ins_of r2 h2 t h.2
    unfold inV at ih ⊢
    rw [List.any_cons, List.any_cons, eqF_of r r2 h.1 h2, ih]
def dInB (neg : Bool) (d e : D) (m : Mem) : R D := match seqOf e m with
  | some xs => if flatD d = true ∧ xs.all flatD = true then .ok (.bl (if neg then !(xs.any fun x => eqF x d) else xs.any fun x => eqF x d)) m else .bad
  | none => .bad
def dIn : D → D → M D := dInB false
def dNotIn : D → D → M D := dInB true
section
variable {X : Cx} {W : WX} {pos : Pos}
theorem rin_of {neg : Bool} {x y : V} {H : Hp} {Q : VK} (h : rd2 (gx X) (dInB neg) x y H Q) : rIn X.K neg x y H Q := by
  obtain ⟨p, m, d, e, k, r1, r2, q⟩ := h
  unfold dInB at q
  cases h1 : seqOf e m with
  | none => rw [h1] at q; exact q.elim
  | some xs =>
    rw [h1] at q
    change GoV _ _ _ (if flatD d = true ∧ xs.all flatD = true then _ else _) _ _ at q
    split at q
    · rename_i hf
      obtain ⟨a, vs, rfl, hs, rv⟩ := seq_of k r2 h1
      refine ⟨a, vs, rfl, hs, flat_of r1 hf.1, flats_of rv hf.2, ?_⟩
      rw [ins_of r1 hf.1 rv hf.2]
      exact q p H _ (Ext.refl k) (.bl _)
    · exact q.elim
theorem od_in : OpR X (compareOp .In) (rd2 (gx X) dIn) := fun pins s σ H x y v u Q I rx ry h => op_in_seq pins s σ H x y v u Q I rx ry (rin_of h)
theorem od_notin : OpR X (compareOp .NotIn) (rd2 (gx X) dNotIn) := fun pins s σ H x y v u Q I rx ry h => op_notIn_seq pins s σ H x y v u Q I rx ry (rin_of h)
/-- xs[::-1] of a list -/
def dRev (d : D) (m : Mem) : R D := match d with
  | .ref n => match m[n]? with
    | some (.lst xs) => .ok (.ref m.length) (m ++ [.lst xs.reverse])
    | _ => .bad
  | _ => .bad
theorem so_rev {x : Expr} {a : ME} {k : Nat} {p1 p2 p3 : Pos} (h : SE X W x a) : SE X W (.Subscript x (.Slice none none (some (.UnaryOp .USub (.Constant (.int 1) k p1) p2)) p3) pos) (mUn dRev a) := by
  refine pe_imp (pe_revL h) fun σ H Q hh => ?_
  obtain ⟨e, p, m, ok, r, q⟩ := hh
  refine ⟨e, p, m, ok, r, ?_⟩
  unfold mUn at q
  cases h1 : a e m with
  | bad => rw [h1] at q; exact q
  | exc c m1 => rw [h1] at q; exact q
  | ok d m1 =>
    rw [h1] at q
    intro p1 H1 v e1 r1
    have q1 := GoV.step ok e1 q
    change GoV _ _ _ (dRev d m1).calm _ _ at q1
    unfold dRev at q1
    cases r1 with
    | @ref n b h2 =>
      cases h3 : m1[n]? with
      | none => simp only [h3] at q1; exact q1.elim
      | some o =>
        cases o with
        | dic kvs => simp only [h3] at q1; exact q1.elim
        | fdic kvs => simp only [h3] at q1; exact q1.elim
        | ins _ _ => simp only [h3] at q1; exact q1.elim
        | dT _ => simp only [h3] at q1; exact q1.elim
        | lst xs =>
          simp only [h3] at q1
          obtain ⟨vs, hv, rv⟩ := e1.ok.ob n b _ h2 h3
          refine ⟨b, vs, rfl, .inl (.inl hv), fun c hc => ?_⟩
          have z := new_lst e1.ok rv.rev hc
          exact q1 _ _ _ z.1 z.2
    | _ => exact q1.elim
/-- {} -/
def mDict0 : ME := fun _ m => .ok (.ref m.length) (m ++ [.dic []])
theorem so_dict0 : SE X W (.Dict [] [] pos) mDict0 := by
  refine pe_imp pe_dnewK fun σ H Q hh => ?_
  obtain ⟨e, p, m, ok, r, q⟩ := hh
  intro a ha
  have z : Ext (gx X) p H (p ++ [a]) (m ++ [.dic []]) (upd H a (.dK [])) := Ext.new ok ha fun H' fr ea go => ⟨[], ea, rfl, .nil⟩
  refine q _ _ _ z (.ref ?_)
  rw [← ok.len, List.getElem?_append_right (Nat.le_refl _)]
  simp
/-- bool of a number or a truth value -/
def dBool (ds : List D) (m : Mem) : R D := match ds with
  | [.int i] => .ok (.bl (i != 0)) m
  | [.bl b] => .ok (.bl b) m
  | _ => .bad
theorem cd_bool : CallR X (.type "bool") (rdC (gx X) dBool) := by
  intro pins s σ H xs us Q I r hq
  obtain ⟨p, m, ds, k, rd, q⟩ := hq
  refine call_bool1 pins s σ H xs us Q I r ?_
  cases rd with
  | nil => exact q.elim
  | cons r1 r2 =>
    cases r2 with
    | cons _ _ =>
      unfold dBool at q
      split at q <;> rename_i h <;> first | exact q.elim | (cases h)
    | nil =>
      cases r1 with
      | int i => exact .inl ⟨i, rfl, q p H _ (Ext.refl k) (.bl _)⟩
      | bl b => exact .inr ⟨b, rfl, q p H _ (Ext.refl k) (.bl _)⟩
      | _ => exact q.elim
/-- tuple(range(..)) -/
def mTupRg (b : ME) : ME := fun e m => (b e m).bind fun d m1 => match d with
  | .int j => if 0 ≤ j ∧ j ≤ 1000000 then .ok (.tup (rgD 0 j.toNat)) m1 else .bad
  | _ => .bad
theorem so_tupRg {xa : Expr} {b : ME} {pf p2 pos2 : Pos} (hc : X.calm = true) (hg : Gl X "tuple") (hm : X.mg "tuple" = none) (hg2 : Gl X "range") (hm2 : X.mg "range" = none) (h : SE X W xa b) (na : starEach [xa] X.env = (false, eval xa X.env) :: starEach [] X.env := by rfl)
    (nb : starEach [.Call (.Name "range" p2) [xa] [] pos2] X.env = (false, eval (.Call (.Name "range" p2) [xa] [] pos2) X.env) :: starEach [] X.env := by rfl) : SE X W (.Call (.Name "tuple" pf) [.Call (.Name "range" p2) [xa] [] pos2] [] pos) (mTupRg b) := by
  refine pe_imp (pe_tupRg hc hg hm (prg_1 hg2 hm2 h na) nb) fun σ H Q hh => ?_
  obtain ⟨e, p, m, k, r, q⟩ := hh
  refine ⟨e, p, m, k, r, ?_⟩
  unfold mTupRg at q
  cases h1 : b e m with
  | bad => rw [h1] at q; exact q
  | exc c m1 => rw [h1] at q; exact q
  | ok d m1 =>
    rw [h1] at q
    intro p1 H1 v e1 r1
    have q1 := GoV.step k e1 q
    cases r1 with
    | int j =>
      change GoV _ _ _ (if 0 ≤ j ∧ j ≤ 1000000 then _ else _) _ _ at q1
      split at q1
      · rename_i hj
        refine ⟨j, rfl, RgOk.of_le (by omega) (by omega) (by omega) hj.1, fun c hc' => ?_⟩
        have rr : RDs (gx X) p1 H1 (rgD 0 j.toNat) (rgV 0 j) := by
          unfold rgD rgV
          rw [show (j - 0).toNat = j.toNat by omega]
          exact RDs.rg 0 (fun i => ((i : Nat) : Int)) _
        have z := Ext.fresh (o := .tup (rgV 0 j)) e1.ok hc'
        exact q1 _ _ _ z (.tup (.inl (.inl upd_same)) (rr.ext e1.ok z))
      · exact q1.elim
    | _ => exact q1.elim
end
end Mi
/-! ### a law that asks repr: nothing is being told around it -/
namespace Mi
open PySem PySem.Spec PyProof.Rows L2 Classical
/-- what a def promises where nothing is being shown around it -/
structure FnG (P : Program) (w : World) (K : PySem.W.Frag) (mg : Str → Option Value) (base : Heap) (k : Nat) (f : Addr) (fd : FuncData) (ps : List Str) (sp : Sp) : Prop where
  go : ∀ (A : Around) (outer : List Env) (s : Shared) (H : Hp) (args : Args) (us : List Value) (vs : List V) (Q : VK) (E : XK), Room k A → A.guards = some [] → Env0 P w K mg base A outer s H → BindsTo s fd args (ps.zip us) → Vals vs us → sp vs H Q E → codeAny (model P w) A (.call (.ref f) args) (CR (L2.CX P w) outer P w H s Q E) s
theorem FnG.imp {P : Program} {w : World} {K : PySem.W.Frag} {mg : Str → Option Value} {base : Heap} {k : Nat} {f : Addr} {fd : FuncData} {ps : List Str} {sp sp' : Sp} (F : FnG P w K mg base k f fd ps sp) (h : ∀ vs H Q E, sp' vs H Q E → sp vs H Q E) : FnG P w K mg base k f fd ps sp' :=
  ⟨fun A outer s H args us vs Q E r g e b v q => F.go A outer s H args us vs Q E r g e b v (h _ _ _ _ q)⟩
theorem fnG_of {P : Program} {w : World} {K : PySem.W.Frag} {mg : Str → Option Value} {base : Heap} {x qual : Str} {st : Stmt} {f : Addr} {fd : FuncData} {N ps : List Str} {k : Nat} {sp : Sp} (F : Fun K x qual st f fd) (S : FnScope N ps (defScope st)) (len : ∀ vs H Q E, sp vs H Q E → vs.length = ps.length)
    (body : ∀ (cdv : Value) (A : Around) (outer : List Env) (s : Shared) (H : Hp) (vs : List V) (Q : VK) (E : XK), Room k (A.deeper (envOfC qual (defScope st) s.heap.objs.size f cdv)) → A.guards = some [] → sp vs H Q E → ∃ t, PSs (cxOf (L2.CX P w) P w K mg base N qual (defScope st) f cdv A outer s H E) (defBody st) t ∧ t { nx := fun _ H' => Q .non H', rt := Q } (start N vs) H) : FnG P w K mg base (k + 1) f fd ps sp := by
  obtain ⟨oc, od, kV, doc, pm, an, cdv, ct, osl, rfl, lk, hcd⟩ := F.ex
  constructor
  intro A outer s H args us vs Q E room gd env0 bind rel hsp
  have inK : K.In s.heap := env0.mod.kin.keeps fun b o hb => (env0.bs b o hb).1
  have lim : s.heap.NoLimit := env0.mod.nolimit.keeps fun b o hb => (env0.bs b o hb).1
  have kinds : ∀ y ∈ ps.zip us, (defScope st).names.lookup y.1 = some .local ∨ ((defScope st).names.lookup y.1 = some .cell ∧ ((cellsFrom (s.heap.objs.size + 1) (defScope st).names []).lookup y.1).isSome = true) := by
    rintro ⟨nm, v⟩ hy
    exact (S.par nm (List.of_mem_zip hy).1).elim .inl fun q => .inr ⟨q, PySem.W.cellsFrom_some _ _ _ (.inl q)⟩
  refine codeAny_call_function room.depth (inK _ _ lk) rfl S.co S.gen rfl (PySem.W.codeRec_of inK hcd) (bind _ _ _ _ ?_)
  refine wpAny_newFunctionEnv_cells S.kind kinds fun env he s1 made => ?_
  subst he
  refine ⟨lim.keeps made.toInCall.keep, codeAny_func ?_⟩
  obtain ⟨t, ht, hq⟩ := body cdv A outer s H vs Q E (room.deeper _) gd hsp
  have I : Inv (cxOf (L2.CX P w) P w K mg base N qual (defScope st) f cdv A outer s H E) [] (L2.start N vs) H s1 := inv_start S room.hd env0 (len _ _ _ _ hsp) rel made
  refine wpAny_mono (ht.run [] s1 (start N vs) H _ I hq) (fun fl s' hs => ?_) fun e s' hs => hs
  cases fl with
  | ret u =>
    obtain ⟨v, τ, H', J, rv, q⟩ := hs
    exact ⟨v, H', J.os, J.bare, J.base, J.hok, rv, q⟩
  | next =>
    obtain ⟨τ, H', J, q⟩ := hs
    exact ⟨.non, H', J.os, J.bare, J.base, J.hok, rfl, q⟩
  | brk =>
    obtain ⟨_, _, _, q⟩ := hs
    exact q.elim
  | cont =>
    obtain ⟨_, _, _, q⟩ := hs
    exact q.elim
theorem fn_okG {P : Program} {w : World} {K : PySem.W.Frag} {mg : Str → Option Value} {base : Heap} {x qual : Str} {st : Stmt} {f : Addr} {fd : FuncData} {N ps : List Str} {k : Nat} {b : MS} (F : Fun K x qual st f fd) (S : FnScope N ps (defScope st))
    (hb : ∀ (cdv : Value) (A : Around) (outer : List Env) (s : Shared) (H : Hp) (E : XK), Room k (A.deeper (envOfC qual (defScope st) s.heap.objs.size f cdv)) → A.guards = some [] → SB (cxOf (L2.CX P w) P w K mg base N qual (defScope st) f cdv A outer s H E) (fun c d _ H => E c d H) (defBody st) b) :
    FnG P w K mg base (k + 1) f fd ps (spM ⟨K, mg⟩ ps.length (runM N.length b)) := by
  refine fnG_of F S (fun vs H Q E h => ?_) (fun cdv A outer s H vs Q E hr gd h => ?_)
  · obtain ⟨_, _, _, h, _⟩ := h
    exact h
  · obtain ⟨p, m, ds, hl, ok, r, q⟩ := h
    refine ⟨_, hb cdv A outer s H E hr gd, _, p, m, ok, RDo.start (N := N) r, ?_⟩
    unfold runM at q
    split at q <;> rename_i h1
    · rw [h1]
      exact fun p' H' σ' x _ => q p' H' _ x .non
    · rw [h1]
      exact fun p' H' v x y => q p' H' v x y
    · rw [h1]
      exact fun p' H' σ' C x _ y => q p' H' C x y
    · exact q.elim
/-- the law is called -/
theorem law_callG {P : Program} {w : World} {K : PySem.W.Frag} {mg mb : Str → Option Value} {k : Nat} {fa a : Addr} {fd : FuncData} {x : Str} {sp : Sp} {s : Shared} {vs : List Value} {ns : List Int} (KX : K.In s.heap) (hns : s.heap.Ns mainGlobals mg) (hb : s.heap.Ns builtinsNs mb) (hbb : ∀ x : Str, x ≠ "__name__" → mb x = bootBuiltins x) (hlim : s.heap.NoLimit) (hg : s.gens = #[])
    (ha : s.heap.get? a = some { cls := .type "list", data := .seq vs.toArray }) (hi : IntsAre vs ns) (hl : ns.length ≤ sizeLine) (hr : Room k callerA) (F : ∀ base : Heap, K.In base → base.Ns mainGlobals mg → FnG P w K mg base k fa fd [x] sp) (hbind : ∀ (s : Shared) (u : Value), BindsTo s fd ⟨[u], []⟩ [(x, u)])
    (hsp : ∀ H : Hp, Only H → SqL K H a (ns.map V.int) → sp [.ref a] H (fun v _ => v = .bl true) fun _ _ _ => False) (hCX : ∀ H e s', L2.CX P w [] H s (fun _ _ _ => False) e s' → False) :
    codeAny (model P w) callerA (.call (.ref fa) ⟨[.ref a], []⟩) (fun r s' => r = .ok (.ret (.bool true)) ∧ OldK s.heap s'.heap ∧ s'.os = s.os ∧ AllBare s'.gens) s := by
  have main : ∀ H : Hp, Only H → SqL K H a (ns.map V.int) → HOk P w H s.heap → (∀ b, H b ≠ none → b = a) → (H a ≠ none → K.lookup a = none) → codeAny (model P w) callerA (.call (.ref fa) ⟨[.ref a], []⟩) (fun r s' => r = .ok (.ret (.bool true)) ∧ OldK s.heap s'.heap ∧ s'.os = s.os ∧ AllBare s'.gens) s := by
    intro H only sq hok isA noK
    have unseen : ∀ {b : Addr} {o : Obj}, s.heap.get? b = some o → (∀ es ep, o.data = .dict es ep → H b = none) := fun {b o} hb0 es ep hd => by
      cases q : H b with
      | none => rfl
      | some u =>
        obtain rfl := isA b (by rw [q]; simp)
        rw [ha] at hb0
        cases hb0
        cases hd
    have ns' : ∀ {b : Addr} {f : Str → Option Value}, s.heap.Ns b f → (hidT s.heap H).Ns b f := by
      rintro b f ⟨o, es, ep, ho, hd, rest⟩
      exact ⟨o, es, ep, hidT_get ho (unseen ho es ep hd), hd, rest⟩
    have inK : K.In (hidT s.heap H) := fun b o hbo => hidT_get (KX b o hbo) (by
      cases q : H b with
      | none => rfl
      | some u =>
        obtain rfl := isA b (by rw [q]; simp)
        rw [noK (by rw [q]; simp)] at hbo
        cases hbo)
    obtain ⟨mc, l1, l2⟩ := hlim
    have env0 : Env0 P w K mg (hidT s.heap H) callerA [] s H := ⟨rfl, ⟨inK, ns' hns, ⟨mb, ns' hb, hbb⟩, ⟨mc, ns' l1, l2⟩⟩, fun b o hbo => of_hidT hbo, Nat.le_of_eq (hidT_size _ _), trivial, (fun b hbo => (List.not_mem_nil (show b ∈ ([] : List Addr) from hbo)).elim), hok, .of_eq hg⟩
    refine codeAny_mono ((F _ inK (ns' hns)).go callerA [] s H ⟨[.ref a], []⟩ [.ref a] [.ref a] _ _ hr rfl env0 (hbind s (.ref a)) (.cons rfl .nil) (hsp H only sq)) fun r s' h => ?_
    cases r with
    | error e => exact (hCX H e s' h).elim
    | ok fl =>
      cases fl with
      | next => exact h.elim
      | brk => exact h.elim
      | cont => exact h.elim
      | ret u =>
        obtain ⟨v, H', os, bare, un, hok', rel, q⟩ := h
        obtain rfl : v = .bl true := q
        obtain rfl : u = Value.bool true := rel
        refine ⟨rfl, OldK.of_keep fun b o hbo => ?_, os, bare⟩
        cases q : H b with
        | none => exact un.keep b o hbo q (fun z => by cases z) (by simp)
        | some u =>
          rcases only b with z | ⟨ob, xs, z⟩
          · rw [q] at z
            cases z
          · obtain ⟨e1, _⟩ := hok b _ z
            obtain ⟨e2, _⟩ := hok' b _ (un.frzs b ob _ z)
            rw [hbo] at e1
            cases e1
            exact e2
  have lenV := hi.length
  have rv := vals_ints hi
  cases hk : K.lookup a with
  | some o =>
    have e := KX a o hk
    rw [ha] at e
    cases e
    exact main (fun _ => none) (fun _ => .inl rfl) (.inr ⟨_, vs.toArray, _, hk, rfl, rfl, rfl, by rw [List.size_toArray, lenV]; exact hl, by simpa using rv⟩) (fun b u z => by cases z) (fun b z => (z rfl).elim) fun z => (z rfl).elim
  | none =>
    have at' : ∀ b, (fun b => if b = a then some (HO.frz { cls := .type "list", data := .seq vs.toArray } (.lst (ns.map V.int))) else none : Hp) b = if b = a then some (HO.frz { cls := .type "list", data := .seq vs.toArray } (.lst (ns.map V.int))) else none := fun b => rfl
    refine main (fun b => if b = a then some (HO.frz { cls := .type "list", data := .seq vs.toArray } (.lst (ns.map V.int))) else none) (fun b => ?_) (.inl (.inr ⟨_, if_pos rfl⟩)) (fun b u z => ?_) (fun b z => ?_) fun _ => hk
    · by_cases hba : b = a
      · exact .inr ⟨_, _, if_pos hba⟩
      · exact .inl (if_neg hba)
    · by_cases hba : b = a
      · have z2 := (if_pos hba).symm.trans z
        cases z2
        subst hba
        exact ⟨ha, by rw [List.length_map]; exact hl, vs, _, rv, ha⟩
      · have z2 := (if_neg hba).symm.trans z
        cases z2
    · by_cases hba : b = a
      · exact hba
      · exact absurd (if_neg hba) z
theorem walk_ofG {l : PySem.W.OpenLaw} {n k : Nat} {q : Program} {loose : List Str} {XP : (Str → Option Value) → Heap → Prop} {YP : World → Heap → Prop} {d : DefRec} {K : Params → PySem.W.Frag} {sp : World → Sp} {x : Str}
    (hn : l.most = some n) (hn2 : n ≤ sizeLine) (hdf : d.params.defaults = []) (hr : Room k callerA) (hY : ∀ (w : World) (h : Heap), YP w h → (K w.params).In h)
    (F : ∀ (w : World) (mg : Str → Option Value) (fa : Addr) (h : Heap), (K w.params).In h → h.Ns mainGlobals mg → XP mg h → mg d.name = some (.ref fa) →
      ∃ fd : FuncData, (∀ (s : Shared) (u : Value), BindsTo s fd ⟨[u], []⟩ [(x, u)]) ∧ ∀ base : Heap, (K w.params).In base → base.Ns mainGlobals mg → FnG l.prog w (K w.params) mg base k fa fd [x] (sp w))
    (hsp : ∀ (w : World) (H : Hp) (a : Addr) (ns : List Int), ns.length ≤ n → Only H → SqL (K w.params) H a (ns.map V.int) → sp w [.ref a] H (fun v _ => v = .bl true) fun _ _ _ => False)
    (hCX : ∀ (w : World) (H : Hp) (s : Shared) (e : Value) (s' : Shared), L2.CX l.prog w [] H s (fun _ _ _ => False) e s' → False) : PySem.W.WalkO q loose XP YP l.row.toRowW d [] (fun f vs => PySem.call f vs) := by
  refine Att.attach_call hn hdf fun w s₀ s₁ mg mb fa o pm cd doc a vs ns G Y ho hd hcd hmg hobj hints hlen hg => ?_
  have kx := hY w _ Y
  obtain ⟨fd, hb, hF⟩ := F w mg fa _ kx G.T.g G.X hmg
  exact law_callG kx G.T.g G.T.b G.T.builtins G.T.nolimit hg hobj hints (Nat.le_trans hlen hn2) hr hF hb (fun H hO hS => hsp w H a ns hlen hO hS) fun H e s' => hCX w H s₁ e s'
/-- repr of a tuple or a list of plain things -/
def dRepr (ds : List D) (m : Mem) : R D := match ds with
  | [d] => match seqOf d m, toPy m 12 d with
    | some _, some y => if y.showable = true ∧ y.hasDict = false ∧ y.depth ≤ 60 ∧ y.shown.length ≤ 1000000 then .ok (.str y.shown) m else .bad
    | _, _ => .bad
  | _ => .bad
section
variable {X : Cx}
theorem cd_repr (hG : X.A.guards = some []) (hu : X.A.units + 64 < cLine) : CallR X (.builtin "repr") (rdC (gx X) dRepr) := by
  intro pins s σ H xs us Q I r hq
  obtain ⟨p, m, ds, k, rd, q⟩ := hq
  cases rd with
  | nil => exact q.elim
  | @cons d v ds vs r1 r2 =>
    cases r2 with
    | cons _ _ => exact q.elim
    | nil =>
      unfold dRepr at q
      simp only at q
      cases h1 : seqOf d m with
      | none => rw [h1] at q; exact q.elim
      | some ys =>
        cases h2 : toPy m 12 d with
        | none => rw [h1, h2] at q; exact q.elim
        | some y =>
          rw [h1, h2] at q
          change GoV _ _ _ (if y.showable = true ∧ y.hasDict = false ∧ y.depth ≤ 60 ∧ y.shown.length ≤ 1000000 then _ else _) _ _ at q
          split at q
          · rename_i hc
            obtain ⟨a, ws, rfl, _, _⟩ := seq_of k r1 h1
            cases r with
            | cons ra rb =>
              cases rb
              cases ra
              obtain ⟨as, rr⟩ := Dp.reads I y (.ref a) (.ref a) (toPy_dp k 12 d _ y r1 h2) rfl
              refine PySem.repr_of_reads' rr hc.1 (fun z => by rw [hc.2.1] at z; cases z) hG (by have := hc.2.2.1; omega) (fun _ _ z => z) (fun h' u tk hk => ?_) (by rw [sizeLine_eq]; have := hc.2.2.2; omega)
              exact ⟨.str y.shown, H, I.kept (t' := tk) hk, ⟨_, rfl⟩, q p H _ (Ext.refl k) (.str _)⟩
          · exact q.elim
end
/-- a def that may ask repr -/
structure CalG (P : Program) (w : World) (K : PySem.W.Frag) (mg : Str → Option Value) (base : Heap) (k : Nat) (x : Str) (n : Nat) (fn : List D → M D) : Prop where
  ex : ∃ f fd ps, FnG P w K mg base k f fd ps (spM ⟨K, mg⟩ n fn) ∧ ps.length = n ∧ mg x = some (.ref f) ∧ PySem.W.keepIn K (.ref f) = true ∧ Binds K fd ps []
theorem cal_ofG {P : Program} {w : World} {K : PySem.W.Frag} {mg : Str → Option Value} {base : Heap} {x : Str} {st : Stmt} {f : Addr} {fd : FuncData} {N ps : List Str} {k n : Nat} {b : MS} (F : Fun K x x st f fd) (S : FnScope N ps (defScope st)) (hm : mg x = some (.ref f)) (hB : Binds K fd ps []) (hn : ps.length = n)
    (hb : ∀ (cdv : Value) (A : Around) (outer : List Env) (s : Shared) (H : Hp) (E : XK), Room k (A.deeper (envOfC x (defScope st) s.heap.objs.size f cdv)) → A.guards = some [] → SB (cxOf (L2.CX P w) P w K mg base N x (defScope st) f cdv A outer s H E) (fun c d _ H => E c d H) (defBody st) b) :
    CalG P w K mg base (k + 1) x n (runM N.length b) := ⟨f, fd, ps, hn ▸ fn_okG F S hb, hn, hm, F.kp, hB⟩
section
variable {X : Cx} {W : WX} {pos : Pos}
theorem so_funG {k j : Nat} {x : Str} {pf : Pos} {xa : Expr} {xs : List Expr} {n : Nat} {fn : List D → M D} {a : MA} (c : CalG X.prog X.w X.K X.mg X.base k x n fn) (gd : X.A.guards = some []) (tk : Takes X W) (hr : Room j X.A) (hj : k ≤ j) (hg : Gl X x)
    (ha : SA X W (xa :: xs) a) (hdb : (x == ("__debug__" : Str)) = false := by decide) (he : starEach (xa :: xs) X.env = (false, eval xa X.env) :: starEach xs X.env := by rfl) (hpl : (backTo pos (starEach xs X.env)).any (·.1) = false := by rfl) :
    SE X W (.Call (.Name x pf) (xa :: xs) [] pos) (mCall n fn a) := by
  obtain ⟨f, fd, ps, F, hn, hm, hk, hb⟩ := c.ex
  have call : PE X (.Call (.Name x pf) (xa :: xs) [] pos) (fun σ H Q => rdA (gx X) W a σ H fun vs H1 => spM (gx X) n fn vs H1 Q (WE W σ)) := by
    constructor
    intro ps0 s σ H Q I h
    refine wpAny_Call_Name_kw (ld_glob I hg hm ?_ hdb)
    refine PySem.W.callWith_K (h₀ := X.base) I.ok.mod.kin hk (thn (ha.run pos ps0 s σ H _ I h) fun us t ht => ?_) he hpl
    obtain ⟨vs, Ht, It, rel, q⟩ := ht
    refine ⟨It.kIn, ?_⟩
    have len : us.length = ps.length := by
      obtain ⟨_, _, _, hl, _⟩ := q
      rw [hn, ← hl, rel.length]
    have bind : BindsTo t fd ⟨us, []⟩ (ps.zip us) := by
      have z := hb t us It.kIn (by simpa using len)
      simpa using z
    refine wpAny_call (codeAny_mono (F.go X.A X.stack t Ht ⟨us, []⟩ us vs Q (WE W σ) (hr.mono hj) gd It.env0 bind rel q) fun r t2 h2 => ?_)
    cases r with
    | error e => exact passAt tk σ ps0 Ht t e t2 It h2
    | ok fl =>
      cases fl with
      | ret u => exact It.after h2
      | next => exact h2.elim
      | brk => exact h2.elim
      | cont => exact h2.elim
  refine pe_imp call fun σ H Q hh => ?_
  obtain ⟨e, p, m, ok, r, q⟩ := hh
  refine ⟨e, p, m, ok, r, ?_⟩
  unfold mCall at q
  cases h1 : a e m with
  | bad => rw [h1] at q; exact q
  | exc c m1 => rw [h1] at q; exact q
  | ok d m1 =>
    rw [h1] at q
    intro p1 H1 v e1 r1
    have q1 := GoV.step ok e1 q
    change GoV _ _ _ (if d.length = n then _ else _) _ _ at q1
    split at q1
    · rename_i hl
      exact ⟨p1, m1, d, by rw [← r1.length]; exact hl, e1.ok, r1, q1⟩
    · exact q1.elim
theorem Cal.mono {P : Program} {w : World} {K : PySem.W.Frag} {mg : Str → Option Value} {base : Heap} {k j : Nat} {x : Str} {n : Nat} {fn : List D → M D} (c : Cal P w K mg base k x n fn) (h : k ≤ j) : Cal P w K mg base j x n fn := by
  obtain ⟨f, fd, ps, F, r⟩ := c.ex
  exact ⟨f, fd, ps, F.mono h, r⟩
theorem ce_nil {P : Program} {w : World} {K : PySem.W.Frag} {mg : Str → Option Value} {base : Heap} {k n : Nat} : ∀ p ∈ ([] : List (Str × (List D → M D))), Cal P w K mg base k p.1 n p.2 := fun p hp => by cases hp
theorem ce_cons {P : Program} {w : World} {K : PySem.W.Frag} {mg : Str → Option Value} {base : Heap} {k n : Nat} {x : Str} {fn : List D → M D} {l : List (Str × (List D → M D))} (c : Cal P w K mg base k x n fn) (h : ∀ p ∈ l, Cal P w K mg base k p.1 n p.2) : ∀ p ∈ (x, fn) :: l, Cal P w K mg base k p.1 n p.2 := fun p hp => by
  rcases List.mem_cons.mp hp with rfl | hp
  · exact c
  · exact h p hp
/-- a def that an expression tells is called: tbl the defs that it may be -/
def mCallE (n : Nat) (tbl : List (Str × (List D → M D))) (f : ME) (a : MA) : ME := fun e m => (f e m).bind fun d m1 => match d with
  | .fn x => match tbl.lookup x with
    | some fn => (a e m1).bind fun ds m2 => if ds.length = n then fn ds m2 else .bad
    | none => .bad
  | _ => .bad
theorem mem_lookup {β : Type} : ∀ {l : List (Str × β)} {x : Str} {b : β}, l.lookup x = some b → (x, b) ∈ l
  | [], _, _, h => by cases h
  | (y, c) :: l, x, b, h => by
    rw [List.lookup_cons] at h
    split at h
    · rename_i e
      cases h
      rw [beq_iff_eq.mp e]
      exact List.mem_cons_self
    · exact List.mem_cons_of_mem _ (mem_lookup h)
theorem so_callE {k j : Nat} {fe xa : Expr} {xs : List Expr} {n : Nat} {tbl : List (Str × (List D → M D))} {f : ME} {a : MA} (hall : ∀ p ∈ tbl, Cal X.prog X.w X.K X.mg X.base k p.1 n p.2) (tk : Takes X W) (hr : Room j X.A) (hj : k ≤ j) (hf : SE X W fe f) (ha : SA X W (xa :: xs) a)
    (ht : eval (.Call fe (xa :: xs) [] pos) X.env = (do callWith pos (← eval fe X.env) [] (backTo pos (starEach (xa :: xs) X.env)) (backToKw pos (keywordEach [] X.env))) := by rfl) (he : starEach (xa :: xs) X.env = (false, eval xa X.env) :: starEach xs X.env := by rfl) (hpl : (backTo pos (starEach xs X.env)).any (·.1) = false := by rfl) :
    SE X W (.Call fe (xa :: xs) [] pos) (mCallE n tbl f a) := by
  have call : PE X (.Call fe (xa :: xs) [] pos) (fun σ H Q => rdE (gx X) W f σ H fun v H1 => ∃ x fn g, tbl.lookup x = some fn ∧ v = .ref g ∧ X.mg x = some (.ref g) ∧ rdA (gx X) W a σ H1 fun vs H2 => spM (gx X) n fn vs H2 Q (WE W σ)) := by
    constructor
    intro ps0 s σ H Q I h
    refine Call_ (thn (hf.run ps0 s σ H _ I h) fun u t hu => ?_) ht
    obtain ⟨v, H1, I1, rel, x, fn, g, hx, rfl, hm, q⟩ := hu
    cases rel
    obtain ⟨f', fd, ps, F, hm2, hk, hb⟩ := (hall _ (mem_lookup hx)).ex
    obtain rfl : g = f' := by
      have z := hm.symm.trans hm2
      cases z
      rfl
    refine PySem.W.callWith_K (h₀ := X.base) I.ok.mod.kin hk (thn (ha.run pos ps0 t σ H1 _ I1 q) fun us t2 h2 => ?_) he hpl
    obtain ⟨vs, H2, I2, rv, q2⟩ := h2
    exact ⟨I2.kIn, run_fnS F (hr.mono hj) hb (passAt tk σ) I2 rv q2⟩
  refine pe_imp call fun σ H Q hh => ?_
  obtain ⟨e, p, m, ok, r, q⟩ := hh
  refine ⟨e, p, m, ok, r, ?_⟩
  unfold mCallE at q
  cases h1 : f e m with
  | bad => rw [h1] at q; exact q
  | exc c m1 => rw [h1] at q; exact q
  | ok d m1 =>
    rw [h1] at q
    intro p1 H1 v e1 r1
    have q1 := GoV.step ok e1 q
    cases r1 with
    | @fn x g hg =>
      change GoV _ _ _ (match tbl.lookup x with | some fn => ((a e m1).bind fun ds m2 => if ds.length = n then fn ds m2 else R.bad) | none => R.bad) _ _ at q1
      cases hx : tbl.lookup x with
      | none => rw [hx] at q1; exact q1.elim
      | some fn =>
        rw [hx] at q1
        refine ⟨x, fn, g, hx, rfl, hg, e, p1, m1, e1.ok, r.ext ok e1, ?_⟩
        change GoV _ _ _ ((a e m1).bind _) _ _ at q1
        cases h2 : a e m1 with
        | bad => rw [h2] at q1; exact q1
        | exc c m2 => rw [h2] at q1; exact q1
        | ok ds m2 =>
          rw [h2] at q1
          intro p2 H2 vs e2 r2
          have q2 := GoV.step e1.ok e2 q1
          change GoV _ _ _ (if ds.length = n then _ else _) _ _ at q2
          split at q2
          · rename_i hl
            exact ⟨p2, m2, ds, by rw [← r2.length]; exact hl, e2.ok, r2, q2⟩
          · exact q2.elim
    | _ => exact q1.elim
end
end Mi
/-! ### ts[::-1] of a tuple -/
namespace Mi
open PySem PySem.Spec PyProof.Rows L2
section
variable {prog : Program} {w : World} {A : Around} {E : Value → Shared → Prop} {s : Shared}
theorem adjust_rev (n : Nat) : Builtin.Slice.sliceAdjust none none (-1) (n : Int) = ((n : Int) - 1, -1) := by
  unfold Builtin.Slice.sliceAdjust
  simp
theorem places_rev (n : Nat) : Builtin.Slice.slicePlaces ((n : Int) - 1) (-1) (-1) = n := by
  unfold Builtin.Slice.slicePlaces
  have h1 : ¬ ((-1 : Int) > 0) := by decide
  simp only [h1, if_false]
  split <;> simp <;> omega
theorem fm_congr {α β : Type} {f g : α → Option β} : ∀ {l : List α}, (∀ a ∈ l, f a = g a) → l.filterMap f = l.filterMap g
  | [], _ => rfl
  | a :: l, h => by
    rw [List.filterMap_cons, List.filterMap_cons, h a List.mem_cons_self, fm_congr fun b hb => h b (List.mem_cons_of_mem _ hb)]
theorem pick_rev (xs : List Value) : (List.range xs.length).filterMap (fun (m : Nat) => xs.toArray[((xs.length : Int) - 1 + (m : Int) * (-1)).toNat]?) = xs.reverse := by
  have e : (List.range xs.length).filterMap (fun (m : Nat) => xs.toArray[((xs.length : Int) - 1 + (m : Int) * (-1)).toNat]?) = (List.range xs.length).filterMap (fun m => xs.reverse[m]?) := by
    refine fm_congr fun m hm => ?_
    have hm := List.mem_range.mp hm
    rw [List.getElem?_reverse hm]
    have : ((xs.length : Int) - 1 + (m : Int) * (-1)).toNat = xs.length - 1 - m := by omega
    rw [this]
    simp
  rw [e]
  have : ∀ (l : List Value), (List.range l.length).filterMap (fun m => l[m]?) = l := by
    intro l
    induction l with
    | nil => rfl
    | cons a l ih =>
      rw [List.length_cons, List.range_succ_eq_map, List.filterMap_cons]
      simp only [List.getElem?_cons_zero, List.filterMap_map, Function.comp_def, List.getElem?_cons_succ]
      rw [ih]
  have h := this xs.reverse
  rw [List.length_reverse] at h
  exact h
theorem sliceApplied_rev {sl : Addr} {vs : Value} {n : Nat} {Q : Int × Int × Nat → Shared → Prop} (hs : s.heap.IsSliceOf sl .none .none vs) (ps : IsPart vs (some (-1))) (h : Q ((n : Int) - 1, -1, n) s) : wpAny (model prog w) A (Builtin.Slice.sliceApplied (.ref sl) (pure (n : Int))) Q E s := by
  obtain ⟨os, hos, hcs, hds⟩ := id hs
  unfold Builtin.Slice.sliceApplied Builtin.Slice.sliceFields
  refine wpAny_bind (wpAny_bind (wpAny_field hos hds (x := .none) rfl (wpAny_bind (wpAny_field hos hds (x := .none) rfl (wpAny_bind (wpAny_field hos hds (x := vs) rfl (wpAny_pure ?_)))))))
  refine wpAny_bind (HT.slicePart_ ps ?_)
  show wpAny _ _ (if ((-1 : Int) == 0) = true then _ else _) _ _ s
  rw [if_neg (by decide)]
  refine wpAny_bind (HT.slicePart_ .none (wpAny_bind (HT.slicePart_ .none (wpAny_bind (wpAny_pure ?_)))))
  show wpAny _ _ (match Builtin.Slice.sliceAdjust none none (-1) (n : Int) with | (lo, hi) => pure (lo, (-1 : Int), Builtin.Slice.slicePlaces lo hi (-1))) _ _ s
  rw [adjust_rev]
  show wpAny _ _ (pure ((n : Int) - 1, (-1 : Int), Builtin.Slice.slicePlaces ((n : Int) - 1) (-1) (-1))) _ _ s
  rw [places_rev]
  exact wpAny_pure h
theorem getItem_rev {t sl : Addr} {xs : List Value} {vs : Value} {Q : Value → Shared → Prop} (ht : IsTup s.heap t xs.toArray) (hs : s.heap.IsSliceOf sl .none .none vs) (ps : IsPart vs (some (-1))) (h : Q (.ref s.heap.objs.size) { s with heap := s.heap.push { cls := .type "tuple", data := .seq xs.reverse.toArray } }) (small : xs.length ≤ sizeLine) : wpAny (model prog w) A (getItem (.ref t) (.ref sl)) Q E s := by
  obtain ⟨os, hos, hcs, hds⟩ := id hs
  have ty : s.TypeIs (.ref sl) "slice" := ⟨os, hos, hcs⟩
  have fits : sizeOk (.seq xs.reverse.toArray) := by
    show xs.reverse.toArray.size ≤ sizeLine
    simpa using small
  unfold getItem
  try with_reducible refine wpAny_holding ?_
  first | refine wpAny_bind (wpAny_pure ?_) | skip
  refine wpAny_bind (wpAny_sequenceKey ht.typeIs (by decide) ?_)
  refine wpAny_bind (wpAny_callSpecial?_slot (name := Str.ofString "__getitem__") ht.typeIs PyProof.Rows.slot_tuple_getitem (wpAny_call_entry PyProof.Rows.slot_tuple_getitem ht.typeIs entry_tuple_getitem ?_ (args_tuple_getitem _ _)))
  show wpAny _ _ (Builtin.Tuple.tupleItemsOf (.ref t) >>= _) _ _ s
  refine wpAny_bind (tupleItemsOf_ ht (wpAny_bind (wpAny_typeOf ty ?_)))
  rw [if_pos (by decide)]
  refine wpAny_bind (sliceApplied_rev hs ps ?_)
  show wpAny _ _ (if (((xs.toArray.size : Int) - 1) == 0 && (-1 : Int) == 1 && xs.toArray.size == xs.toArray.size) = true then _ else _) _ _ s
  rw [if_neg (by simp)]
  have e : ((List.range xs.toArray.size).filterMap fun (m : Nat) => xs.toArray[((xs.toArray.size : Int) - 1 + (m : Int) * (-1)).toNat]?).toArray = xs.reverse.toArray := by
    rw [List.size_toArray, pick_rev]
  rw [e]
  first
    | exact wpAny_bind (m := Builtin.Tuple.tupleExact _) (wpAny_newObj_type (wpAny_pure ⟨_, rfl, wpAny_pure h⟩) fits)
    | exact wpAny_bind (m := Builtin.Tuple.tupleExact _) (wpAny_newObj_type (wpAny_bind (wpAny_pure (wpAny_pure ⟨_, rfl, wpAny_pure h⟩))) fits)
end
end Mi
namespace Mi
open PySem PySem.Spec PyProof.Rows L2
section
variable {X : Cx} {W : WX} {pos : Pos}
def tRevT (K : PySem.W.Frag) (te : TE) : TE := fun σ H Q => te σ H fun x H1 => ∃ a xs, x = .ref a ∧ SqT K H1 a xs ∧ ∀ p, H1 p = none → Q (.ref p) (upd H1 p (.tup xs.reverse))
theorem pe_revT {e : Expr} {te : TE} {k : Nat} {p1 p2 p3 : Pos} (he : PE X e te) : PE X (.Subscript e (.Slice none none (some (.UnaryOp .USub (.Constant (.int 1) k p1) p2)) p3) pos) (tRevT X.K te) := by
  constructor
  intro ps s σ H Q I h
  refine Subscript_ (thn (he.run ps s σ H _ I h) fun v s1 hv => ?_)
  obtain ⟨x, H1, I1, r1, a, xs, rfl, hx, q⟩ := hv
  cases r1
  have step : PO X (some (.UnaryOp .USub (.Constant (.int 1) k p1) p2)) (tPart (tUn (rU fun i => .int (-i)) (tC (.int 1)))) := po_some (pe_un un_neg pe_int)
  refine wpAny_Slice (thn (po_none.run ps s1 σ H1 (fun o H2 => o = none ∧ H2 = H1) I1 ⟨rfl, rfl⟩) fun vl s2 h2 => ?_)
  obtain ⟨l, H2, I2, pl, rfl, rfl⟩ := h2
  refine thn (po_none.run ps s2 σ H2 (fun o H3 => o = none ∧ H3 = H2) I2 ⟨rfl, rfl⟩) fun vu s3 h3 => ?_
  obtain ⟨u, H3, I3, pu, rfl, rfl⟩ := h3
  refine thn (step.run ps s3 σ H3 (fun o H4 => o = some (-1) ∧ H4 = H3) I3 ⟨1, rfl, -1, rfl, rfl, rfl⟩) fun vs s4 h4 => ?_
  obtain ⟨o, H4, I4, pst, rfl, rfl⟩ := h4
  cases pl
  cases pu
  have I5 : Inv X ps σ H4 { s4 with heap := s4.heap.push { cls := .type "slice", data := .fields #[.none, .none, vs] } } := I4.kept (t' := s4.toks) fun b ob hb => Heap.get?_push_of_some _ hb
  obtain ⟨its, r, ht, hz⟩ := I5.tuple hx
  have len := r.length
  refine tail_any (ops := [.ref a, .ref s4.heap.objs.size]) ht.typeIs PyProof.Rows.slot_tuple_getitem.lookup ?_ (by with_unfolding_all rfl)
  refine getItem_rev ht (Heap.IsSliceOf.new _ .none .none vs) pst ?_ (by omega)
  refine ⟨.ref _, _, I5.laid (t' := s4.toks) (o := .tup xs.reverse) (fun b ob hb => Heap.get?_push_of_some _ hb) (Nat.le_refl _) ?_, rfl, q _ (I5.hok.fresh (Nat.le_refl _))⟩
  exact ⟨by rw [List.length_reverse]; exact hz, _, r.reverse, IsTup.new _ _⟩
def dRev2 (d : D) (m : Mem) : R D := match d with
  | .tup ds => .ok (.tup ds.reverse) m
  | d => dRev d m
theorem so_rev2 {x : Expr} {a : ME} {k : Nat} {p1 p2 p3 : Pos} (h : SE X W x a) : SE X W (.Subscript x (.Slice none none (some (.UnaryOp .USub (.Constant (.int 1) k p1) p2)) p3) pos) (mUn dRev2 a) := by
  constructor
  intro ps s σ H Q I hh
  obtain ⟨e, p, m, ok, r, q⟩ := hh
  have other : (∀ ds m1, a e m ≠ .ok (.tup ds) m1) → GoV (gx X) p H (mUn dRev a e m) Q (WE W σ) := fun no => by
    unfold mUn at q ⊢
    cases h1 : a e m with
    | bad => rw [h1] at q; exact q
    | exc c m1 => rw [h1] at q; exact q
    | ok d m1 =>
      rw [h1] at q
      cases d with
      | tup ds => exact absurd h1 (no ds m1)
      | _ => exact q
  by_cases c : ∃ ds m1, a e m = .ok (.tup ds) m1
  · obtain ⟨ds, m1, h1⟩ := c
    refine (pe_revT h).run ps s σ H Q I ⟨e, p, m, ok, r, ?_⟩
    unfold mUn at q
    rw [h1] at q ⊢
    intro p1 H1 v e1 r1
    have q1 := GoV.step ok e1 q
    cases r1 with
    | @tup b vs _ hs rs =>
      refine ⟨b, vs, rfl, hs, fun l hl => ?_⟩
      have z := Ext.fresh (o := .tup vs.reverse) e1.ok hl
      exact q1 _ _ _ z (.tup (.inl (.inl upd_same)) (rs.rev.ext e1.ok z))
  · exact (so_rev h).run ps s σ H Q I ⟨e, p, m, ok, r, other fun ds m1 z => c ⟨ds, m1, z⟩⟩
end
end Mi
/-! ### dicts: asked, walked, made by a comprehension; pairs sorted -/
namespace Mi
open PySem PySem.Spec PyProof.Rows L2 Classical
section
variable {X : Cx} {W : WX} {pos : Pos} {tg : Expr}
theorem GoV.mono {g : Gx} {p : List Addr} {H : Hp} {r : R D} {Q Q' : VK} {E : XK} (h : GoV g p H r Q E) (k : ∀ v H', Q v H' → Q' v H') : GoV g p H r Q' E := by
  cases r with
  | ok d m => exact fun p' H' v x y => k v H' (h p' H' v x y)
  | exc c m => exact h
  | bad => exact h
theorem rdE_mono {g : Gx} {f : ME} {σ : L2.St} {H : Hp} {Q Q' : VK} (h : rdE g W f σ H Q) (k : ∀ v H', Q v H' → Q' v H') : rdE g W f σ H Q' := by
  obtain ⟨e, p, m, ok, r, q⟩ := h
  exact ⟨e, p, m, ok, r, q.mono k⟩
/-- what stands under a key -/
def getK (kvs : List (Key × D)) (k : Key) : Option D := (kvs.find? fun kv => decide (kv.1 = k)).map (·.2)
def dictAt (d : D) (m : Mem) : Option (List (Key × D)) := match d with
  | .ref n => match m[n]? with
    | some (.dic kvs) => some kvs
    | some (.fdic kvs) => some kvs
    | _ => none
  | _ => none
theorem dict_at {g : Gx} {p : List Addr} {m : Mem} {H : Hp} {d : D} {v : V} {kvs : List (Key × D)} (k : Ok g p m H) (r : RD g p H d v) (h : dictAt d m = some kvs) :
    ∃ a vs, v = .ref a ∧ Rd H a (.dK vs) ∧ vs.map (·.1) = kvs.map (·.1) ∧ RDs g p H (kvs.map (·.2)) (vs.map (·.2)) := by
  cases r with
  | @ref n a hn =>
    unfold dictAt at h
    simp only at h
    split at h
    · rename_i ks e1
      cases h
      obtain ⟨vs, h1, h2, h3⟩ := k.ob n a _ hn e1
      exact ⟨a, vs, rfl, .inl h1, h2, h3⟩
    · rename_i ks e1
      cases h
      obtain ⟨ob, vs, h1, h2, h3⟩ := k.ob n a _ hn e1
      exact ⟨a, vs, rfl, .inr ⟨ob, h1⟩, h2, h3⟩
    · cases h
  | _ => cases h
theorem getK_of {g : Gx} {p : List Addr} {H : Hp} (k : Key) : ∀ {kvs : List (Key × D)} {vs : List (Key × V)}, vs.map (·.1) = kvs.map (·.1) → RDs g p H (kvs.map (·.2)) (vs.map (·.2)) → (∀ d, getK kvs k = some d → ∃ v, valV vs k = some v ∧ RD g p H d v) ∧ (getK kvs k = none → valV vs k = none)
  | [], [], _, _ => ⟨fun d h => by simp [getK] at h, fun _ => rfl⟩
  | (k1, d1) :: kvs, (k2, v2) :: vs, he, hr => by
    simp only [List.map_cons, List.cons.injEq] at he
    obtain ⟨he1, he2⟩ := he
    subst he1
    cases hr with
    | cons r1 rt =>
      have ih := getK_of k he2 rt
      unfold getK valV at ih ⊢
      by_cases hk : k2 = k
      · subst hk
        simp only [List.find?_cons, decide_true, Option.map_some]
        exact ⟨fun d h => by cases h; exact ⟨v2, rfl, r1⟩, fun h => by cases h⟩
      · simp only [List.find?_cons, hk, decide_false]
        exact ih
  | [], _ :: _, he, _ => by simp at he
  | _ :: _, [], he, _ => by simp at he
def dGet (d e : D) (m : Mem) : R D := match dictAt d m, keyD e with
  | some kvs, some k => match getK kvs k with
    | some v => .ok v m
    | none => .bad
  | _, _ => .bad
theorem so_dget {xa xb : Expr} {a b : ME} (hu : X.A.units + 1 < cLine) (ha : SE X W xa a) (hb : SE X W xb b) (hs : NoSl xb) : SE X W (.Subscript xa xb pos) (mOp dGet a b) :=
  pe_imp (pe_dget hu ha hb hs) fun σ H Q h => by
    refine rdE_mono (two_in h) fun x H1 h1 => rdE_mono h1 fun y H2 h2 => ?_
    obtain ⟨p, m, d, e, k, rd, re, q⟩ := h2
    unfold dGet at q
    split at q
    · rename_i kvs kk h3 h4
      split at q
      · rename_i z h5
        obtain ⟨a, vs, rfl, h6, h7, h8⟩ := dict_at k rd h3
        obtain ⟨v, h9, rv⟩ := (getK_of kk h7 h8).1 z h5
        refine ⟨a, v, rfl, .inl ⟨vs, kk, h6, keyD_of re h4, h9.symm⟩, q p H2 v (Ext.refl k) rv⟩
      · exact q.elim
    · exact q.elim
/-! a dict is sealed: it stays as it is from then on -/
def sealM (d : D) (m : Mem) : Mem := match d with
  | .ref n => match m[n]? with
    | some (.dic kvs) => m.set n (.fdic kvs)
    | _ => m
  | _ => m
def mSeal (a : ME) : ME := fun e m => (a e m).bind fun d m1 => .ok d (sealM d m1)
theorem pe_seal {x : Expr} {t : TE} (h : PE X x t) : PE X x (fun σ H Q => t σ H fun v H1 => Q v H1 ∨ ∃ d u, v = .ref d ∧ H1 d = some u ∧ Mut (some u) ∧ ∀ od, Q v (upd H1 d (.frz od u))) :=
  ⟨fun pins s σ H Q I q => thn (h.run pins s σ H _ I q) fun v s1 ⟨y, H1, I1, r1, q1⟩ => by
    rcases q1 with q1 | ⟨d, u, e, hd, mu, q1⟩
    · exact ⟨y, H1, I1, r1, q1⟩
    · obtain ⟨od, I2⟩ := I1.lock hd mu
      exact ⟨y, _, I2, r1, q1 od⟩⟩
theorem so_seal {x : Expr} {a : ME} (h : SE X W x a) : SE X W x (mSeal a) := pe_imp (pe_seal h) fun σ H Q ⟨e, p, m, k, r, q⟩ => by
  refine ⟨e, p, m, k, r, ?_⟩
  unfold mSeal at q
  cases h1 : a e m with
  | bad => rw [h1] at q; exact q
  | exc c m1 => rw [h1] at q; exact q
  | ok d m1 =>
    rw [h1] at q
    intro p1 H1 v e1 r1
    change GoV _ _ _ (.ok d (sealM d m1)) _ _ at q
    cases r1 with
    | @ref n b hb =>
      unfold sealM at q
      simp only at q
      split at q
      · rename_i kvs hm
        obtain ⟨vs, h2, h3, h4⟩ := e1.ok.ob n b _ hb hm
        refine .inr ⟨b, _, rfl, h2, trivial, fun od => ?_⟩
        refine q p1 _ _ (e1.trans k (Ext.put e1.ok hb h2 (fun _ z => nomatch z) (fun _ _ z => nomatch z) fun H' e' go => ⟨od, vs, e', h3, go _ _ h4⟩)) (.ref hb)
      · exact .inl (q p1 H1 _ e1 (.ref hb))
    | non => exact .inl (q p1 H1 _ e1 .non)
    | bl i => exact .inl (q p1 H1 _ e1 (.bl i))
    | int i => exact .inl (q p1 H1 _ e1 (.int i))
    | str i => exact .inl (q p1 H1 _ e1 (.str i))
    | tup i j => exact .inl (q p1 H1 _ e1 (.tup i j))
    | fn i => exact .inl (q p1 H1 _ e1 (.fn i))
    | fro i j => exact .inl (q p1 H1 _ e1 (.fro i j))
    | hot i => exact .inl (q p1 H1 _ e1 (.hot i))
/-! the keys of a sealed dict, walked -/
def dKeys (d : D) (m : Mem) : R Wk := match d with
  | .ref n => match m[n]? with
    | some (.fdic kvs) => .ok ⟨kvs.map fun kv => kD kv.1, fun _ => True⟩ m
    | _ => .bad
  | _ => .bad
def iKeyD (a : ME) : MI := fun e m => (a e m).bind fun d m1 => dKeys d m1
theorem walks_keys {g : Gx} {p : List Addr} {m : Mem} {H : Hp} {a : Addr} {ob : Obj} {kvs : List (Key × D)} {vs : List (Key × V)} (h : H a = some (.frz ob (.dK vs))) (he : vs.map (·.1) = kvs.map (·.1)) : Walks g p H (Itk a ob vs) ⟨kvs.map fun kv => kD kv.1, fun _ => True⟩ := fun i p1 m1 H1 x _ => by
  have h1 := x.sea _ _ _ h
  have hl : vs.length = kvs.length := by
    have := congrArg List.length he
    simpa using this
  refine ⟨fun d hd => ?_, fun hi => ⟨h1, by simpa [hl] using hi⟩⟩
  have hi : i < vs.length := by
    have := (List.getElem?_eq_some_iff.mp hd).1
    simp at this
    omega
  refine ⟨⟨h1, hi⟩, fun y H' ⟨e1, k, v, hk, e2⟩ => ?_⟩
  subst e1 e2
  refine ⟨Ext.refl x.ok, ?_⟩
  have e3 : (kvs.map (·.1))[i]? = some k := by
    rw [← he, List.getElem?_map, hk]
    rfl
  rw [List.getElem?_map] at hd e3
  cases hq : kvs[i]? with
  | none => rw [hq] at e3; cases e3
  | some kv =>
    rw [hq] at e3 hd
    cases e3
    cases hd
    exact RD.key _
theorem si_keys {x : Expr} {a : ME} (h : SE X W x a) : SI X W tg x (iKeyD a) := pi_imp (pi_keys h) fun σ H R' ⟨e, p, m, k, r, q⟩ => by
  refine ⟨e, p, m, k, r, ?_⟩
  unfold iKeyD at q
  cases h1 : a e m with
  | bad => rw [h1] at q; exact q
  | exc c m1 => rw [h1] at q; exact q
  | ok d m1 =>
    rw [h1] at q
    intro p1 H1 v e1 r1
    change GoI _ _ _ (dKeys d m1) _ _ at q
    cases r1 with
    | @ref n b hb =>
      unfold dKeys at q
      simp only at q
      split at q
      · rename_i kvs hm
        obtain ⟨ob, vs, h2, h3, h4⟩ := e1.ok.ob n b _ hb hm
        exact ⟨b, ob, rfl, .inl ⟨vs, h2, q p1 H1 _ e1 (walks_keys (m := m1) h2 h3)⟩⟩
      · exact q.elim
    | _ => exact q.elim
/-! ### a dict comprehension -/
noncomputable def dcL (gd : Mem → Prop) (pt : Pat) (t : MT) (kx x : ME) (e : En) : List D → List (Key × D) → M (List (Key × D))
  | [], acc => fun m => if gd m then .ok acc m else .bad
  | d :: ds, acc => fun m => if gd m then (match patM pt d e with
      | some e1 => (t e1 m).calm.bind fun b m1 => if b = true then (kx e1 m1).calm.bind fun y m2 => (x e1 m2).calm.bind fun z m3 => (match keyD y with
          | some k => if acc.length < 1000000 then dcL gd pt t kx x e ds (putD acc k z) m3 else .bad
          | none => .bad) else dcL gd pt t kx x e ds acc m1
      | none => .bad) else .bad
noncomputable def mDc (f : MI) (pt : Pat) (t : MT) (kx x : ME) (vs : List Nat) : ME := fun e m => (f e m).bind fun w m1 => (dcL w.gd pt t kx x (wipeM e vs) w.its [] m1).bind fun ys m2 => .ok (.ref m2.length) (m2 ++ [.dic ys])
/-- a thing that lies apart may be written, so long as it is no tuple and not locked -/
theorem Ok.apart {g : Gx} {p : List Addr} {m : Mem} {H : Hp} {L : Addr} {u0 u : HO} (k : Ok g p m H) (nL : L ∉ p) (eL : H L = some u0) (hu : ∀ xs, u0 ≠ .tup xs) (hu2 : ∀ ob w, u0 ≠ .frz ob w) :
    Ok g p m (upd H L u) ∧ ∀ (ds : List D) (ws : List V), RDs g p H ds ws → RDs g p (upd H L u) ds ws := by
  have sq : ∀ {b ys}, SqT g.K H b ys → SqT g.K (upd H L u) b ys := fun {b ys} z => by
    rcases z with (z | ⟨w', z⟩) | z
    · exact .inl (.inl (by rw [upd_ne]; exact z; intro e; subst e; rw [eL] at z; exact hu _ (Option.some.inj z)))
    · exact .inl (.inr ⟨w', by rw [upd_ne]; exact z; intro e; subst e; rw [eL] at z; exact hu2 _ _ (Option.some.inj z)⟩)
    · exact .inr z
  have fz : ∀ {b ys}, Fz g.K H b ys → Fz g.K (upd H L u) b ys := fun {b ys} z => by
    rcases z with ⟨w', z⟩ | z
    · exact .inl ⟨w', by rw [upd_ne]; exact z; intro e; subst e; rw [eL] at z; exact hu2 _ _ (Option.some.inj z)⟩
    · exact .inr z
  have all : ∀ (ds : List D) (ws : List V), RDs g p H ds ws → RDs g p (upd H L u) ds ws := by
    intro ds ws rr
    exact RDs.rec (g := g) (p := p) (H := H) (motive_1 := fun d v _ => RD g p (upd H L u) d v) (motive_2 := fun d v _ => RDs g p (upd H L u) d v) .non .bl .int .str (fun h _ ih => .tup (sq h) ih) (fun h => .ref h) (fun h => .fn h) (fun h _ ih => .fro (fz h) ih) .hot .nil (fun _ _ i1 i2 => .cons i1 i2) rr
  refine ⟨⟨k.len, k.nd, fun n b ob z1 z2 => ?_⟩, all⟩
  have nb : b ≠ L := fun z => by
    subst z
    exact nL (List.mem_of_getElem? z1)
  have ro := k.ob n b ob z1 z2
  exact ro.mv (fun _ q => by rw [upd_ne nb]; exact q) all
theorem dc_in {f : MI} {pt : Pat} {t : MT} {kx x : ME} {vs : List Nat} {σ : L2.St} {H : Hp} {Q : VK} (hs : ∀ i ∈ pt.slots, i ∈ vs) (h : rdE (gx X) W (mDc f pt t kx x vs) σ H Q) : tDc (rdI (gx X) W f) (patT X.K pt) (rdT (gx X) W0 t) (rdE (gx X) W0 kx) (rdE (gx X) W0 x) vs σ H Q := by
  obtain ⟨e, p, m, k, r, q⟩ := h
  refine ⟨e, p, m, k, r, ?_⟩
  unfold mDc at q
  cases h1 : f e m with
  | bad => rw [h1] at q; exact q
  | exc c m1 => rw [h1] at q; exact q
  | ok w m1 =>
    rw [h1] at q
    intro p1 H1 J e1 wk L hL
    have q1 := GoV.step k e1 q
    change GoV _ _ _ ((dcL w.gd pt t kx x (wipeM e vs) w.its [] m1).bind _) _ _ at q1
    have xL : Ext (gx X) p1 H1 p1 m1 (upd H1 L (.dK [])) := Ext.fresh e1.ok hL
    have hLp : L ∉ p1 := fun z => e1.ok.there z hL
    refine ⟨fun i n H' => ∃ p' m' acc vacc, Ext (gx X) p1 H1 p' m' H' ∧ L ∉ p' ∧ H' L = some (.dK vacc) ∧ vacc.map (·.1) = acc.map (·.1) ∧ RDs (gx X) p' H' (acc.map (·.2)) (vacc.map (·.2)) ∧ i + n = w.its.length ∧
      GoV (gx X) p1 H1 ((dcL w.gd pt t kx x (wipeM e vs) (w.its.drop i) acc m').bind fun ys m2 => .ok (.ref m2.length) (m2 ++ [O.dic ys])) Q (WE W σ), ⟨w.its.length, p1, m1, [], [], xL, hLp, upd_same, rfl, .nil, by omega, q1⟩, ?_⟩
    rintro i n H2 ⟨p2, m2, acc, vacc, x2, nL, eL, hke, ra, hin, q2⟩
    have r2 := (r.ext k e1).ext e1.ok x2
    cases n with
    | zero =>
      have hi : w.its.length ≤ i := by omega
      rw [List.drop_eq_nil_of_le hi] at q2
      unfold dcL at q2
      split at q2
      · rename_i hgd
        refine .inl ⟨(wk i p2 m2 H2 (x2.w e1.ok) hgd).2 hi, ?_⟩
        have eself : upd H2 L (.dK vacc) = H2 := by
          funext b
          by_cases hb : b = L
          · subst hb; rw [upd_same, eL]
          · rw [upd_ne hb]
        have z := Ext.adopt (u := .dK vacc) (o := .dic acc) x2 hL nL eL (fun _ z => nomatch z) (fun _ _ z => nomatch z) fun H' e' go => ⟨vacc, e', hke, go _ _ ra⟩
        rw [eself] at z
        refine q2 (p2 ++ [L]) H2 (.ref L) z (.ref ?_)
        rw [← x2.ok.len, List.getElem?_append_right (Nat.le_refl _)]
        simp
      · exact q2.elim
    | succ n =>
      have hi : i < w.its.length := by omega
      rw [List.drop_eq_getElem_cons hi] at q2
      unfold dcL at q2
      split at q2
      · rename_i hgd
        obtain ⟨go, yl⟩ := (wk i p2 m2 H2 (x2.w e1.ok) hgd).1 _ (List.getElem?_eq_getElem hi)
        refine .inr ⟨go, fun H' => ∃ p' m' acc vacc, Ext (gx X) p1 H1 p' m' H' ∧ L ∉ p' ∧ H' L = some (.dK vacc) ∧ vacc.map (·.1) = acc.map (·.1) ∧ RDs (gx X) p' H' (acc.map (·.2)) (vacc.map (·.2)) ∧
          GoV (gx X) p1 H1 ((dcL w.gd pt t kx x (wipeM e vs) (w.its.drop (i + 1)) acc m').bind fun ys m2 => .ok (.ref m2.length) (m2 ++ [O.dic ys])) Q (WE W σ),
          fun H' ⟨p', m', acc', vacc', y1, y2, y3, y3', y4, y5⟩ => ⟨n, Nat.lt_succ_self n, p', m', acc', vacc', y1, y2, y3, y3', y4, by omega, y5⟩, fun v H3 hy => ?_⟩
        obtain ⟨x3, rv⟩ := yl v H3 hy
        have x13 := x2.trans e1.ok x3
        have r3 := (r2.ext x2.ok x3).wipe vs
        obtain ⟨nL3, eL3⟩ := x3.keeps nL eL
        cases hpt : patM pt w.its[i] (wipeM e vs) with
        | none => rw [hpt] at q2; exact q2.elim
        | some e3 =>
          rw [hpt] at q2
          refine pat_in rv r3 hs hpt fun σ3 ro3 hw => ⟨hw.trans ?_, ?_⟩
          · apply List.ext_getElem?
            intro j
            rw [wipe_at, wipe_at]
            by_cases hj : j ∈ vs
            · simp [hj, Option.map_map, Function.comp_def]
            · simp [hj, wipe_at]
          · refine ⟨e3, p2, m2, x3.ok, ro3, ?_⟩
            change GoV _ _ _ (((t e3 m2).calm.bind _).bind _) _ _ at q2
            cases h3 : t e3 m2 with
            | bad => rw [h3] at q2; exact q2
            | exc c m3 => rw [h3] at q2; exact q2.elim
            | ok b m3 =>
              rw [h3] at q2
              intro p4 H4 x4
              have x14 := x13.trans e1.ok x4
              obtain ⟨nL4, eL4⟩ := x4.keeps nL3 eL3
              have ra4 := (ra.ext x2.ok x3).ext x3.ok x4
              cases b with
              | false => exact ⟨p4, m3, acc, vacc, x14, nL4, eL4, hke, ra4, q2⟩
              | true =>
                refine ⟨e3, p4, m3, x4.ok, ro3.ext x3.ok x4, ?_⟩
                change GoV _ _ _ (((kx e3 m3).calm.bind _).bind _) _ _ at q2
                cases h4 : kx e3 m3 with
                | bad => rw [h4] at q2; exact q2
                | exc c m4 => rw [h4] at q2; exact q2.elim
                | ok y m4 =>
                  rw [h4] at q2
                  intro p5 H5 vy x5 ry
                  have x15 := x14.trans e1.ok x5
                  obtain ⟨nL5, eL5⟩ := x5.keeps nL4 eL4
                  have ra5 := ra4.ext x4.ok x5
                  refine ⟨e3, p5, m4, x5.ok, (ro3.ext x3.ok x4).ext x4.ok x5, ?_⟩
                  change GoV _ _ _ (((x e3 m4).calm.bind _).bind _) _ _ at q2
                  cases h5 : x e3 m4 with
                  | bad => rw [h5] at q2; exact q2
                  | exc c m5 => rw [h5] at q2; exact q2.elim
                  | ok z m5 =>
                    rw [h5] at q2
                    intro p6 H6 vz x6 rz
                    have x16 := x15.trans e1.ok x6
                    obtain ⟨nL6, eL6⟩ := x6.keeps nL5 eL5
                    have ra6 := ra5.ext x5.ok x6
                    change GoV _ _ _ ((match keyD y with | some k => _ | none => _ : R (List (Key × D))).bind _) _ _ at q2
                    cases hkd : keyD y with
                    | none => rw [hkd] at q2; exact q2.elim
                    | some kk =>
                      rw [hkd] at q2
                      simp only at q2
                      split at q2
                      · rename_i hsz
                        have hlen : vacc.length = acc.length := by
                          have := congrArg List.length hke
                          simpa using this
                        obtain ⟨ok6, all6⟩ := x6.ok.apart (u := .dK (putK vacc kk vz)) nL6 eL6 (fun _ z => nomatch z) (fun _ _ z => nomatch z)
                        refine ⟨vacc, kk, keyD_of ry hkd, eL6, szlt (by rw [hlen]; exact hsz), p6, m5, putD acc kk z, putK vacc kk vz, ⟨ok6, x16.pre, fun b o zz zb => ?_, fun b o u zz => ?_⟩, nL6, upd_same, map_fst_put acc vacc kk z vz hke, all6 _ _ (snd_put kk z vz rz acc vacc hke ra6), q2⟩
                        · rw [upd_ne (ne_of_none zz hL)]
                          exact x16.fr b o zz zb
                        · rw [upd_ne (ne_of_none zz hL)]
                          exact x16.sea b o u zz
                      · exact q2.elim
      · exact q2.elim
theorem so_dc {ekx elt iter : Expr} {ifs : List Expr} {scope : Scope} {own : List (Str × Nat)} {f : MI} {pt : Pat} {t : MT} {kx x : ME} (hc : X.calm = true) (hN : X.N.Nodup) (hi : SI X W tg iter f) (ok : BlkOk X.N X.env.scope scope own)
    (hg : AnyBlk X scope fun Y => PG Y tg (patT X.K pt)) (ht : AnyBlk X scope fun Y => PTs Y ifs (rdT (gx X) W0 t)) (hk : AnyBlk X scope fun Y => SE Y W0 ekx kx) (he : AnyBlk X scope fun Y => SE Y W0 elt x)
    (hsl : ∀ i ∈ pt.slots, i ∈ own.map (·.2) := by decide) (hs : ∀ y, foldedSetIterable iter X.env y = pure y := by intro _; rfl) : SE X W (.DictComp ekx elt [⟨tg, iter, ifs, 0⟩] scope pos) (mDc f pt t kx x (own.map (·.2))) :=
  pe_imp (pe_dc (tk := rdE (gx X) W0 kx) (tv := rdE (gx X) W0 x) hc hN hi ok hg ht hk he hs) fun σ H Q h => dc_in hsl h
end
end Mi
/-! ### pairs of numbers sorted -/
namespace Mi
open PySem PySem.Spec PyProof.Rows L2 Classical
abbrev prD (p : Int × Int) : D := .tup [.int p.1, .int p.2]
def pairsD : List D → Option (List (Int × Int))
  | [] => some []
  | .tup [.int i, .int j] :: ds => (pairsD ds).map ((i, j) :: ·)
  | _ :: _ => none
theorem pairsD_eq : ∀ {ds : List D} {ps : List (Int × Int)}, pairsD ds = some ps → ds = ps.map prD
  | [], ps, h => by cases h; rfl
  | d :: ds, ps, h => by
    unfold pairsD at h
    split at h
    · rename_i h0
      cases h0
    · rename_i i j ds' h0
      cases h0
      cases h1 : pairsD ds with
      | none => rw [h1] at h; cases h
      | some qs =>
        rw [h1] at h
        cases h
        rw [pairsD_eq h1]
        rfl
    · cases h
theorem pairsD_map : ∀ (ps : List (Int × Int)), pairsD (ps.map prD) = some ps
  | [] => rfl
  | (i, j) :: ps => by
    show (pairsD (ps.map prD)).map _ = _
    rw [pairsD_map ps]
    rfl
def lexLe (p q : Int × Int) : Bool := decide (p.1 < q.1) || (decide (p.1 = q.1) && decide (p.2 ≤ q.2))
theorem lexLe_iff {p q : Int × Int} : lexLe p q = true ↔ p.1 < q.1 ∨ (p.1 = q.1 ∧ p.2 ≤ q.2) := by simp [lexLe]
def psort (ps : List (Int × Int)) : List (Int × Int) := ps.mergeSort lexLe
theorem psort_perm (ps : List (Int × Int)) : (psort ps).Perm ps := List.mergeSort_perm ps _
theorem psort_sorted (ps : List (Int × Int)) : (psort ps).Pairwise (fun a b => lexLe a b = true) := List.pairwise_mergeSort (fun a b c h1 h2 => by
  rw [lexLe_iff] at h1 h2 ⊢
  omega) (fun a b => by
  rw [Bool.or_eq_true, lexLe_iff, lexLe_iff]
  omega) ps
theorem psort_uniq {ps qs : List (Int × Int)} (h : qs.Perm ps) (hs : qs.Pairwise (fun a b => lexLe a b = true)) : qs = psort ps := by
  refine List.Perm.eq_of_pairwise (le := fun a b => lexLe a b = true) (fun a b _ _ h1 h2 => ?_) hs (psort_sorted ps) (h.trans (psort_perm ps).symm)
  rw [lexLe_iff] at h1 h2
  have : a.1 = b.1 := by omega
  have : a.2 = b.2 := by omega
  exact Prod.ext ‹_› ‹_›
def dSortedP (rev : Bool) (ds : List D) (m : Mem) : R D := match ds with
  | [d] => match lstOf d m with
    | some xs => match pairsD xs with
      | some ps => .ok (.ref m.length) (m ++ [.lst ((if rev = true then (psort ps).reverse else psort ps).map prD)])
      | none => .bad
    | none => .bad
  | _ => .bad
section
variable {X : Cx} {W : WX} {pos : Pos}
def TwoI (K : PySem.W.Frag) (H : Hp) (k : V → Int × Int) (x : V) : Prop := ∃ t, x = V.ref t ∧ SqT K H t [.int (k x).1, .int (k x).2]
theorem TwoI.pair {pins : List (Addr × Obj)} {σ : L2.St} {H : Hp} {s : Shared} {k : V → Int × Int} {t : Addr} (I : Inv X pins σ H s) (h : TwoI X.K H k (.ref t)) : Srt.IsPair s.heap (Value.ref t) (k (backV (Value.ref t))).1 (k (backV (Value.ref t))).2 := by
  obtain ⟨t', e, ht⟩ := h
  cases e
  obtain ⟨its, r2, ⟨o, ho, hc, n, hd⟩, _⟩ := I.tuple ht
  obtain ⟨u1, u2, rfl, ⟨t1, rfl⟩, ⟨t2, rfl⟩⟩ := vals2 r2
  exact ⟨t, o, t1, t2, n, rfl, ho, hc, hd⟩
/-- which two numbers each of them holds -/
theorem twos {pins : List (Addr × Obj)} {σ : L2.St} {p : List Addr} {H : Hp} {s : Shared} (I : Inv X pins σ H s) : ∃ k : V → Int × Int, ∀ (ps : List (Int × Int)) (xs : List V), RDs (gx X) p H (ps.map prD) xs → xs.map k = ps ∧ ∀ x ∈ xs, TwoI X.K H k x := by
  refine ⟨fun x => if h : ∃ z : Int × Int, ∃ t, x = V.ref t ∧ SqT X.K H t [.int z.1, .int z.2] then h.choose else (0, 0), ?_⟩
  intro ps
  induction ps with
  | nil => intro xs h; cases h; exact ⟨rfl, by simp⟩
  | cons z ps ih =>
    intro xs h
    cases h with
    | cons r rt =>
      obtain ⟨i1, i2⟩ := ih _ rt
      unfold prD at r
      cases r with
      | @tup a ws _ ha rs =>
        cases rs with
        | cons q1 qt =>
          cases qt with
          | cons q2 qn =>
            cases qn
            cases q1
            cases q2
            have hex : ∃ y : Int × Int, ∃ t, V.ref a = V.ref t ∧ SqT X.K H t [.int y.1, .int y.2] := ⟨z, a, rfl, ha⟩
            have hz : hex.choose = z := by
              obtain ⟨t, e, ht⟩ := hex.choose_spec
              cases e
              have := I.tuple_inj ht ha
              simp only [List.cons.injEq, V.int.injEq, and_true] at this
              exact Prod.ext this.1 this.2
            have hk : (if h : ∃ y : Int × Int, ∃ t, V.ref a = V.ref t ∧ SqT X.K H t [.int y.1, .int y.2] then h.choose else (0, 0)) = z := by
              rw [dif_pos hex]
              exact hz
            refine ⟨?_, fun x hx => ?_⟩
            · rw [List.map_cons, i1]
              exact congrArg (· :: ps) hk
            · rcases List.mem_cons.mp hx with rfl | hx
              · refine ⟨a, rfl, ?_⟩
                simp only [hk]
                exact ha
              · exact i2 x hx
/-- sorted, in our own order -/
theorem rd_sorted {p p' : List Addr} {H H' : Hp} {k : V → Int × Int} {ps : List (Int × Int)} {xs ys : List V} (h1 : xs.map k = ps) (h2 : ∀ x ∈ xs, TwoI X.K H k x) (hs : SrtO.Srtd (ltP k) ys) (hp : ys.Perm xs) : RDs (gx X) p H ((psort ps).map prD) ys := by
  have e : ys.map k = psort ps := by
    refine psort_uniq (by rw [← h1]; exact hp.map k) ?_
    rw [List.pairwise_map]
    refine List.Pairwise.imp (R := fun x y => ltP k y x = false) (fun {x y} h => ?_) hs
    have h := SrtO.lexB_no.mp h
    rw [lexLe_iff]
    omega
  rw [← e, List.map_map]
  have go : ∀ ys : List V, (∀ y ∈ ys, TwoI X.K H k y) → RDs (gx X) p H (ys.map (prD ∘ k)) ys := by
    intro ys
    induction ys with
    | nil => exact fun _ => .nil
    | cons y ys ih =>
      intro hy
      refine .cons ?_ (ih fun z hz => hy z (by simp [hz]))
      obtain ⟨t, e, ht⟩ := hy y (by simp)
      have : RD (gx X) p H (prD (k y)) (.ref t) := .tup ht (.cons (.int _) (.cons (.int _) .nil))
      rw [← e] at this
      exact this
  exact go ys fun y hy => h2 y (hp.mem_iff.mp hy)
theorem cd_sortedP : CallR X (.builtin "sorted") (rdC (gx X) (dSortedP false)) := by
  intro pins s σ H vs us Q I r h
  obtain ⟨p, m, ds, ok, rd, q⟩ := h
  unfold dSortedP at q
  split at q
  · rename_i d
    split at q
    · rename_i xs hx
      split at q
      · rename_i ps hps
        cases rd with
        | cons r1 rt =>
          cases rt
          obtain ⟨a, ws, rfl, hs, rv⟩ := lst_of ok r1 hx
          rw [pairsD_eq hps] at rv
          obtain ⟨k, hk⟩ := twos (p := p) I
          obtain ⟨k1, k2⟩ := hk ps ws rv
          obtain ⟨its, rv', hl, hz⟩ := I.list hs
          obtain ⟨u, rfl, ru⟩ := vals1 r
          obtain rfl : u = Value.ref a := ru
          obtain ⟨e1, e2⟩ := refs_back rv' fun x hm => (k2 x hm).imp fun _ z => z.1
          refine SrtO.sorted_pairsO (k := fun u => k (backV u)) hl.isList (by rw [← rv'.length]; exact hz) (fun v hv => ?_) fun h' d out h1 h2 kp hd hn => ?_
          · obtain ⟨t, rfl⟩ := e2 v hv
            exact TwoI.pair I (k2 _ (by rw [e1]; exact List.mem_map.mpr ⟨_, hv, rfl⟩))
          · have h3 : ∀ u ∈ out, ∃ a, u = Value.ref a := fun u hu => e2 u (h2.perm.mem_iff.mp hu)
            obtain ⟨n, hn⟩ := hn
            have hb : (out.map backV).Perm ws := by
              rw [e1]
              exact h2.perm.map backV
            have rz := rd_sorted (p := p) (p' := p) (H' := H) k1 k2 (SrtO.srtd_map h1) hb
            have hfree := I.hok.fresh hd
            have z := new_lst ok rz hfree
            refine ⟨.ref d, upd H d (.lst (out.map backV)), I.laid (t' := s.toks) kp hd ⟨?_, out, n, vals_back h3, hn⟩, rfl, q _ _ _ z.1 z.2⟩
            rw [hb.length_eq]
            exact hz
      · exact q.elim
    · exact q.elim
  · exact q.elim
def rdCR (g : Gx) : List V → List V → Hp → VK → Prop := fun vs zs H Q => match zs with
  | [.bl true] => rdC g (dSortedP true) vs H Q
  | _ => False
theorem cd_sortedR : CallRK X (.builtin "sorted") [Str.ofString "reverse"] (rdCR (gx X)) := by
  intro pins s σ H vs zs us wsv Q I r rz h
  unfold rdCR at h
  split at h
  · obtain ⟨w1, rfl, ew⟩ := vals1 rz
    obtain rfl : w1 = Value.bool true := ew
    obtain ⟨p, m, ds, ok, rd, q⟩ := h
    unfold dSortedP at q
    split at q
    · rename_i d
      split at q
      · rename_i xs hx
        split at q
        · rename_i ps hps
          cases rd with
          | cons r1 rt =>
            cases rt
            obtain ⟨a, ws, rfl, hs, rv⟩ := lst_of ok r1 hx
            rw [pairsD_eq hps] at rv
            obtain ⟨k, hk⟩ := twos (p := p) I
            obtain ⟨k1, k2⟩ := hk ps ws rv
            obtain ⟨its, rv', hl, hz⟩ := I.list hs
            obtain ⟨u, rfl, ru⟩ := vals1 r
            obtain rfl : u = Value.ref a := ru
            obtain ⟨e1, e2⟩ := refs_back rv' fun x hm => (k2 x hm).imp fun _ z => z.1
            have hp : ∀ v ∈ its, Srt.IsPair s.heap v (k (backV v)).1 (k (backV v)).2 := fun v hv => by
              obtain ⟨t, rfl⟩ := e2 v hv
              exact TwoI.pair I (k2 _ (by rw [e1]; exact List.mem_map.mpr ⟨_, hv, rfl⟩))
            refine SrtR.sorted_ordK (b := true) (fun _ => rfl) (PyProof.Rows.args_sorted_rev _ _) (fun _ => PyProof.Rows.args_list_sort_rev _ _) (SrtO.swo_lex fun u => k (backV u)) hl.isList (by rw [← rv'.length]; exact hz) (fun hn2 h₁ a' ha' kk => ?_) fun out h1 h2 => ?_
            · refine SrtO.pairs_sortableO (s := { s with heap := h₁ }) (by omega) (fun v hm => (hp v hm).keeps fun b o e _ => (kk b o e).2) fun o e hc => ?_
              have e' : some o = some (seqObj "list" its.toArray 0) := e.symm.trans ha'
              cases e'
              exact absurd (Value.type.inj hc) (by decide)
            · rw [if_pos rfl] at h2
              have h2p : out.Perm its := h2.perm.trans (List.reverse_perm _)
              have h3 : ∀ u ∈ out, ∃ a, u = Value.ref a := fun u hu => e2 u (h2p.mem_iff.mp hu)
              have hb : (out.map backV).Perm ws := by
                rw [e1]
                exact h2p.map backV
              have rz := (rd_sorted (p := p) (p' := p) (H' := H) k1 k2 (SrtO.srtd_map h1) hb).rev
              have hfree : H (s.heap.objs.size + 1) = none := I.hok.fresh (Nat.le_succ _)
              rw [← List.map_reverse] at rz
              have z := new_lst ok rz hfree
              obtain ⟨ep, he'⟩ := PyProof.Rows.sortedAll_at s.heap its (if true = true then out.toArray.reverse else out.toArray)
              have er : (out.map backV).reverse = out.reverse.map backV := by rw [List.map_reverse]
              have eo : out.reverse.toArray = (if true = true then out.toArray.reverse else out.toArray) := by rw [if_pos rfl]; simp
              refine ⟨.ref _, upd H (s.heap.objs.size + 1) (.lst (out.map backV).reverse), I.laid (t' := s.toks) (fun _ _ => PyProof.Rows.sortedAll_old) (Nat.le_succ _) ⟨?_, out.reverse, ep, ?_, ?_⟩, rfl, q _ _ _ z.1 z.2⟩
              · rw [List.length_reverse, hb.length_eq]
                exact hz
              · rw [er]
                exact vals_back fun u hu => h3 u (List.mem_reverse.mp hu)
              · rw [eo]
                exact he'
        · exact q.elim
      · exact q.elim
    · exact q.elim
  · exact h.elim
theorem so_sortedRev {xa : Expr} {a : MA} {pf pk kpos : Pos} {j : Nat} (hg : Gl X "sorted") (hm : X.mg "sorted" = none) (hv : bootBuiltins "sorted" = some (.builtin "sorted")) (ha : SA X W [xa] a)
    (he : backTo pos (starEach [xa] X.env) = (false, eval xa X.env) :: backTo pos (starEach [] X.env) := by rfl) (hpl : (backTo pos (starEach [xa] X.env)).any (·.1) = false := by rfl) :
    SE X W (.Call (.Name "sorted" pf) [xa] [⟨some "reverse", .Constant (.bool true) j pk, kpos⟩] pos) (mCB (dSortedP true) a) :=
  so_args (pe_imp (pe_callBK (ks := [Str.ofString "reverse"]) cd_sortedR hg hm hv ha (pk_cons pe_bl pk_nil) (by decide) (by decide) he hpl) fun σ H Q h => h)
end
end Mi
/-! ### zip of a tuple and a list -/
namespace MiZ
open PySem
open PySem.Sem (wp)
section
variable {P : Program} {w : World} {A : Around} {E : Value → Shared → Prop} {s : Shared} {z ti tou ja jb ta lb : Addr} {ka kb : Nat} {xs ys : Array Value} {x y u v : Value}
/-- how a zip over the tuple ta and the list lb stands: its iterators ja, jb at the places ka, kb -/
structure Zm (h : Heap) (z ti tou ja jb ta lb : Addr) (ka kb : Nat) (u v : Value) : Prop where
  zip : IsZip h z ti tou .none
  its : IsPair h ti (.ref ja) (.ref jb)
  out : IsPair h tou u v
  one : h.IsTupleIter ja ta ka
  two : h.IsListIter jb lb kb
theorem zm_item {Q : Value → Shared → Prop} (D : ZipApart z ti tou ja jb ta lb) (Z : Zm s.heap z ti tou ja jb ta lb ka kb u v) (sa : s.heap.IsTuple ta xs) (sb : s.heap.IsList lb ys) (gx : xs[ka]? = some x) (gy : ys[kb]? = some y)
    (fin : ∀ h', IsZip h' z ti tou (rawInt s.heap.objs.size) → IsPair h' tou x y → h'.IsTupleIter ja ta (ka + 1) → h'.IsListIter jb lb (kb + 1) → IsPair h' s.heap.objs.size x y → h'.objs.size = s.heap.objs.size + 1 →
      (∀ c o, c ≠ z ∧ c ≠ tou ∧ c ≠ ja ∧ c ≠ jb → s.heap.get? c = some o → h'.get? c = some o) → Q (.ref s.heap.objs.size) { s with heap := h' }) :
    wpAny (model P w) A (Builtin.«zip.__next__» ⟨[.ref z], []⟩) (fun f s' => ∃ r, f = .done (.ret r) ∧ Q r s') E s := by
  show wpAny (model P w) A (field (.ref z) 2 >>= _) _ E s
  refine wpAny_bind (wpAny_field Z.zip rfl (x := .bool false) rfl ?_)
  show wpAny (model P w) A (field (.ref z) 3 >>= _) _ E s
  refine wpAny_bind (wpAny_field Z.zip rfl (x := .ref ti) rfl (wpAny_bind (wpAny_seqItems Z.its rfl ?_)))
  show wpAny (model P w) A (Builtin.SmallTypes.ownedTupleIsFree (.ref z) >>= _) _ E s
  refine wpAny_bind ?_
  unfold Builtin.SmallTypes.ownedTupleIsFree
  refine wpAny_bind (wpAny_field Z.zip rfl (x := .none) rfl (wpAny_pure ?_))
  simp only [if_true]
  refine wpAny_bind (wpAny_rule (wpAny_bind (wpAny_field Z.zip rfl (x := .ref tou) rfl (wpAny_bind (wpAny_setField_rec Z.zip (by simp) fun g₁ zz₁ k₁ => wpAny_bind ?_)))))
  replace zz₁ : IsZip g₁ z ti tou .ellipsis := zz₁
  simp only [List.zipIdx_cons, List.zipIdx_nil, List.forIn_cons, List.forIn_nil]
  refine wpAny_bind (wpAny_bind (wpAny_onRaise ?_))
  show wpAny (model P w) A (Builtin.SmallTypes.nextOf (.ref ja) >>= _) _ _ _
  refine wpAny_bind (RZ.nextOf_tuple_item (Z.one.extBut k₁.extBut D.i1z) (sa.extBut k₁.extBut D.l1z) gx fun g₂ a₂ k₂ => wpAny_pure ?_)
  have o₂ : IsPair g₂ tou u v := k₂.extBut _ _ D.TOi1 (k₁.extBut _ _ D.TOz Z.out)
  refine wpAny_bind (wpAny_seqItems o₂ rfl (wpAny_bind (wpAny_updateSeq_pair o₂ fun g₃ o₃ k₃ => wpAny_bind (wpAny_letGo (wpAny_pure ?_)))))
  replace o₃ : IsPair g₃ tou x v := o₃
  refine wpAny_bind (wpAny_bind (wpAny_onRaise ?_))
  show wpAny (model P w) A (Builtin.SmallTypes.nextOf (.ref jb) >>= _) _ _ _
  refine wpAny_bind (wpAny_nextOf_list_item (((Z.two.extBut k₁.extBut D.i2z).extBut k₂.extBut D.i12.symm).extBut k₃.extBut D.TOi2.symm) (((sb.extBut k₁.extBut D.l2z).extBut k₂.extBut D.l2i1).extBut k₃.extBut D.l2TO) gy fun g₄ b₄ k₄ => wpAny_pure ?_)
  have o₄ : IsPair g₄ tou x v := k₄.extBut _ _ D.TOi2 o₃
  refine wpAny_bind (wpAny_seqItems o₄ rfl (wpAny_bind (wpAny_updateSeq_pair o₄ fun g₅ o₅ k₅ => wpAny_bind (wpAny_letGo (wpAny_pure (wpAny_pure ?_))))))
  replace o₅ : IsPair g₅ tou x y := o₅
  refine wpAny_bind (wpAny_seqItems o₅ rfl (wpAny_bind (wpAny_newTuple ?_)))
  have size₅ : g₅.objs.size = s.heap.objs.size := by rw [k₅.1, k₄.1, k₃.1, k₂.1, k₁.1]
  have zz₅ : IsZip g₅ z ti tou .ellipsis := k₅.extBut _ _ D.TOz.symm (k₄.extBut _ _ D.i2z.symm (k₃.extBut _ _ D.TOz.symm (k₂.extBut _ _ D.i1z.symm zz₁)))
  have stay₅ : ∀ c o, c ≠ z ∧ c ≠ tou ∧ c ≠ ja ∧ c ≠ jb → s.heap.get? c = some o → g₅.get? c = some o := fun c o ⟨n1, n2, n3, n4⟩ q => k₅.extBut _ _ n2 (k₄.extBut _ _ n4 (k₃.extBut _ _ n2 (k₂.extBut _ _ n3 (k₁.extBut _ _ n1 q))))
  have a₅ : g₅.IsTupleIter ja ta (ka + 1) := ((a₂.extBut k₃.extBut D.TOi1.symm).extBut k₄.extBut D.i12).extBut k₅.extBut D.TOi1.symm
  have b₅ : g₅.IsListIter jb lb (kb + 1) := b₄.extBut k₅.extBut D.TOi2.symm
  have zlt : z < g₅.objs.size := Heap.lt_size zz₅
  show wpAny (model P w) A (Builtin.SmallTypes.ownedTupleHandOut (.ref z) (.ref g₅.objs.size) >>= _) _ _ _
  refine wpAny_bind ?_
  unfold Builtin.SmallTypes.ownedTupleHandOut
  have zz₆ : IsZip (g₅.push { cls := .type "tuple", data := .seq #[x, y] }) z ti tou .ellipsis := Heap.get?_push_of_some _ zz₅
  refine wpAny_bind (wpAny_setField_rec zz₆ (by simp) fun g₇ zz₇ k₇ => ?_)
  replace zz₇ : IsZip g₇ z ti tou (rawInt g₅.objs.size) := zz₇
  refine wpAny_setField_rec zz₇ (by simp) fun g₈ zz₈ k₈ => ?_
  replace zz₈ : IsZip g₈ z ti tou (rawInt g₅.objs.size) := zz₈
  have lift : ∀ c o, c ≠ z → g₅.get? c = some o → g₈.get? c = some o := fun c o n q => k₈.extBut _ _ n (k₇.extBut _ _ n (Heap.get?_push_of_some _ q))
  have new₈ : IsPair g₈ g₅.objs.size x y := k₈.extBut _ _ (Nat.ne_of_gt zlt) (k₇.extBut _ _ (Nat.ne_of_gt zlt) (Heap.get?_push_size _ rfl))
  have size₈ : g₈.objs.size = g₅.objs.size + 1 := by rw [k₈.1, k₇.1, Heap.size_push]
  rw [size₅] at zz₈ new₈ size₈
  refine wpAny_pure ⟨_, rfl, ?_⟩
  show Q (.ref g₅.objs.size) _
  rw [size₅]
  exact fin g₈ zz₈ (lift _ _ D.TOz o₅) (a₅.at fun o q => lift _ o D.i1z q) (b₅.at fun o q => lift _ o D.i2z q) new₈ size₈ fun c o n q => lift c o n.1 (stay₅ c o n q)
theorem zm_end {Q : Fin → Shared → Prop} (hh : A.handled = none) (D : ZipApart z ti tou ja jb ta lb) (Z : Zm s.heap z ti tou ja jb ta lb ka kb u v) (sa : s.heap.IsTuple ta xs) (sb : s.heap.IsList lb ys) (stop : xs[ka]? = none ∨ ys[kb]? = none)
    (fin : ∀ h' e, (∀ c o, c ≠ z ∧ c ≠ tou ∧ c ≠ ja ∧ c ≠ jb → s.heap.get? c = some o → h'.get? c = some o) → (∃ o, h'.get? e = some o ∧ o.cls = .type "StopIteration") → E (.ref e) { s with heap := h' }) :
    wpAny (model P w) A (Builtin.«zip.__next__» ⟨[.ref z], []⟩) Q E s := by
  show wpAny (model P w) A (field (.ref z) 2 >>= _) _ E s
  refine wpAny_bind (wpAny_field Z.zip rfl (x := .bool false) rfl ?_)
  show wpAny (model P w) A (field (.ref z) 3 >>= _) _ E s
  refine wpAny_bind (wpAny_field Z.zip rfl (x := .ref ti) rfl (wpAny_bind (wpAny_seqItems Z.its rfl ?_)))
  show wpAny (model P w) A (Builtin.SmallTypes.ownedTupleIsFree (.ref z) >>= _) _ E s
  refine wpAny_bind ?_
  unfold Builtin.SmallTypes.ownedTupleIsFree
  refine wpAny_bind (wpAny_field Z.zip rfl (x := .none) rfl (wpAny_pure ?_))
  simp only [if_true]
  refine wpAny_bind (wpAny_rule (wpAny_bind (wpAny_field Z.zip rfl (x := .ref tou) rfl (wpAny_bind (wpAny_setField_rec Z.zip (by simp) fun g₁ zz₁ k₁ => wpAny_bind ?_)))))
  replace zz₁ : IsZip g₁ z ti tou .ellipsis := zz₁
  simp only [List.zipIdx_cons, List.zipIdx_nil, List.forIn_cons, List.forIn_nil]
  refine wpAny_bind (wpAny_bind (wpAny_onRaise ?_))
  show wpAny (model P w) A (Builtin.SmallTypes.nextOf (.ref ja) >>= _) _ _ _
  cases gx : xs[ka]? with
  | none =>
    refine wpAny_bind (RZ.nextOf_tuple_end hh (Z.one.extBut k₁.extBut D.i1z) (sa.extBut k₁.extBut D.l1z) gx fun g₂ e k₂ ⟨oe, he, hc⟩ => ?_)
    have zz₂ : IsZip g₂ z ti tou .ellipsis := k₂ _ _ D.i1z.symm zz₁
    have ne : e ≠ z := fun q => by subst q; rw [zz₂] at he; cases he; simp at hc
    exact wpAny_setField_rec zz₂ (by simp) fun g₃ _ k₃ => fin g₃ e (fun c o n q => k₃.extBut _ _ n.1 (k₂ _ _ n.2.2.1 (k₁.extBut _ _ n.1 q))) ⟨oe, k₃.extBut _ _ ne he, hc⟩
  | some x =>
    have gy : ys[kb]? = none := stop.elim (fun q => by rw [gx] at q; cases q) id
    refine wpAny_bind (RZ.nextOf_tuple_item (Z.one.extBut k₁.extBut D.i1z) (sa.extBut k₁.extBut D.l1z) gx fun g₂ a₂ k₂ => wpAny_pure ?_)
    have o₂ : IsPair g₂ tou u v := k₂.extBut _ _ D.TOi1 (k₁.extBut _ _ D.TOz Z.out)
    refine wpAny_bind (wpAny_seqItems o₂ rfl (wpAny_bind (wpAny_updateSeq_pair o₂ fun g₃ o₃ k₃ => wpAny_bind (wpAny_letGo (wpAny_pure ?_)))))
    refine wpAny_bind (wpAny_bind (wpAny_onRaise ?_))
    show wpAny (model P w) A (Builtin.SmallTypes.nextOf (.ref jb) >>= _) _ _ _
    refine wpAny_bind (wpAny_nextOf_list_end hh (((Z.two.extBut k₁.extBut D.i2z).extBut k₂.extBut D.i12.symm).extBut k₃.extBut D.TOi2.symm) (((sb.extBut k₁.extBut D.l2z).extBut k₂.extBut D.l2i1).extBut k₃.extBut D.l2TO) gy fun g₄ e k₄ ⟨oe, he, hc⟩ => ?_)
    have zz₄ : IsZip g₄ z ti tou .ellipsis := k₄ _ _ D.i2z.symm (k₃.extBut _ _ D.TOz.symm (k₂.extBut _ _ D.i1z.symm zz₁))
    have ne : e ≠ z := fun q => by subst q; rw [zz₄] at he; cases he; simp at hc
    exact wpAny_setField_rec zz₄ (by simp) fun g₅ _ k₅ => fin g₅ e (fun c o n q => k₅.extBut _ _ n.1 (k₄ _ _ n.2.2.2 (k₃.extBut _ _ n.2.1 (k₂.extBut _ _ n.2.2.1 (k₁.extBut _ _ n.1 q))))) ⟨oe, k₅.extBut _ _ ne he, hc⟩
theorem nextM_item {Q : Option Value → Shared → Prop} (D : ZipApart z ti tou ja jb ta lb) (Z : Zm s.heap z ti tou ja jb ta lb ka kb u v) (sa : s.heap.IsTuple ta xs) (sb : s.heap.IsList lb ys) (gx : xs[ka]? = some x) (gy : ys[kb]? = some y)
    (fin : ∀ h', IsZip h' z ti tou (rawInt s.heap.objs.size) → IsPair h' tou x y → h'.IsTupleIter ja ta (ka + 1) → h'.IsListIter jb lb (kb + 1) → IsPair h' s.heap.objs.size x y → h'.objs.size = s.heap.objs.size + 1 →
      (∀ c o, c ≠ z ∧ c ≠ tou ∧ c ≠ ja ∧ c ≠ jb → s.heap.get? c = some o → h'.get? c = some o) → Q (some (.ref s.heap.objs.size)) { s with heap := h' }) : wpAny (model P w) A (pyNext (.ref z)) Q E s := by
  have ty : s.TypeIs (.ref z) "zip" := ⟨_, Z.zip, rfl⟩
  unfold pyNext
  exact wpAny_bind (wpAny_attempt (wpAny_callSpecial?_slot (name := Str.ofString "__next__") ty F.slot_zip_next (wpAny_call_entry F.slot_zip_next ty F.entry_zip_next (zm_item D Z sa sb gx gy fun h' q1 q2 q3 q4 q5 q6 q7 => wpAny_pure (fin h' q1 q2 q3 q4 q5 q6 q7)) (F.args_zip_next_1 _))))
theorem nextM_end {Q : Option Value → Shared → Prop} (hh : A.handled = none) (D : ZipApart z ti tou ja jb ta lb) (Z : Zm s.heap z ti tou ja jb ta lb ka kb u v) (sa : s.heap.IsTuple ta xs) (sb : s.heap.IsList lb ys) (stop : xs[ka]? = none ∨ ys[kb]? = none)
    (fin : ∀ h', (∀ c o, c ≠ z ∧ c ≠ tou ∧ c ≠ ja ∧ c ≠ jb → s.heap.get? c = some o → h'.get? c = some o) → Q none { s with heap := h' }) : wpAny (model P w) A (pyNext (.ref z)) Q E s := by
  have ty : s.TypeIs (.ref z) "zip" := ⟨_, Z.zip, rfl⟩
  unfold pyNext
  refine wpAny_bind (wpAny_attempt (wpAny_callSpecial?_slot (name := Str.ofString "__next__") ty F.slot_zip_next (wpAny_call_entry F.slot_zip_next ty F.entry_zip_next (zm_end hh D Z sa sb stop fun h' e stay ⟨o, ho, hc⟩ => ?_) (F.args_zip_next_1 _))))
  exact wpAny_bind (wpAny_isInstance (T := "StopIteration") (b := true) ⟨o, ho, hc⟩ isSubtype_stop (wpAny_pure (fin _ stay)))
end
abbrev hp1 (h : Heap) (ta : Addr) : Heap := h.push { cls := .type "tuple_iterator", data := .fields #[.ref ta, .int 0 0] }
abbrev hp2 (h : Heap) (ta lb : Addr) : Heap := (hp1 h ta).push { cls := .type "list_iterator", data := .fields #[.ref lb, .int 0 0] }
abbrev hp3 (h : Heap) (ta lb : Addr) : Heap := (hp2 h ta lb).push { cls := .type "tuple", data := .seq #[.ref h.objs.size, .ref (hp1 h ta).objs.size] }
abbrev hp4 (h : Heap) (ta lb : Addr) : Heap := (hp3 h ta lb).push { cls := .type "tuple", data := .seq #[.none, .none] }
abbrev hp5 (h : Heap) (ta lb : Addr) : Heap := (hp4 h ta lb).push { cls := .type "zip", data := .fields #[.none, .bool false, .bool false, .ref (hp2 h ta lb).objs.size, .ref (hp3 h ta lb).objs.size] }
theorem meetsM (ta lb : Addr) (xs ys : Array Value) :
    Meets (Builtin.«zip.__new__» ⟨[.type "zip", .ref ta, .ref lb], []⟩) (fun _ R s => s.heap.IsTuple ta xs ∧ s.heap.IsList lb ys ∧ R (.ok (.ret (.ref (hp4 s.heap ta lb).objs.size))) { s with heap := hp5 s.heap ta lb }) :=
  .of_wp fun prog w A R s h => by
    obtain ⟨hp, g, d, tk, os⟩ := s; obtain ⟨ha, hb, h⟩ := h
    have hsub := sub_zip
    have la : Heap.IsTuple (Shared.heap ⟨hp, g, d, tk, os⟩) ta xs := ha
    have lb' : Heap.IsList (Shared.heap ⟨hp.push { cls := .type "tuple_iterator", data := .fields #[.ref ta, .int 0 0] }, g, d, tk, os⟩) lb ys := Heap.IsList.push hb _
    wp_walk using wpAny_pyIter_tuple la, wpAny_pyIter_list lb'
    exact ⟨_, rfl, h⟩
section
variable {P : Program} {w : World} {A : Around} {E : Value → Shared → Prop} {s : Shared}
theorem callM {ta lb : Addr} {xs ys : Array Value} {Q : Value → Shared → Prop} (sa : s.heap.IsTuple ta xs) (sb : s.heap.IsList lb ys)
    (fin : ∀ h', Zm h' (s.heap.objs.size + 4) (s.heap.objs.size + 2) (s.heap.objs.size + 3) s.heap.objs.size (s.heap.objs.size + 1) ta lb 0 0 .none .none → (∀ c o, s.heap.get? c = some o → h'.get? c = some o) → Q (.ref (s.heap.objs.size + 4)) { s with heap := h' }) :
    wpAny (model P w) A (call (.type "zip") [.ref ta, .ref lb]) Q E s := by
  refine callType_new F.called_zip (by decide) (F.typeCall_zip_2 _ _) (F.newCall_zip_2 _ _) (fun obj => F.args_object_init_3 obj _ _) F.entry_zip_new (meetsM ta lb xs ys) ⟨sa, sb, ?_⟩
  have e1 : (hp1 s.heap ta).objs.size = s.heap.objs.size + 1 := by rw [Heap.size_push]
  have e2 : (hp2 s.heap ta lb).objs.size = s.heap.objs.size + 2 := by rw [Heap.size_push, e1]
  have e3 : (hp3 s.heap ta lb).objs.size = s.heap.objs.size + 3 := by rw [Heap.size_push, e2]
  have e4 : (hp4 s.heap ta lb).objs.size = s.heap.objs.size + 4 := by rw [Heap.size_push, e3]
  have up5 : ∀ {c o}, (hp4 s.heap ta lb).get? c = some o → (hp5 s.heap ta lb).get? c = some o := fun q => Heap.get?_push_of_some _ q
  have up4 : ∀ {c o}, (hp3 s.heap ta lb).get? c = some o → (hp5 s.heap ta lb).get? c = some o := fun q => up5 (Heap.get?_push_of_some _ q)
  have up3 : ∀ {c o}, (hp2 s.heap ta lb).get? c = some o → (hp5 s.heap ta lb).get? c = some o := fun q => up4 (Heap.get?_push_of_some _ q)
  have up2 : ∀ {c o}, (hp1 s.heap ta).get? c = some o → (hp5 s.heap ta lb).get? c = some o := fun q => up3 (Heap.get?_push_of_some _ q)
  have f5 : (hp5 s.heap ta lb).get? (hp4 s.heap ta lb).objs.size = some _ := Heap.get?_push_size _ rfl
  have f4 : (hp5 s.heap ta lb).get? (hp3 s.heap ta lb).objs.size = some _ := up5 (Heap.get?_push_size _ rfl)
  have f3 : (hp5 s.heap ta lb).get? (hp2 s.heap ta lb).objs.size = some _ := up4 (Heap.get?_push_size _ rfl)
  have f2 : (hp5 s.heap ta lb).get? (hp1 s.heap ta).objs.size = some _ := up3 (Heap.get?_push_size _ rfl)
  have f1 : (hp5 s.heap ta lb).get? s.heap.objs.size = some _ := up2 (Heap.get?_push_size _ rfl)
  show _ ∧ _
  rw [e2, e3, e4] at f5
  rw [e1, e2] at f3
  rw [e3] at f4
  rw [e1] at f2
  rw [e4]
  exact ⟨⟨_, f5, rfl⟩, fin _ ⟨f5, f3, f4, ⟨_, f1, rfl, rfl⟩, ⟨_, f2, rfl, rfl⟩⟩ fun c o q => up2 (Heap.get?_push_of_some _ q)⟩
end
end MiZ
namespace Mi
open PySem PySem.Spec PyProof.Rows L2 Classical MiZ
/-- the tuple at a and the list at b as they stand at each turn -/
def ItzM (K : PySem.W.Frag) (a b : Addr) : It :=
  ⟨fun i H => ∃ (xs ys : List V) (x y : V), SqT K H a xs ∧ SqL K H b ys ∧ xs[i]? = some x ∧ ys[i]? = some y,
    fun i H v H' => ∃ T x y, v = .ref T ∧ H T = none ∧ H' = upd H T (.tup [x, y]) ∧ (∀ xs, SqT K H a xs → xs[i]? = some x) ∧ ∀ ys, SqL K H b ys → ys[i]? = some y,
    fun i H => ∃ xs ys : List V, SqT K H a xs ∧ SqL K H b ys ∧ (xs.length ≤ i ∨ ys.length ≤ i)⟩
theorem turnM {P : Program} {w : World} {K : PySem.W.Frag} {elts : List Expr} {kk : Nat} {tpos : Pos} {a b z TI TO i1 i2 : Addr} (D : ZipApart z TI TO i1 i2 a b) :
    Turn P w K (.Tuple elts kk tpos) (ItzM K a b) [z, TI, TO, i1, i2] z (fun i h => ∃ x y, Zm h z TI TO i1 i2 a b i i x y) where
  mem := by simp
  obj := fun i h st c hc => by
    obtain ⟨x, y, Z⟩ := st
    obtain ⟨o1, e1, _, d1⟩ := Z.one
    obtain ⟨o2, e2, _, d2⟩ := Z.two
    rcases (by simpa using hc : c = z ∨ c = TI ∨ c = TO ∨ c = i1 ∨ c = i2) with rfl | rfl | rfl | rfl | rfl
    · exact ⟨_, Z.zip, fun v q => nomatch q⟩
    · exact ⟨_, Z.its, fun v q => nomatch q⟩
    · exact ⟨_, Z.out, fun v q => nomatch q⟩
    · exact ⟨o1, e1, fun v q => by rw [d1] at q; cases q⟩
    · exact ⟨o2, e2, fun v q => by rw [d2] at q; cases q⟩
  keep := fun i h h' st k => by
    obtain ⟨x, y, Z⟩ := st
    exact ⟨x, y, k z (by simp) _ Z.zip, k TI (by simp) _ Z.its, k TO (by simp) _ Z.out, Z.one.at fun o q => k i1 (by simp) o q, Z.two.at fun o q => k i2 (by simp) o q⟩
  item := by
    intro X hP hw hK hc i pins s σ H E I hf st hg
    subst hP hw hK
    obtain ⟨x0, y0, Z⟩ := st
    obtain ⟨xs, ys, x, y, hqx, hqy, hx, hy⟩ := hg
    obtain ⟨its, rv, p, _⟩ := I.tuple hqx
    obtain ⟨its2, rv2, p2, _⟩ := I.list hqy
    obtain ⟨u, hu, ru⟩ := rv.get hx
    obtain ⟨u2, hu2, ru2⟩ := rv2.get hy
    have zl : z < s.heap.objs.size := Heap.lt_size Z.zip
    refine nextM_item D Z p p2.isList (x := u) (y := u2) (by simpa using hu) (by simpa using hu2) fun h' z' TO' h1' h2' hT hsz hk => ⟨_, rfl, wpAny_letOwnedTupleGo_zip (s := { s with heap := h' }) z' fun h'' z'' sb => ?_⟩
    have new2 : h''.get? s.heap.objs.size = some { cls := .type "tuple", data := .seq #[u, u2] } := (sb.2 _ (Nat.ne_of_gt zl)).trans hT
    have okn : ObjOk X.prog X.w (upd H s.heap.objs.size (.tup [x, y])) h'' s.heap.objs.size (.tup [x, y]) := ⟨by show 2 ≤ sizeLine; decide, [u, u2], .cons ru (.cons ru2 .nil), ⟨_, new2, rfl, _, rfl⟩⟩
    have I1 := I.turnedNew (t' := s.toks) (ch := [z, TI, TO, i1, i2]) (h' := h'') (fun c o hb q => (sb.2 c (fun q' => hb (by simp [q']))).trans (hk c o ⟨fun q' => hb (by simp [q']), fun q' => hb (by simp [q']), fun q' => hb (by simp [q']), fun q' => hb (by simp [q'])⟩ q)) hf (Nat.le_refl _) okn
    refine ⟨.ref s.heap.objs.size, _, I1, rfl, ⟨_, x, y, rfl, I.hok.fresh (Nat.le_refl _), rfl, fun l hl => by rw [I.tuple_inj hl hqx]; exact hx, fun l hl => by rw [I.list_inj hl hqy]; exact hy⟩, ⟨u, u2, z'', ?_, ?_, ?_, ?_⟩, fun c hcm => ?_⟩
    · exact (sb.2 _ D.TIz).trans (hk _ _ ⟨D.TIz, D.TITO, D.TIi1, D.TIi2⟩ Z.its)
    · exact (sb.2 _ D.TOz).trans TO'
    · exact h1'.at fun o q => (sb.2 _ D.i1z).trans q
    · exact h2'.at fun o q => (sb.2 _ D.i2z).trans q
    · have hlt : c < s.heap.objs.size := by
        obtain ⟨o1, e1, _⟩ := Z.one
        obtain ⟨o2, e2, _⟩ := Z.two
        rcases (by simpa using hcm : c = z ∨ c = TI ∨ c = TO ∨ c = i1 ∨ c = i2) with q | q | q | q | q
        · exact q ▸ zl
        · exact q ▸ Heap.lt_size Z.its
        · exact q ▸ Heap.lt_size Z.out
        · exact q ▸ Heap.lt_size e1
        · exact q ▸ Heap.lt_size e2
      rw [upd_ne (Nat.ne_of_lt hlt)]
      exact (hf c hcm).1
  done := by
    intro X hP hw hK hc i pins s σ H E I hf st hg
    subst hP hw hK
    obtain ⟨x0, y0, Z⟩ := st
    obtain ⟨xs, ys, hqx, hqy, stop⟩ := hg
    obtain ⟨its, rv, p, _⟩ := I.tuple hqx
    obtain ⟨its2, rv2, p2, _⟩ := I.list hqy
    have l1 := rv.length
    have l2 := rv2.length
    refine nextM_end (I.ok.hd hc) D Z p p2.isList ?_ fun h' hk => ⟨rfl, I.turnedL (t' := s.toks) (ch := [z, TI, TO, i1, i2]) (fun c o hb q => hk c o ⟨fun q' => hb (by simp [q']), fun q' => hb (by simp [q']), fun q' => hb (by simp [q']), fun q' => hb (by simp [q'])⟩ q) hf⟩
    rcases stop with q | q
    · exact .inl (by simp; omega)
    · exact .inr (by simp; omega)
  self := fun A i s Q E st h => let ⟨_, _, Z⟩ := st; wpAny_pyIter_zip Z.zip h
def iZipX (K : PySem.W.Frag) (ta : TA) : TI := fun σ H R => ta σ H fun vs H1 => ∃ a b xs ys, vs = [.ref a, .ref b] ∧ SqT K H1 a xs ∧ SqL K H1 b ys ∧ R (ItzM K a b) H1
theorem pi_zipM {X : Cx} {e e2 : Expr} {ta : TA} {p pos tpos : Pos} {elts : List Expr} {kk : Nat} (hg : Gl X "zip") (hm : X.mg "zip" = none) (ha : PA X [e, e2] ta)
    (hs : starEach [e, e2] X.env = (false, eval e X.env) :: starEach [e2] X.env := by rfl) (hpl : (backTo pos (starEach [e2] X.env)).any (·.1) = false := by rfl) : PI X (.Tuple elts kk tpos) (.Call (.Name "zip" p) [e, e2] [] pos) (iZipX X.K ta) := by
  refine ⟨fun pins s σ H R I h => Call_ (ld_blt I hg hm PyProof.Rows.boot_zip (PyProof.Rows.callWith_type1 (thn (ha.run pos pins s σ H _ I h) fun us s1 ⟨vs, H1, I1, r1, a, b, xs, ys, ex, hqx, hqy, q⟩ => ?_) hs hpl))⟩
  subst ex
  obtain ⟨u1, u2, rfl, ra, rb⟩ := vals2 r1
  cases ra
  cases rb
  obtain ⟨its, rv, p1, _⟩ := I1.tuple hqx
  obtain ⟨its2, rv2, p2, _⟩ := I1.list hqy
  obtain ⟨o1, ho1, _⟩ := id p1
  refine callM p1 p2.isList fun h' Z hk => wpAny_pyIter_zip Z.zip ?_
  refine ⟨s1.heap.objs.size + 4, [s1.heap.objs.size + 4, s1.heap.objs.size + 2, s1.heap.objs.size + 3, s1.heap.objs.size, s1.heap.objs.size + 1], _, _, H1, rfl, I1.kept (t' := s1.toks) hk, turnM (PySem.W.ktu_apart s1.heap.objs.size a b (Heap.lt_size ho1) p2.lt), ⟨_, _, Z⟩, fun c hcm => ?_, q⟩
  have hle : s1.heap.objs.size ≤ c := by
    rcases (by simpa using hcm : c = s1.heap.objs.size + 4 ∨ c = s1.heap.objs.size + 2 ∨ c = s1.heap.objs.size + 3 ∨ c = s1.heap.objs.size ∨ c = s1.heap.objs.size + 1) with z | z | z | z | z
    · exact z ▸ Nat.le_add_right _ _
    · exact z ▸ Nat.le_add_right _ _
    · exact z ▸ Nat.le_add_right _ _
    · exact z ▸ Nat.le_refl _
    · exact z ▸ Nat.le_add_right _ _
  exact I1.fpOk hle (I1.hok.fresh hle)
def dZipTL (ds : List D) (m : Mem) : R Wk := match ds with
  | [.tup xs, .ref b] => match m[b]? with
    | some (.lst ys) => .ok ⟨zipD xs ys, fun m' => m'[b]? = some (.lst ys)⟩ m
    | _ => .bad
  | _ => .bad
def iZipTL (a : MA) : MI := fun e m => (a e m).bind fun ds m1 => dZipTL ds m1
section
variable {X : Cx} {W : WX} {pos : Pos}
theorem si_zipTL {xa xb : Expr} {a : MA} {pf tpos : Pos} {elts : List Expr} {kk : Nat} (hg : Gl X "zip") (hm : X.mg "zip" = none) (h : SA X W [xa, xb] a) (hs : starEach [xa, xb] X.env = (false, eval xa X.env) :: starEach [xb] X.env := by rfl) (hpl : (backTo pos (starEach [xb] X.env)).any (·.1) = false := by rfl) :
    SI X W (.Tuple elts kk tpos) (.Call (.Name "zip" pf) [xa, xb] [] pos) (iZipTL a) := pi_imp (pi_zipM hg hm h hs hpl) fun σ H R' ⟨e, p, m, k, r, q⟩ => by
  refine ⟨e, p, m, k, r, ?_⟩
  unfold iZipTL at q
  cases h1 : a e m with
  | bad => rw [h1] at q; exact q
  | exc c m1 => rw [h1] at q; exact q
  | ok ds m1 =>
    rw [h1] at q
    intro p1 H1 vs e1 r1
    change GoI _ _ _ (dZipTL ds m1) _ _ at q
    unfold dZipTL at q
    split at q
    · rename_i xs n2
      cases r1 with
      | cons ra rb => cases rb with
        | cons rb rc =>
          cases rc
          cases ra with
          | @tup b ws _ hb rw1 => cases rb with
            | @ref _ c hc =>
              split at q
              · rename_i ys z2
                obtain ⟨zs, hz, rz1⟩ := e1.ok.ob n2 c _ hc z2
                refine ⟨b, c, ws, zs, rfl, hb, .inl (.inl hz), q p1 H1 _ e1 fun i p2 m2 H2 x2 hgd => ?_⟩
                have hb2 := x2.sqT e1.ok hb
                have rw2 := rw1.extW e1.ok x2
                obtain ⟨zs2, hz2, rz2⟩ := x2.ok.ob n2 c _ (x2.at hc) hgd
                have hc2 : SqL X.K H2 c zs2 := .inl (.inl hz2)
                refine ⟨fun d hd => ?_, fun hl => ?_⟩
                · obtain ⟨x, y, hx, hy, rfl⟩ := zipD_get xs ys i d hd
                  obtain ⟨vx, hvx, rvx⟩ := rw2.get hx
                  obtain ⟨vy, hvy, rvy⟩ := rz2.get hy
                  refine ⟨⟨ws, zs2, vx, vy, hb2, hc2, hvx, hvy⟩, ?_⟩
                  rintro v H3 ⟨T, x', y', rfl, hT, rfl, g1, g2⟩
                  have e1' := g1 ws hb2
                  rw [hvx] at e1'
                  cases e1'
                  have e2' := g2 zs2 hc2
                  rw [hvy] at e2'
                  cases e2'
                  have x3 := Ext.fresh (o := .tup [vx, vy]) x2.ok hT
                  exact ⟨x3, .tup (.inl (.inl upd_same)) (.cons (rvx.ext x2.ok x3) (.cons (rvy.ext x2.ok x3) .nil))⟩
                · rw [zipD_len] at hl
                  exact ⟨ws, zs2, hb2, hc2, by rw [← rw2.length, ← rz2.length]; omega⟩
              · exact q.elim
    · exact q.elim
/-- the least of a list of numbers -/
theorem listMin_le (ns : List Int) (x : Int) (h : x ∈ ns) : listMin ns ≤ x := by
  have := listMax_le (ns.map (- ·)) (-x) (List.mem_map.mpr ⟨x, h, rfl⟩)
  unfold listMin
  omega
theorem listMin_mem (ns : List Int) (h : ns ≠ []) : listMin ns ∈ ns := by
  have := listMax_mem (ns.map (- ·)) (by simpa using h)
  obtain ⟨x, hx, e⟩ := List.mem_map.mp this
  unfold listMin
  rw [← e, Int.neg_neg]
  exact hx
def dMin1 : List D → M D := dInts fun ns m => if ns = [] then .bad else .ok (.int (listMin ns)) m
theorem cd_min1 (hc : X.calm = true) : CallR X (.builtin "min") (rdC (gx X) dMin1) := cd_ints (cr_min hc) fun a ns H p m Q hs k q => by
  split at q
  · exact q.elim
  · rename_i hne
    refine ⟨a, ns, rfl, hs, by cases ns with | nil => exact absurd rfl hne | cons => simp, fun x hx hle => ?_⟩
    have e : x = listMin ns := Int.le_antisymm (hle _ (listMin_mem ns hne)) (listMin_le ns x hx)
    rw [e]
    exact q p H _ (Ext.refl k) (.int _)
end
end Mi
namespace Mi
open PySem PySem.Spec PyProof.Rows L2
/-! ### dict of a list of pairs -/
def pairsKV : List D → Option (List (Key × D))
  | [] => some []
  | .tup [k, v] :: xs => match keyD k, pairsKV xs with
    | some kk, some r => some ((kk, v) :: r)
    | _, _ => none
  | _ => none
def dDict (ds : List D) (m : Mem) : R D := match ds with
  | [d] => match lstOf d m with
    | some xs => match pairsKV xs with
      | some kvs => .ok (.ref m.length) (m ++ [.dic (mergeD [] kvs)])
      | none => .bad
    | none => .bad
  | _ => .bad
theorem pairs_rd {g : Gx} {p : List Addr} {H : Hp} : ∀ {xs : List D} {vs : List V} {kvs : List (Key × D)}, RDs g p H xs vs → pairsKV xs = some kvs → ∃ (ps : List Addr) (ws : List (Key × V)), vs = ps.map V.ref ∧ Paired (fun q kv => SqT g.K H q [kV kv.1, kv.2]) ps ws ∧ ws.map (·.1) = kvs.map (·.1) ∧ RDs g p H (kvs.map (·.2)) (ws.map (·.2))
  | [], _, kvs, .nil, h => by
    simp only [pairsKV] at h
    cases h
    exact ⟨[], [], rfl, .nil, rfl, .nil⟩
  | x :: xs, _, kvs, .cons (v := v) (vs := vs) r1 r2, h => by
    unfold pairsKV at h
    split at h
    · rename_i heq
      cases heq
    · rename_i k w xs' heq
      cases heq
      split at h
      · rename_i kk r hk hr
        cases h
        obtain ⟨ps, ws, e1, e2, e3, e4⟩ := pairs_rd r2 hr
        cases r1 with
        | @tup a us ds hs rd =>
          cases rd with
          | cons ra rb =>
            cases rb with
            | cons rb rc =>
              cases rc
              have ek := keyD_of ra hk
              subst ek
              exact ⟨a :: ps, (kk, _) :: ws, by rw [e1]; rfl, .cons hs e2, by simp [e3], .cons rb e4⟩
      · cases h
    · cases h
section
variable {X : Cx}
theorem cd_dictP (hc : X.calm = true) : CallR X (.type "dict") (rdC (gx X) dDict) := by
  intro pins s σ H xs us Q I r hq
  obtain ⟨p, m, ds, k, rd, q⟩ := hq
  cases rd with
  | nil => exact q.elim
  | @cons d v ds vs r1 r2 =>
    cases r2 with
    | cons _ _ => exact q.elim
    | nil =>
      simp only [dDict] at q
      cases h1 : lstOf d m with
      | none => rw [h1] at q; exact q.elim
      | some ys =>
        rw [h1] at q
        simp only at q
        cases h2 : pairsKV ys with
        | none => rw [h2] at q; exact q.elim
        | some kvs =>
          rw [h2] at q
          obtain ⟨a, ws, rfl, hs, rv⟩ := lst_of k r1 h1
          obtain ⟨ps, ks, e1, e2, e3, e4⟩ := pairs_rd rv h2
          subst e1
          refine call_dictP hc pins s σ H _ us Q I r ⟨a, ps, ks, rfl, hs, e2, fun b hb => ?_⟩
          refine q (p ++ [b]) _ (.ref b) (Ext.new (u := .dK (mergeK [] ks)) (o := .dic (mergeD [] kvs)) k hb fun H' fr e' go => ?_) (.ref ?_)
          · obtain ⟨g1, g2⟩ := merge_of (kvs := []) (vs := []) e3 (go _ _ e4) rfl .nil
            exact ⟨_, e', g1, g2⟩
          · rw [← k.len, List.getElem?_append_right (Nat.le_refl _)]
            simp
end
end Mi
namespace Mi
open PySem PySem.Spec PyProof.Rows L2
/-! ### repr of whatever is made of scalars, tuples and dicts -/
def keyP : Key → PyData
  | .inl i => .int i
  | .inr x => .str x
def toPyX (m : Mem) : Nat → D → Option PyData
  | 0, _ => none
  | n + 1, d => match d with
    | .non => some .none
    | .bl b => some (.bool b)
    | .int i => some (.int i)
    | .str x => some (.str x)
    | .tup ds => ((ds.mapM (toPyX m n)).map PyData.tuple)
    | .ref a => match m[a]? with
      | some (.dic kvs) => ((kvs.mapM fun kv => (toPyX m n kv.2).map fun y => (keyP kv.1, y)).map PyData.dict)
      | _ => none
    | _ => none
theorem kv_split {f : D → Option PyData} : ∀ {kvs : List (Key × D)} {kys : List (PyData × PyData)}, (kvs.mapM fun kv => (f kv.2).map fun y => (keyP kv.1, y)) = some kys → kys.map (·.1) = kvs.map (fun kv => keyP kv.1) ∧ (kvs.map (·.2)).mapM f = some (kys.map (·.2))
  | [], kys, h => by
    simp at h
    subst h
    exact ⟨rfl, rfl⟩
  | kv :: kvs, kys, h => by
    rw [List.mapM_cons] at h
    cases h1 : f kv.2 with
    | none => rw [h1] at h; simp at h
    | some y =>
      rw [h1] at h
      simp only [Option.map_some] at h
      cases h2 : kvs.mapM fun kv => (f kv.2).map fun y => (keyP kv.1, y) with
      | none => rw [h2] at h; simp at h
      | some r =>
        rw [h2] at h
        simp at h
        subst h
        obtain ⟨e1, e2⟩ := kv_split h2
        refine ⟨by simp [e1], ?_⟩
        rw [List.map_cons, List.mapM_cons, h1, e2]
        rfl
section
variable {X : Cx} {pins : List (Addr × Obj)} {σ : L2.St} {p : List Addr} {m : Mem} {H : Hp} {s : Shared}
theorem keys_read {P : Program} {w : World} {h : Heap} : ∀ {es : List DictEntry} {ws : List (Key × Value)}, Pairs (mixKind P w) es ws → ReadsAll h (es.map (·.key)) (ws.map fun kv => keyP kv.1) []
  | _, _, .nil => .nil
  | _, _, .cons (e := e) (kv := kv) h1 h2 h3 => by
    have r := keys_read (h := h) h3
    have e1 : Reads h e.key (keyP kv.1) [] := by
      rcases keyIs_shape h1 with ⟨i, t, e2, e3⟩ | ⟨x, t, e2, e3⟩
      · rw [e2, e3]; exact Reads.int i t
      · rw [e2, e3]; exact Reads.str x t
    exact ReadsAll.cons (as := []) (bs := []) e1 r
theorem vals_of_pairs {P : Program} {w : World} : ∀ {es : List DictEntry} {ws : List (Key × Value)}, Pairs (mixKind P w) es ws → es.map (·.val) = ws.map (·.2)
  | _, _, .nil => rfl
  | _, _, .cons h1 h2 h3 => by rw [List.map_cons, List.map_cons, h2, vals_of_pairs h3]
theorem vals_of_kv : ∀ {vs : List (Key × V)} {ws : List (Key × Value)}, KV vs ws → vs.map (·.1) = ws.map (·.1) ∧ Vals (vs.map (·.2)) (ws.map (·.2))
  | _, _, .nil => ⟨rfl, .nil⟩
  | _, _, .cons h t => by
    obtain ⟨a, b⟩ := vals_of_kv t
    exact ⟨by rw [List.map_cons, List.map_cons, h.1, a], .cons h.2 b⟩
theorem reads_x (I : Inv X pins σ H s) (k : Ok (gx X) p m H) : ∀ (n : Nat) (d : D) (v : V) (u : Value) (y : PyData), RD (gx X) p H d v → toPyX m n d = some y → RelV v u → ∃ as, Reads s.heap u y as ∧ sysModules ∉ as
  | 0, _, _, _, _, _, h, _ => by cases h
  | n + 1, d, v, u, y, r, h, rv => by
    have all : ∀ (ds : List D) (vs : List V) (us : List Value) (ys : List PyData), RDs (gx X) p H ds vs → ds.mapM (toPyX m n) = some ys → Vals vs us → ∃ as, ReadsAll s.heap us ys as ∧ sysModules ∉ as := by
      intro ds
      induction ds with
      | nil =>
        intro vs us ys r h rv
        cases r
        cases rv
        simp at h
        subst h
        exact ⟨[], .nil, by simp⟩
      | cons d ds ih =>
        intro vs us ys r h rv
        cases r with
        | cons r1 r2 =>
          cases rv with
          | cons v1 v2 =>
            rw [List.mapM_cons] at h
            cases h1 : toPyX m n d with
            | none => rw [h1] at h; simp at h
            | some y1 =>
              rw [h1] at h
              cases h2 : ds.mapM (toPyX m n) with
              | none => rw [h2] at h; simp at h
              | some yr =>
                rw [h2] at h
                simp at h
                subst h
                obtain ⟨as, q1, q2⟩ := reads_x I k n d _ _ y1 r1 h1 v1
                obtain ⟨bs, q3, q4⟩ := ih _ _ yr r2 h2 v2
                exact ⟨as ++ bs, .cons q1 q3, by simp [q2, q4]⟩
    cases r with
    | non => cases h; cases rv; exact ⟨[], Reads.none, by simp⟩
    | bl b => cases h; cases rv; exact ⟨[], Reads.bool b, by simp⟩
    | int i => cases h; obtain ⟨t, rfl⟩ := rv; exact ⟨[], Reads.int i t, by simp⟩
    | str x => cases h; obtain ⟨t, rfl⟩ := rv; exact ⟨[], Reads.str x t, by simp⟩
    | @tup a xs ds hs rd =>
      cases rv
      simp only [toPyX] at h
      cases h1 : ds.mapM (toPyX m n) with
      | none => rw [h1] at h; cases h
      | some ys =>
        rw [h1] at h
        cases h
        obtain ⟨its, rv, ⟨o, ho, hc, n', hd⟩, _⟩ := I.tuple hs
        obtain ⟨as, q1, q2⟩ := all ds xs its ys rd h1 rv
        exact ⟨as, Reads.tuple ho hc hd q1, q2⟩
    | @ref j a hj =>
      cases rv
      simp only [toPyX] at h
      cases h1 : m[j]? with
      | none => rw [h1] at h; cases h
      | some o =>
        rw [h1] at h
        cases o with
        | lst _ => cases h
        | fdic _ => cases h
        | ins _ _ => cases h
        | dT _ => cases h
        | dic kvs =>
          simp only at h
          cases h2 : kvs.mapM fun kv => (toPyX m n kv.2).map fun y => (keyP kv.1, y) with
          | none => rw [h2] at h; cases h
          | some kys =>
            rw [h2] at h
            cases h
            obtain ⟨vs, hv, e1, rd⟩ := k.ob j a _ hj h1
            obtain ⟨_, hsm, ws, kv, o, es, ep, ho, hx, hd, _, hp, _⟩ := dk_of I.hok hv
            obtain ⟨s1, s2⟩ := kv_split h2
            obtain ⟨w1, w2⟩ := vals_of_kv kv
            obtain ⟨bs, q1, q2⟩ := all _ _ _ _ rd s2 w2
            have hk := keys_read (h := s.heap) hp
            have ek : ws.map (fun kv => keyP kv.1) = kys.map (·.1) := by
              rw [s1]
              have e3 : (ws.map (·.1)).map keyP = (kvs.map (·.1)).map keyP := by rw [← w1, e1]
              simpa [List.map_map, Function.comp_def] using e3
            rw [ek] at hk
            have hvv : ReadsAll s.heap (es.toList.map (·.val)) (kys.map (·.2)) bs := by
              rw [vals_of_pairs hp]
              exact q1
            refine ⟨a :: [] ++ bs, Reads.dict ho hx.1 hd hk hvv, ?_⟩
            have : sysModules ≠ a := fun z => by
              rw [← z] at hsm
              simp at hsm
            simp [this, q2]
    | fn _ => cases h
    | fro _ _ => cases h
    | hot _ => cases h
/-- repr of anything -/
def dReprX (ds : List D) (m : Mem) : R D := match ds with
  | [.non] => .ok (.str "None") m
  | [.bl b] => .ok (.str (if b = true then ("True" : Str) else ("False" : Str))) m
  | [.int i] => if i.natAbs.log2 < 1920 then .ok (.str (toString i)) m else .bad
  | [.str x] => if (reprText x).length ≤ 1000000 then .ok (.str (reprText x)) m else .bad
  | [d] => match dRepr [d] m with
    | .ok v m' => .ok v m'
    | _ => match toPyX m 12 d with
      | some y => if y.showable = true ∧ y.depth ≤ 60 ∧ y.shown.length ≤ 1000000 then .ok (.str y.shown) m else .bad
      | none => .bad
  | _ => .bad
theorem cd_reprX (hG : X.A.guards = some []) (hu : X.A.units + 64 < cLine) : CallR X (.builtin "repr") (rdC (gx X) dReprX) := by
  intro pins s σ H xs us Q I r hq
  obtain ⟨p, m, ds, k, rd, q⟩ := hq
  have old : GoV (gx X) p H (dRepr ds m) Q (fun _ _ _ => False) → wpAny (model X.prog X.w) X.A (call (.builtin "repr") us) (EP X pins σ Q) X.xe s := fun g => cd_repr hG hu pins s σ H xs us Q I r ⟨p, m, ds, k, rd, g⟩
  cases rd with
  | nil => exact q.elim
  | @cons d v ds vs r1 r2 =>
    cases r2 with
    | cons _ _ => cases d <;> exact q.elim
    | nil =>
      have gen : ∀ d v, RD (gx X) p H d v → us = [.ref (match v with | .ref a => a | _ => 0)] → (∃ a, v = .ref a) → GoV (gx X) p H (match dRepr [d] m with
          | .ok v m' => .ok v m'
          | _ => match toPyX m 12 d with
            | some y => if y.showable = true ∧ y.depth ≤ 60 ∧ y.shown.length ≤ 1000000 then .ok (.str y.shown) m else .bad
            | none => .bad) Q (fun _ _ _ => False) → GoV (gx X) p H (dRepr [d] m) Q (fun _ _ _ => False) ∨ wpAny (model X.prog X.w) X.A (call (.builtin "repr") us) (EP X pins σ Q) X.xe s := by
        intro d v r1 hus ⟨a, ev⟩ q
        subst ev
        cases h0 : dRepr [d] m with
        | ok v m' => rw [h0] at q; exact .inl q
        | _ =>
          rw [h0] at q
          right
          cases h2 : toPyX m 12 d with
          | none => rw [h2] at q; exact q.elim
          | some y =>
            rw [h2] at q
            change GoV _ _ _ (if y.showable = true ∧ y.depth ≤ 60 ∧ y.shown.length ≤ 1000000 then _ else _) _ _ at q
            split at q
            · rename_i hc
              obtain ⟨as, rr, hn⟩ := reads_x I k 12 d _ (.ref a) y r1 h2 rfl
              rw [hus]
              refine PySem.repr_of_reads' rr hc.1 (fun _ => hn) hG (by have := hc.2.1; omega) (fun _ _ z => z) (fun h' u tk hk => ?_) (by rw [sizeLine_eq]; have := hc.2.2; omega)
              exact ⟨.str y.shown, H, I.kept (t' := tk) hk, ⟨_, rfl⟩, q p H _ (Ext.refl k) (.str _)⟩
            · exact q.elim
      cases r with
      | cons ra rb =>
        cases rb
        cases r1 with
        | non =>
          cases ra
          exact PySem.P.repr_of_none ⟨.str "None", H, I.tok _, ⟨_, rfl⟩, q p H _ (Ext.refl k) (.str _)⟩
        | bl b =>
          cases ra
          exact PySem.P.repr_of_bool ⟨.str (if b = true then ("True" : Str) else ("False" : Str)), H, I.tok _, ⟨_, rfl⟩, q p H _ (Ext.refl k) (.str _)⟩
        | int i =>
          obtain ⟨t, rfl⟩ := ra
          change GoV _ _ _ (if i.natAbs.log2 < 1920 then _ else _) _ _ at q
          split at q
          · rename_i hi
            exact PySem.P.repr_of_int hi ⟨.str (toString i), H, I.tok _, ⟨_, rfl⟩, q p H _ (Ext.refl k) (.str _)⟩
          · exact q.elim
        | str x =>
          obtain ⟨t, rfl⟩ := ra
          change GoV _ _ _ (if (reprText x).length ≤ 1000000 then _ else _) _ _ at q
          split at q
          · rename_i hi
            exact PySem.P.repr_of_str ⟨.str (reprText x), H, I.tok _, ⟨_, rfl⟩, q p H _ (Ext.refl k) (.str _)⟩ (by rw [sizeLine_eq]; omega)
          · exact q.elim
        | @tup a xs ds hs rd =>
          cases ra
          rcases gen _ _ (.tup hs rd) rfl ⟨a, rfl⟩ q with z | z
          · exact old z
          · exact z
        | @ref j a hj =>
          cases ra
          rcases gen _ _ (.ref hj) rfl ⟨a, rfl⟩ q with z | z
          · exact old z
          · exact z
        | hot a =>
          cases ra
          rcases gen _ _ (.hot a) rfl ⟨a, rfl⟩ q with z | z
          · exact old z
          · exact z
        | @fn x f hf =>
          cases ra
          rcases gen _ _ (.fn hf) rfl ⟨f, rfl⟩ q with z | z
          · exact old z
          · exact z
        | @fro a xs ds hs rd =>
          cases ra
          rcases gen _ _ (.fro hs rd) rfl ⟨a, rfl⟩ q with z | z
          · exact old z
          · exact z
end
end Mi
namespace Mi
open PySem PySem.Spec PyProof.Rows L2 Classical
section
variable {X : Cx} {W : WX} {pos : Pos}
/-! ### texts with things in them -/
def dFmt (d : D) (m : Mem) : R D := match d with
  | .str y => if y.length ≤ 1000000 then .ok (.str y) m else .bad
  | .int i => if i.natAbs.log2 < 1920 then .ok (.str (toString i)) m else .bad
  | _ => .bad
theorem so_fmt {x : Expr} {a : ME} (h : SE X W x a) : SE X W (.FormattedValue x (-1) none pos) (mUn dFmt a) := pe_imp (pe_fmt h) fun σ H Q ⟨e, p, m, k, r, q⟩ => by
  refine ⟨e, p, m, k, r, ?_⟩
  unfold mUn at q
  cases h1 : a e m with
  | bad => rw [h1] at q; exact q
  | exc c m1 => rw [h1] at q; exact q
  | ok d m1 =>
    rw [h1] at q
    intro p1 H1 v e1 r1
    have q1 := GoV.step k e1 q
    change GoV _ _ _ (dFmt d m1).calm _ _ at q1
    cases r1 with
    | str y =>
      simp only [dFmt] at q1
      split at q1
      · rename_i hl
        exact .inl ⟨y, rfl, szle hl, q1 p1 H1 _ (Ext.refl e1.ok) (.str _)⟩
      · exact q1.elim
    | int i =>
      simp only [dFmt] at q1
      split at q1
      · rename_i hl
        exact .inr ⟨i, rfl, hl, q1 p1 H1 _ (Ext.refl e1.ok) (.str _)⟩
      · exact q1.elim
    | _ => exact q1.elim
def mJs : List ME → Str → ME
  | [], acc => fun _ m => .ok (.str acc) m
  | a :: as, acc => fun e m => (a e m).bind fun d m1 => match d with
    | .str y => if (acc ++ y).length ≤ 1000000 then mJs as (acc ++ y) e m1 else .bad
    | _ => .bad
theorem js_in : ∀ {as : List ME} {acc : Str} {e : En} {p : List Addr} {m : Mem} {H : Hp} {σ : L2.St} {Q : VK}, Ok (gx X) p m H → RDo (gx X) p H e σ → GoV (gx X) p H (mJs as acc e m) Q (WE W σ) → tJs (as.map fun a => rdE (gx X) W a) acc σ H fun out H1 => Q (.str out) H1
  | [], acc, e, p, m, H, σ, Q, k, r, q => q p H _ (Ext.refl k) (.str _)
  | a :: as, acc, e, p, m, H, σ, Q, k, r, q => by
    refine ⟨e, p, m, k, r, ?_⟩
    simp only [mJs] at q
    cases h1 : a e m with
    | bad => rw [h1] at q; exact q
    | exc c m1 => rw [h1] at q; exact q
    | ok d m1 =>
      rw [h1] at q
      intro p1 H1 v e1 r1
      have q1 := GoV.step k e1 q
      simp only [R.bind] at q1
      cases r1 with
      | str y =>
        dsimp only at q1
        split at q1
        · rename_i hl
          exact ⟨y, rfl, szle hl, js_in e1.ok (r.ext k e1) q1⟩
        · exact q1.elim
      | _ => exact q1.elim
inductive SJ (X : Cx) (W : WX) : List Expr → List ME → Prop where
  | nil : SJ X W [] []
  | cons {x : Expr} {a : ME} {xs : List Expr} {as : List ME} (h : SE X W x a) (r : SJ X W xs as) : SJ X W (x :: xs) (a :: as)
theorem SJ.pj {xs : List Expr} {as : List ME} (h : SJ X W xs as) : PJ X xs (as.map fun a => rdE (gx X) W a) := by
  induction h with
  | nil => exact .nil
  | cons h r ih => exact .cons h ih
theorem so_fs {v1 v2 : Expr} {rest : List Expr} {as : List ME} (h : SJ X W (v1 :: v2 :: rest) as) : SE X W (.JoinedStr (v1 :: v2 :: rest) pos) (mJs as Str.empty) := pe_imp (pe_joined h.pj) fun σ H Q ⟨e, p, m, k, r, q⟩ => js_in k r q
theorem so_fs1 {x : Expr} {a : ME} (h : SE X W x a) : SE X W (.JoinedStr [x] pos) a := pe_joined1 h

/-! ### raise -/
theorem pmk_arg {C : Addr} {bmB : List Value} {B newId initId : String} {x : Str} {xa : Expr} {ta : TE} {p pos : Pos} (F : ExcBaseFacts B newId initId bmB) (q : PySem.W.excIn X.K C bmB newId = true) (gC : X.mg x = some (.ref C)) (kC : PySem.W.keepIn X.K (.ref C) = true) (r : Raises X (.ref C)) (hg : Gl X x) (ha : PE X xa ta)
    (hs : starEach [xa] X.env = (false, eval xa X.env) :: starEach [] X.env := by rfl) (hdb : (x == ("__debug__" : Str)) = false := by decide) : PMk X (.Call (.Name x p) [xa] [] pos) (fun σ H Q => ta σ H fun v' H1 => ∃ v, [v'] = [v] ∧ Q (.ref C) none H1) := by
  intro pins s σ H Q I h
  refine wpAny_Call_Name_kw (ld_glob I hg gC ?_ hdb)
  have hp : PA X [xa] (tCons ta tNil) := pa_cons ha pa_nil hs
  refine PySem.W.callWith_K (h₀ := X.base) (he := hs) I.ok.mod.kin kC (thn (hp.run pos pins s σ H (fun vs H1 => ∃ v, vs = [v] ∧ Q (.ref C) none H1) I h) fun us s1 hh => ?_)
  obtain ⟨vs, H1, I1, r1, v, ev, q1⟩ := hh
  subst ev
  refine ⟨I1.kIn, ?_⟩
  cases r1 with
  | cons ru rn =>
    rename_i u us'
    cases rn
    show wpAny _ _ (call (.ref C) [u]) _ _ _
    obtain ⟨bm, N, nm, qn, bs, hdct, sn, sub, ab, col, dd, k0, k1, k2, k3, k5, mN, hC, hN, hni, T⟩ := exc_obj I1.kIn q
    refine wpAny_call_exc_subT F T hC hN hni (fun h' e hm => ?_) (by show 1 ≤ sizeLine; rw [sizeLine_eq]; omega)
    exact mk_of I1 hm r q1 (I1.hok.gone hm.new)
def sRaise (c : Str) (a : ME) : MS := fun e m => (a e m).go e fun _ m1 => .exc c e m1
/-- what is known of an own class of errors -/
structure ExT (K : PySem.W.Frag) (mg : Str → Option Value) (x : Str) (C : Addr) : Prop where
  m : mg x = some (.ref C)
  x : PySem.W.excIn K C PySem.HandSPX.veTail "ValueError.__new__" = true
  k : PySem.W.keepIn K (.ref C) = true
  b : PySem.W.subIn K (.ref C) (.type "BaseException") = some true
  t : PySem.W.typeIn K (.ref C) = some (.type "type")
theorem ss_raise {x : Str} {C : Addr} {xa : Expr} {a : ME} {p p2 : Pos} (T : ExT X.K X.mg x C) (hc : X.calm = true) (tk : Takes X W) (hg : Gl X x) (ha : SE X W xa a)
    (hs : starEach [xa] X.env = (false, eval xa X.env) :: starEach [] X.env := by rfl) (hdb : (x == ("__debug__" : Str)) = false := by decide) : SS X W (.Raise (some (.Call (.Name x p) [xa] [] p2)) none pos) (sRaise x a) := by
  refine ps_imp (ps_raise hc tk (pmk_arg PySem.F.excBase_ValueError T.x T.m T.k (raises_own T.b T.t) hg ha hs hdb)) fun D' σ H h => ?_
  obtain ⟨e, p, m, k, r, q⟩ := h
  refine ⟨e, p, m, k, r, GoS.val k r q fun d m1 p1 H1 v _ x1 y q1 => ⟨v, rfl, ?_⟩⟩
  exact q1 p1 H1 σ C (Ext.refl x1.ok) (r.ext k x1) T.m

/-! ### count and index of truths -/
def dCount (d : D) (ds : List D) (m : Mem) : R D := match d, ds with
  | .ref n, [.bl b] => match m[n]? with
    | some (.lst xs) => match blsOf xs with
      | some bs => .ok (.int (bs.count b : Nat)) m
      | none => .bad
    | _ => .bad
  | _, _ => .bad
def dIndex (d : D) (ds : List D) (m : Mem) : R D := match d, ds with
  | .ref n, [.bl b] => match m[n]? with
    | some (.lst xs) => match blsOf xs with
      | some bs => match bs.idxOf? b with
        | some j => .ok (.int (j : Nat)) m
        | none => .bad
      | none => .bad
    | _ => .bad
  | _, _ => .bad
theorem flat_bls (bs : List Bool) : (bs.map V.bl).all flatV = true := by
  rw [List.all_map, List.all_eq_true]
  intro x _
  rfl
theorem count_eqU {b : Bool} : ∀ {bs : List Bool} {us : List Value}, Vals (bs.map V.bl) us → us.countP (eqU (.bl b)) = bs.count b
  | [], _, .nil => rfl
  | c :: bs, _, .cons r t => by
    rw [List.countP_cons, List.count_cons, count_eqU t, eqU_of r rfl]
    rfl
theorem td_count : MtR X "list.count" (rdM (gx X) dCount) := by
  intro pins s σ H x xs v us Q I rx rxs hq
  obtain ⟨p, m, d, ds, k, rd, rds, q⟩ := hq
  unfold dCount at q
  split at q
  · rename_i n b
    cases rd with
    | @ref _ a h1 =>
      split at q
      · rename_i ys e1
        split at q
        · rename_i bs e2
          have e3 := blsOf_eq e2
          subst e3
          obtain ⟨vs, hv, rv⟩ := k.ob n a _ h1 e1
          have e4 := rv.bls_eq
          subst e4
          cases rds with
          | cons r1 r2 =>
            cases r2
            cases r1
            cases rx
            cases rxs with
            | cons ry rt =>
              rename_i uy ut
              cases rt
              obtain ⟨its, rv', ⟨⟨cls, dd, data, sl⟩, n', ho, hc, hdn, hd⟩, hlen⟩ := I.list (.inl (.inl hv) : SqL X.K H a _)
              simp only at hc hd
              subst hc hd
              refine call_meets PySem.F.slot_list_count ⟨_, ho, rfl⟩ PySem.F.entry_list_count (PySem.F.args_list_count_2 _ _)
                (SeqAt.list_countAt a its.toArray n' dd sl uy (eqU (.bl b))) ⟨ho, fun u' hu' => mem_eqAt ry rfl rv' (flat_bls bs) u' (by simpa using hu'), ?_⟩
              have ec : its.toArray.toList.countP (eqU (.bl b)) = bs.count b := count_eqU rv'
              refine ⟨.int (bs.count b : Nat), H, I.tok _, ⟨s.toks, ?_⟩, q p H _ (Ext.refl k) (.int _)⟩
              show Value.int ((its.toArray.toList.countP (eqU (.bl b)) : Nat) : Int) s.toks = Value.int ((bs.count b : Nat) : Int) s.toks
              rw [ec]
        · exact q.elim
      · exact q.elim
  · exact q.elim
theorem idx_first : ∀ {bs : List Bool} {b : Bool} {j : Nat}, bs.idxOf? b = some j → bs[j]? = some b ∧ ∀ i c, i < j → bs[i]? = some c → c ≠ b
  | [], b, j, h => by cases h
  | c :: bs, b, j, h => by
    rw [List.idxOf?_cons] at h
    by_cases e : c = b
    · subst e
      simp at h
      subst h
      exact ⟨rfl, fun i c h => by omega⟩
    · have e' : (c == b) = false := by simpa using e
      rw [e'] at h
      simp only [Bool.false_eq_true, if_false, Option.map_eq_some_iff] at h
      obtain ⟨j', h1, rfl⟩ := h
      obtain ⟨h2, h3⟩ := idx_first h1
      refine ⟨by simpa using h2, fun i c' hi hc => ?_⟩
      cases i with
      | zero => simp at hc; subst hc; exact e
      | succ i => exact h3 i c' (by omega) (by simpa using hc)
theorem td_index : MtR X "list.index" (rdM (gx X) dIndex) := by
  intro pins s σ H x xs v us Q I rx rxs hq
  obtain ⟨p, m, d, ds, k, rd, rds, q⟩ := hq
  unfold dIndex at q
  split at q
  · rename_i n b
    cases rd with
    | @ref _ a h1 =>
      split at q
      · rename_i ys e1
        split at q
        · rename_i bs e2
          have e3 := blsOf_eq e2
          subst e3
          obtain ⟨vs, hv, rv⟩ := k.ob n a _ h1 e1
          have e4 := rv.bls_eq
          subst e4
          split at q
          · rename_i j e5
            obtain ⟨h2, h3⟩ := idx_first e5
            cases rds with
            | cons r1 r2 =>
              cases r2
              cases r1
              refine mt_index pins s σ H _ _ v us Q I rx rxs ⟨a, bs.map V.bl, .bl b, j, .bl b, rfl, rfl, .inl (.inl hv), rfl, flat_bls bs, by rw [List.getElem?_map, h2]; rfl, by simp [eqV], fun i z hi hz => ?_, q p H _ (Ext.refl k) (.int _)⟩
              rw [List.getElem?_map, Option.map_eq_some_iff] at hz
              obtain ⟨c, hc, rfl⟩ := hz
              have := h3 i c hi hc
              simp only [eqV]
              simpa using this
          · exact q.elim
        · exact q.elim
      · exact q.elim
  · exact q.elim

/-! ### try: body, except x as n: suite -/
def RS.unset (i : Nat) : RS → RS
  | .nx e m => .nx (e.set i none) m
  | .bk e m => .bk (e.set i none) m
  | .ct e m => .ct (e.set i none) m
  | .rt d m => .rt d m
  | _ => .bad
noncomputable def tryR (F : Addr → RS) : RS := if h : ∃ r, ∀ a, F a = r then Classical.choose h else .bad
theorem tryR_eq {F : Addr → RS} {r : RS} (h : ∀ a, F a = r) : tryR F = r := by
  have hx : ∃ r, ∀ a, F a = r := ⟨r, h⟩
  unfold tryR
  rw [dif_pos hx]
  have := Classical.choose_spec hx (0 : Nat)
  rw [← this]
  exact h _
theorem tryR_at (F : Addr → RS) (a : Addr) : tryR F = .bad ∨ F a = tryR F := by
  unfold tryR
  split
  · rename_i h
    exact .inr (Classical.choose_spec h a)
  · exact .inl rfl
noncomputable def sTry (i : Nat) (cs : List Str) (b : MS) (h : Addr → Str → MS) : MS := fun e m => match b e m with
  | .exc c e' m' => if c ∈ cs then tryR fun a => (h a c (e'.set i (some (.hot a))) m').unset i else .bad
  | r => r
theorem RDo.unset {g : Gx} {p : List Addr} {H : Hp} {e : En} {σ : L2.St} (r : RDo g p H e σ) (i : Nat) : RDo g p H (e.set i none) (σ.set i none) := by
  refine ⟨by simp [r.len], fun j d' hj => ?_⟩
  by_cases hij : i = j
  · subst hij
    by_cases hl : i < e.length
    · rw [List.getElem?_set_self hl] at hj
      cases hj
    · rw [List.getElem?_eq_none (by simp; omega)] at hj
      cases hj
  · rw [List.getElem?_set_ne hij] at hj ⊢
    exact r.at_ j d' hj
theorem ss_try {x n : Str} {se : Addr} {i : Nat} {cs : List Str} {body suite : List Stmt} {b₀ : Stmt} {np pos' : Pos} {b : MS} {h : Addr → Str → MS}
    (hs : X.stack = X.env :: X.outer) (hf : X.env.frame = some X.env.locals) (hN : X.N.Nodup) (hi : X.N[i]? = some n) (hln : X.env.kindOf n = some .local) (hc : Names X x (.ref se)) (tk : Takes X W)
    (hx : ∀ c ∈ cs, ∀ C, X.mg c = some (.ref C) → PySem.W.exmOne X.K (.ref C) (.ref se) = some true)
    (hb : ∀ (W' : WX) (pn : List (Addr × Obj)) (xe : Value → Shared → Prop), Takes (X.tr pn xe) W' → PassesOwn (model X.prog X.w) X.A X.env xe → SB (X.tr pn xe) W' body b)
    (hsu : ∀ (a : Addr) (oe : Obj) (pn : List (Addr × Obj)) (c : Str) (C : Addr), c ∈ cs → X.mg c = some (.ref C) → Zc (.ref C) none oe → (∃ vs, oe.data = .fields vs) → SB (X.suite a ((a, oe) :: pn)) W0 (b₀ :: suite) (h a c)) :
    SS X W (.Try body [.ExceptHandler (some (.Name x np)) (some n) (b₀ :: suite) pos'] [] [] pos) (sTry i cs b h) := by
  refine ps_imp (ps_try_as (tb := fun W' => rdS (gx X) W' b) (ts := fun a cls d D' σ H => ∃ c C, c ∈ cs ∧ X.mg c = some (.ref C) ∧ cls = .ref C ∧ d = none ∧ rdS (gx X) W0 (h a c) D' σ H) hs hf hN hi hln hc tk hb ?_) fun D' σ H hh => ?_
  · intro a oe cls d pn hz hd
    refine ⟨fun pins s σ H D' I q => ?_⟩
    obtain ⟨c, C, h1, h2, rfl, rfl, q⟩ := q
    exact (hsu a oe pn c C h1 h2 hz hd).run pins s σ H D' I q
  · obtain ⟨e, p, m, k, r, q⟩ := hh
    refine ⟨e, p, m, k, r, ?_⟩
    unfold sTry at q
    cases h1 : b e m with
    | nx e1 m1 => rw [h1] at q; exact q
    | rt d m1 => rw [h1] at q; exact q
    | bk d m1 => rw [h1] at q; exact q
    | ct d m1 => rw [h1] at q; exact q
    | bad => rw [h1] at q; exact q
    | exc c e1 m1 =>
      rw [h1] at q
      dsimp only at q
      split at q
      · rename_i hcs
        intro p1 H1 σ1 C x1 r1 hC
        have q1 := GoS.step k x1 q
        refine ⟨true, hx c hcs C hC, fun _ a _ => ?_, fun z => nomatch z⟩
        refine ⟨c, C, hcs, hC, rfl, rfl, e1.set i (some (.hot a)), p1, m1, x1.ok, r1.set i (.hot a), ?_⟩
        rcases tryR_at (fun a => (h a c (e1.set i (some (.hot a))) m1).unset i) a with z | z
        · rw [z] at q1
          exact q1.elim
        · rw [← z] at q1
          cases h2 : h a c (e1.set i (some (.hot a))) m1 with
          | nx e2 m2 => rw [h2] at q1; exact fun p2 H2 σ2 x2 r2 => q1 p2 H2 _ x2 (r2.unset i)
          | bk e2 m2 => rw [h2] at q1; exact fun p2 H2 σ2 x2 r2 => q1 p2 H2 _ x2 (r2.unset i)
          | ct e2 m2 => rw [h2] at q1; exact fun p2 H2 σ2 x2 r2 => q1 p2 H2 _ x2 (r2.unset i)
          | rt d m2 => rw [h2] at q1; exact q1
          | exc c2 e2 m2 => rw [h2] at q1; exact q1.elim
          | bad => rw [h2] at q1; exact q1.elim
      · exact q.elim

/-! ### isinstance of the error in hand -/
def mIsE (i : Nat) (a : Addr) (b : Bool) : ME := fun e m => match e[i]? with
  | some (some (.hot a')) => if a' = a then .ok (.bl b) m else .bad
  | _ => .bad
theorem so_isE {a C : Addr} {oe : Obj} {pn : List (Addr × Obj)} {i : Nat} {n y : Str} {c : V} {cv : Value} {b : Bool} {pf p1 p2 : Pos} (EC : ExcC X.K C) (hz : Zc (.ref C) none oe) (hf : ∃ vs, oe.data = .fields vs) (hv : PE (X.suite a ((a, oe) :: pn)) (.Name n p1) (tVar i))
    (hgi : Gl (X.suite a ((a, oe) :: pn)) "isinstance") (hmi : X.mg "isinstance" = none) (hy : PE (X.suite a ((a, oe) :: pn)) (.Name y p2) (tC c)) (hcv : ∀ u, RelV c u → u = cv) (hk : PySem.W.kitOne X.K (.ref C) cv = some b) :
    SE (X.suite a ((a, oe) :: pn)) W (.Call (.Name "isinstance" pf) [.Name n p1, .Name y p2] [] pos) (mIsE i a b) := by
  refine pe_imp (pe_callB (call_isE EC hz hf) hgi hmi (by decide +kernel) (pa_cons hv (pa_cons hy pa_nil))) fun σ H Q ⟨e, p, m, k, r, q⟩ => ?_
  unfold mIsE at q
  split at q
  · rename_i a' he
    split at q
    · rename_i ea
      subst ea
      obtain ⟨v, h1, h2⟩ := r.at_ i _ he
      cases h2
      exact ⟨_, h1, c, cv, b, rfl, hcv, hk, q p H _ (Ext.refl k) (.bl _)⟩
    · exact q.elim
  · exact q.elim
/-! ### a text so many times -/
noncomputable def dMulS (d e : D) (m : Mem) : R D := match d, e with
  | .str x, .int n => if PySem.MulOk x n then .ok (.str (Txt.mul x n)) m else .bad
  | _, _ => .bad
theorem od_mulS : OpR X (binaryOp .Mult) (rd2 (gx X) dMulS) := by
  intro pins s σ H x y v u Q I rx ry h
  obtain ⟨p, m, d, e, k, rd, re, q⟩ := h
  cases rd with
  | str i => cases re with
    | int j =>
      simp only [dMulS] at q
      split at q
      · rename_i hl
        obtain ⟨t, rfl⟩ := rx
        obtain ⟨t', rfl⟩ := ry
        exact PySem.SB.mul hl fun t' tk => ⟨.str (Txt.mul i j), H, I.tok _, ⟨_, rfl⟩, q p H _ (Ext.refl k) (.str _)⟩
      · exact q.elim
    | _ => exact q.elim
  | _ => exact q.elim

/-! ### what the top says of the classes of errors -/
theorem fa_nil {Q : Str → Prop} : ∀ c ∈ ([] : List Str), Q c := by simp
theorem fa_cons {Q : Str → Prop} {a : Str} {l : List Str} (h : Q a) (r : ∀ c ∈ l, Q c) : ∀ c ∈ a :: l, Q c := fun c hc => by
  rcases List.mem_cons.mp hc with rfl | hc
  · exact h
  · exact r c hc
theorem fa_one {mg : Str → Option Value} {P : Addr → Prop} {x : Str} {C : Addr} (h : mg x = some (.ref C)) (p : P C) : ∀ C', mg x = some (.ref C') → P C' := fun C' h' => by
  rw [h] at h'
  cases h'
  exact p
theorem kit_no {K : PySem.W.Frag} {a b : Value} {x y : Str} (h : PySem.W.kitOne K a b = some false) (n : x ≠ y) : PySem.W.kitOne K a b = some (decide (x = y)) := by rw [h, decide_eq_false n]
theorem kit_yes {K : PySem.W.Frag} {a b : Value} {x y : Str} (h : PySem.W.kitOne K a b = some true) (n : x = y) : PySem.W.kitOne K a b = some (decide (x = y)) := by rw [h, decide_eq_true n]
theorem kit_own {K : PySem.W.Frag} {C : Addr} {t : Value} {b : Bool} (hd : PySem.W.hasDictIn K C = true) (ht : PySem.W.typeIn K (.ref C) = some (.type "type")) (hself : PySem.W.subIn K (.ref C) (.ref C) = some true) (hs : PySem.W.subIn K t (.ref C) = some b) : PySem.W.kitOne K t (.ref C) = some b := by
  obtain ⟨cd, hc, _⟩ := PySem.W.any_some hd
  unfold PySem.W.kitOne
  by_cases e : (t == Value.ref C) = true
  · rw [if_pos e]
    have e' : t = .ref C := by simpa using e
    rw [e', hself] at hs
    exact hs
  · rw [if_neg e]
    have e2 : ((PySem.W.clsIn K C).isSome && PySem.W.typeIn K (.ref C) == some (.type "type")) = true := by rw [hc, ht]; rfl
    show (if ((PySem.W.clsIn K C).isSome && PySem.W.typeIn K (.ref C) == some (.type "type")) = true then PySem.W.subIn K t (.ref C) else none) = some b
    rw [if_pos e2]
    exact hs
theorem kit_VE {K : PySem.W.Frag} {C : Addr} {b : Bool} (hs : PySem.W.subIn K (.ref C) (.type "ValueError") = some b) : PySem.W.kitOne K (.ref C) (.type "ValueError") = some b := by
  have hm : PySem.W.kitMeta "ValueError" = true := by decide +kernel
  show (if (Value.ref C == Value.type "ValueError") = true then some true else if PySem.W.kitMeta "ValueError" = true then PySem.W.subIn K (.ref C) (.type "ValueError") else none) = some b
  rw [if_neg (by simp), if_pos hm]
  exact hs
structure ExS (K : PySem.W.Frag) (mg : Str → Option Value) (cs : List Str) (x : Str) (se : Addr) : Prop where
  m : mg x = some (.ref se)
  x : ∀ c ∈ cs, ∀ C, mg c = some (.ref C) → PySem.W.exmOne K (.ref C) (.ref se) = some true
  c : ∀ c ∈ cs, ∀ C, mg c = some (.ref C) → ExcC K C
  v : ∀ c ∈ cs, ∀ C, mg c = some (.ref C) → PySem.W.kitOne K (.ref C) (.type "ValueError") = some true
structure ExY (K : PySem.W.Frag) (mg : Str → Option Value) (cs : List Str) (y : Str) (D : Addr) : Prop where
  m : mg y = some (.ref D)
  k : ∀ c ∈ cs, ∀ C, mg c = some (.ref C) → PySem.W.kitOne K (.ref C) (.ref D) = some (decide (c = y))
end
end Mi
namespace Mi
open PySem PySem.Spec PyProof.Rows L2 Classical
section
variable {X : Cx} {W : WX} {pos : Pos}
/-! ### sorted(set(t)), t a tuple of numbers -/
def rSetT (K : PySem.W.Frag) (w : World) : List V → Hp → VK → Prop := fun xs H Q => ∃ (p : Addr) (ns : List Int), xs = [.ref p] ∧ SqT K H p (ns.map V.int) ∧ ns.length ≤ 1000 ∧ ∀ a c, H a = none → c ≤ ns.length → Q (.ref a) (upd H a (SetO w a (fun j => decide (j ∈ ns)) c))
theorem cd_setT (hc : X.calm = true) : CallR X (.type "set") (rSetT X.K X.w) := by
  intro pins s σ H xs us Q I r h
  obtain ⟨p, ns, rfl, hs, hl, q⟩ := h
  rw [Vals.ref1 r]
  obtain ⟨its, rv, ht, _⟩ := I.tuple hs
  refine call_set_tupI ns (I.ok.hd hc) ht (by simpa using ints_of_vals rv) (by unfold scanBound; omega) fun h' tk c R hle hk => ?_
  have hn : s.heap.get? s.heap.objs.size = none := Heap.get?_none_of_le (Nat.le_refl _)
  have hH : H s.heap.objs.size = none := I.hok.gone hn
  exact ⟨.ref s.heap.objs.size, _, I.laidN hk hn hH (setO_new R), rfl, q _ c hH hle⟩
def up2 (ns : List Int) : List Int := isort (dedI ns)
theorem up2_uniq {ns ms : List Int} (h : ms.Pairwise (· < ·)) (hm : ∀ k, k ∈ ms ↔ k ∈ ns) (hd : (dedI ns).Nodup) : ms = up2 ns := by
  refine isort_uniq ?_ (h.imp fun h => Int.le_of_lt h)
  refine (List.perm_ext_iff_of_nodup (h.imp fun h => Int.ne_of_lt h) hd).mpr fun k => ?_
  rw [hm, dedI_mem]
theorem dedI_nd (ns : List Int) : (dedI ns).Nodup := by
  suffices h : ∀ (ns a : List Int), a.Nodup → (ns.foldl (fun a y => if y ∈ a then a else a ++ [y]) a).Nodup from h ns [] List.nodup_nil
  intro ns
  induction ns with
  | nil => exact fun a h => h
  | cons x ns ih =>
    intro a h
    rw [List.foldl_cons]
    refine ih _ ?_
    split
    · exact h
    · rename_i hx
      rw [List.nodup_append]
      exact ⟨h, by simp, fun y hy z hz => by simp at hz; subst hz; rintro rfl; exact hx hy⟩
def dUp2 (d : D) (m : Mem) : R D := match d with
  | .tup ds => match intsOf ds with
    | some ns => if ns.length < 64 then .ok (.ref m.length) (m ++ [.lst ((up2 ns).map D.int)]) else .bad
    | none => .bad
  | _ => .bad
theorem so_up2 {x : Expr} {a : ME} {p1 p2 p3 : Pos} (h : SE X W x a) (hc : X.calm = true) (hg : Gl X "sorted") (hm : X.mg "sorted" = none) (hg2 : Gl X "set") (hm2 : X.mg "set" = none)
    (hs : starEach [x] X.env = (false, eval x X.env) :: starEach [] X.env := by rfl) : SE X W (.Call (.Name "sorted" p1) [.Call (.Name "set" p2) [x] [] p3] [] pos) (mUn dUp2 a) := by
  refine pe_imp (pe_callB (cr_sortedSet hc) hg hm (by decide +kernel) (pa_cons (pe_callTy (cd_setT hc) hg2 hm2 (by decide +kernel) (pa_cons h pa_nil hs) (by decide) (by decide) hs) pa_nil)) fun σ H Q ⟨e, p, m, k, r, q⟩ => ?_
  refine ⟨e, p, m, k, r, ?_⟩
  unfold mUn at q
  cases h1 : a e m with
  | bad => rw [h1] at q; exact q
  | exc c m1 => rw [h1] at q; exact q
  | ok d m1 =>
    rw [h1] at q
    intro p1 H1 v e1 r1
    have q1 := GoV.step k e1 q
    change GoV _ _ _ (dUp2 d m1).calm _ _ at q1
    cases r1 with
    | @tup b vs ds hb rv =>
      simp only [dUp2] at q1
      cases h2 : intsOf ds with
      | none => rw [h2] at q1; exact q1.elim
      | some ns =>
        rw [h2] at q1
        dsimp only at q1
        split at q1
        · rename_i hl
          rw [intsOf_eq h2] at rv
          rw [rv.ints_eq] at hb
          refine ⟨b, ns, rfl, hb, by omega, fun s c hs hcn => ?_⟩
          have x1 := Ext.fresh (o := SetO X.w s (fun j => decide (j ∈ ns)) c) e1.ok hs
          refine ⟨s, _, c, rfl, upd_same, by omega, fun ms t hup hmem hlen ht => ?_⟩
          have em : ms = up2 ns := up2_uniq hup (fun k => by rw [hmem]; simp) (dedI_nd ns)
          subst em
          have x2 := new_lst x1.ok (RDs.ints (up2 ns)) ht
          exact q1 _ _ _ (x1.trans e1.ok x2.1) x2.2
        · exact q1.elim
    | _ => exact q1.elim
end
end Mi
namespace Mi
open PySem PySem.Spec PyProof.Rows L2 Classical
/-! ### set(xs), xs a list of numbers: the new set, then the walk over the list -/
def nset (w : World) : Obj := { cls := .type "set", dict := none, data := .set #[] 0 (.fresh 0 0 (!w.params.followText "set-order")) }
def SetGot (w : World) (s : Shared) (ns : List Int) (s2 : Shared) : Prop := ∃ h' tk c, s2 = { s with heap := h', toks := tk } ∧ SetR w h' s.heap.objs.size (fun j => decide (j ∈ ns)) c ∧ c ≤ ns.length ∧ ∀ b o, s.heap.get? b = some o → h'.get? b = some o
section
variable {P : Program} {w : World} {A : Around} {E : Value → Shared → Prop} {s : Shared} {l : Addr} {items : Array Value}
theorem init_walk (ns : List Int) {R : Fin → Shared → Prop} (hh : A.handled = none) (hl : s.heap.IsList l items) (hit : IntsAre items.toList ns) (hb : ns.length + 1 < scanBound) (q : ∀ s2, SetGot w s ns s2 → R (.done (.ret .none)) s2) :
    wpAny (model P w) A (Builtin.«set.__init__» ⟨[.ref s.heap.objs.size, .ref l], []⟩) R E { s with heap := s.heap.push (nset w) } := by
  have hz : items.size = ns.length := by have z := IntsAre.length hit; rwa [Array.length_toList] at z
  obtain ⟨⟨oc, od, oda, osl⟩, hol, hcl, nl, hdl⟩ := hl
  dsimp only at hcl hdl; subst hcl hdl
  have at_l : (s.heap.push (nset w)).get? l = some { cls := .type "list", dict := od, data := .seq items nl, slots := osl } := Heap.get?_push_of_some _ hol
  have is_l : (s.heap.push (nset w)).IsList l items := ⟨_, at_l, rfl, nl, rfl⟩
  have at_S : (s.heap.push (nset w)).get? s.heap.objs.size = some (nset w) := Heap.get?_push_size _ rfl
  have a1 := F.sub_list_set; have a2 := F.sub_list_frozenset
  have a3 : (Value.type "list" == Value.type "dict") = false := by decide
  unfold Builtin.«set.__init__» noKeywords Builtin.Frozenset.updateFrom; generalize hPI : pyIter = PI; wp_walk
  subst hPI; refine wpAny_pyIter_list is_l (wpAny_bind (wpAny_runValue ?_))
  have lS : l < s.heap.objs.size := Heap.lt_size hol
  have sz : (s.heap.push (nset w)).objs.size = s.heap.objs.size + 1 := Heap.size_push ..
  have h1 : A.in1.handled = none := by simp [hh]
  have vals : ∀ (i : Nat) (v : Value), items[i]? = some v → ∃ k t, ns[i]? = some k ∧ v = .int k t := by
    intro i v hv
    have hi : i < ns.length := by rw [← hz]; exact (Array.getElem?_eq_some_iff.mp hv).1
    obtain ⟨t, e⟩ := IntsAre.int_at hit i v (by rw [Array.getElem?_toList, hv])
    exact ⟨ns[i], t, List.getElem?_eq_getElem hi, by simpa [List.getD_eq_getElem?_getD, List.getElem?_eq_getElem hi] using e⟩
  have out : s.heap.objs.size ∉ [(s.heap.push (nset w)).objs.size, l] := by
    rw [sz]; intro z
    rcases List.mem_cons.mp z with z | z
    · exact absurd z (by omega)
    · exact absurd (List.mem_singleton.mp z) (Nat.ne_of_gt lS)
  refine set_update_ints ((Walks.list h1 _ l (by rw [sz]; exact Nat.ne_of_lt (Nat.lt_succ_of_lt lS)) items).toS) _ out ns hz hb vals items.size 0 _ rfl (Nat.zero_le _) ⟨⟨_, Heap.get?_push_size _ rfl, rfl, rfl⟩, is_l.push _⟩ ⟨0, Nat.le_refl 0, setR_new_at (Heap.get?_push_of_some _ at_S)⟩ ?_
  rintro ⟨h', g2, d2, tk, os⟩ c hm hc R'
  have eg : g2 = s.gens := hm.gens; have ed : d2 = s.drawn := hm.drawn; have eo : os = s.os := hm.os
  subst eg ed eo
  refine wpAny_pure (wpAny_pure (q _ ⟨h', tk, c, rfl, R', by omega, fun b o e => ?_⟩))
  have bl : b < s.heap.objs.size := Heap.lt_size e
  refine hm.heap b o (fun z => ?_) (Heap.get?_push_of_some _ (Heap.get?_push_of_some _ e))
  rcases List.mem_cons.mp z with z | z
  · exact absurd z (Nat.ne_of_lt bl)
  · have := List.mem_singleton.mp z
    rw [sz] at this
    rw [this] at bl
    exact absurd bl (Nat.not_lt.mpr (Nat.le_succ _))
theorem call_set_ints (ns : List Int) {Q : Value → Shared → Prop} (hh : A.handled = none) (hl : s.heap.IsList l items) (hit : IntsAre items.toList ns) (hb : ns.length + 1 < scanBound) (q : ∀ s2, SetGot w s ns s2 → Q (.ref s.heap.objs.size) s2) :
    wpAny (model P w) A (call (.type "set") [.ref l]) Q E s := by
  obtain ⟨c, tl, mro⟩ := F.called_set.mro
  have b1 := F.called_set.made; have b2 := F.called_set.sub; have b3 := F.called_set.notType; have b4 := F.called_set.canCreate; have b5 := F.typeCall_set_1 (.ref l)
  refine wpAny_call (codeAny_of_tree (show wpAny _ _ (callAny (.type "set") _) _ _ _ from wpAny_pure ⟨Code.quiet_builtin _ (by decide +kernel), codeAny_builtin F.entry_type_call ?_⟩))
  rw [Around.under_plain (weight_type_call_type "set" [.ref l] []) rfl]; repeat (any_goals (first | assumption | wp_step))
  refine codeAny_mono (code_set_led1 (.ref l) (E := E) (Q₁ := fun v s1 => v = .ref s.heap.objs.size ∧ s1 = { s with heap := s.heap.push (nset w) }) ⟨rfl, rfl⟩) ?_
  rintro (e | f) s1 hr
  · exact hr
  cases f with
  | ret v =>
    obtain ⟨rfl, rfl⟩ := hr
    have ty : Shared.TypeIs { s with heap := s.heap.push (nset w) } (.ref s.heap.objs.size) "set" := ⟨_, Heap.get?_push_size _ rfl, rfl⟩
    have c1 := F.called_set.init.lookup; have c2 := F.called_set.init.bind (.ref s.heap.objs.size)
    repeat (any_goals (first | assumption | wp_step))
    refine codeAny_mono (codeAny_call_builtin (R := wants (fun r s2 => r = .none ∧ SetGot w s ns s2) E) F.called_set.init.plain F.entry_set_init (check_set_init_1 ty (init_walk ns (by simp [hh]) hl hit hb fun s2 g => ⟨rfl, g⟩))) ?_
    rintro (e | f) s2 hr
    · exact hr
    cases f with
    | ret v =>
      obtain ⟨rfl, g⟩ := hr
      repeat (any_goals (first | assumption | wp_step))
      exact q s2 g
    | _ => exact hr.elim
  | _ => exact hr.elim
end
section
variable {X : Cx} {W : WX} {pos : Pos}
def rSetL (K : PySem.W.Frag) (w : World) : List V → Hp → VK → Prop := fun xs H Q => ∃ (p : Addr) (ns : List Int), xs = [.ref p] ∧ SqL K H p (ns.map V.int) ∧ ns.length ≤ 1000 ∧ ∀ a c, H a = none → c ≤ ns.length → Q (.ref a) (upd H a (SetO w a (fun j => decide (j ∈ ns)) c))
theorem cd_setL (hc : X.calm = true) : CallR X (.type "set") (rSetL X.K X.w) := by
  intro pins s σ H xs us Q I r h
  obtain ⟨p, ns, rfl, hs, hl, q⟩ := h
  rw [Vals.ref1 r]
  obtain ⟨its, rv, ht, _⟩ := I.list hs
  refine call_set_ints ns (I.ok.hd hc) ht.isList (by simpa using ints_of_vals rv) (by unfold scanBound; omega) ?_
  rintro s2 ⟨h', tk, c, rfl, R, hle, hk⟩
  have hn : s.heap.get? s.heap.objs.size = none := Heap.get?_none_of_le (Nat.le_refl _)
  have hH : H s.heap.objs.size = none := I.hok.gone hn
  exact ⟨.ref s.heap.objs.size, _, I.laidN hk hn hH (setO_new R), rfl, q _ c hH hle⟩
def dUp2L (d : D) (m : Mem) : R D := match d with
  | .ref n => match m[n]? with
    | some (.lst ds) => match intsOf ds with
      | some ns => if ns.length < 64 then .ok (.ref m.length) (m ++ [.lst ((up2 ns).map D.int)]) else .bad
      | none => .bad
    | _ => .bad
  | _ => .bad
theorem so_up2L {x : Expr} {a : ME} {p1 p2 p3 : Pos} (h : SE X W x a) (hc : X.calm = true) (hg : Gl X "sorted") (hm : X.mg "sorted" = none) (hg2 : Gl X "set") (hm2 : X.mg "set" = none)
    (hs : starEach [x] X.env = (false, eval x X.env) :: starEach [] X.env := by rfl) : SE X W (.Call (.Name "sorted" p1) [.Call (.Name "set" p2) [x] [] p3] [] pos) (mUn dUp2L a) := by
  refine pe_imp (pe_callB (cr_sortedSet hc) hg hm (by decide +kernel) (pa_cons (pe_callTy (cd_setL hc) hg2 hm2 (by decide +kernel) (pa_cons h pa_nil hs) (by decide) (by decide) hs) pa_nil)) fun σ H Q ⟨e, p, m, k, r, q⟩ => ?_
  refine ⟨e, p, m, k, r, ?_⟩
  unfold mUn at q
  cases h1 : a e m with
  | bad => rw [h1] at q; exact q
  | exc c m1 => rw [h1] at q; exact q
  | ok d m1 =>
    rw [h1] at q
    intro p1 H1 v e1 r1
    have q1 := GoV.step k e1 q
    change GoV _ _ _ (dUp2L d m1).calm _ _ at q1
    cases r1 with
    | @ref n b hb =>
      simp only [dUp2L] at q1
      cases h3 : m1[n]? with
      | none => rw [h3] at q1; exact q1.elim
      | some ob =>
        rw [h3] at q1
        cases ob with
        | lst ds =>
          obtain ⟨vs, hv, rv⟩ := e1.ok.ob n b _ hb h3
          dsimp only at q1
          cases h2 : intsOf ds with
          | none => rw [h2] at q1; exact q1.elim
          | some ns =>
            rw [h2] at q1
            dsimp only at q1
            split at q1
            · rename_i hl
              rw [intsOf_eq h2] at rv
              rw [rv.ints_eq] at hv
              refine ⟨b, ns, rfl, .inl (.inl hv), by omega, fun s c hs hcn => ?_⟩
              have x1 := Ext.fresh (o := SetO X.w s (fun j => decide (j ∈ ns)) c) e1.ok hs
              refine ⟨s, _, c, rfl, upd_same, by omega, fun ms t hup hmem hlen ht => ?_⟩
              have em : ms = up2 ns := up2_uniq hup (fun k => by rw [hmem]; simp) (dedI_nd ns)
              subst em
              have x2 := new_lst x1.ok (RDs.ints (up2 ns)) ht
              exact q1 _ _ _ (x1.trans e1.ok x2.1) x2.2
            · exact q1.elim
        | _ => exact q1.elim
    | _ => exact q1.elim
end
end Mi
namespace Mi
open PySem PySem.Spec PyProof.Rows L2 Classical
/-! ### a comprehension of two walks -/
noncomputable def lc2L (gd : Mem → Prop) (pt : Pat) (t : MT) (f1 : MI) (pt1 : Pat) (t1 : MT) (x : ME) (vs1 : List Nat) (e : En) : List D → List D → M (List D)
  | [], acc => fun m => if gd m then .ok acc m else .bad
  | d :: ds, acc => fun m => if gd m then (match patM pt d e with
      | some e1 => (t e1 m).calm.bind fun b m1 => if b = true then (f1 e1 m1).calm.bind fun w m2 => (lcL w.gd pt1 t1 x (wipeM e1 vs1) w.its acc m2).bind fun acc' m3 => lc2L gd pt t f1 pt1 t1 x vs1 e ds acc' m3 else lc2L gd pt t f1 pt1 t1 x vs1 e ds acc m1
      | none => .bad) else .bad
noncomputable def mLc2 (f : MI) (pt : Pat) (t : MT) (f1 : MI) (pt1 : Pat) (t1 : MT) (x : ME) (vs vs1 : List Nat) : ME := fun e m => (f e m).bind fun w m1 => (lc2L w.gd pt t f1 pt1 t1 x vs1 (wipeM e vs) w.its [] m1).bind fun ys m2 => .ok (.ref m2.length) (m2 ++ [.lst ys])
theorem GoI.calm {g : Gx} {p : List Addr} {H : Hp} {r : R Wk} {Q : It → Hp → Prop} {E E' : XK} (h : GoI g p H r.calm Q E) : GoI g p H r Q E' := by
  cases r with
  | ok d m => exact h
  | exc c m => exact False.elim h
  | bad => exact h
theorem wipe_keep {σ σ3 : L2.St} {vs : List Nat} (hw : wipe σ3 vs = wipe (wipe σ vs) vs) : wipe σ3 vs = wipe σ vs := by
  refine hw.trans (List.ext_getElem? fun j => ?_)
  rw [wipe_at, wipe_at]
  by_cases hj : j ∈ vs
  · simp [hj, Option.map_map, Function.comp_def]
  · simp [hj, wipe_at]
theorem apartW {g : Gx} {p : List Addr} {m : Mem} {H : Hp} {L : Addr} {old new : List V} (k : Ok g p m H) (nL : L ∉ p) (eL : H L = some (.lst old)) : ExtW g p H p m (upd H L (.lst new)) := by
  obtain ⟨ok, _⟩ := k.apart (u := .lst new) nL eL (fun _ z => nomatch z) (fun _ _ z => nomatch z)
  refine ⟨ok, ⟨[], by simp⟩, fun b xs h => ?_, fun b o u h => ?_⟩
  · rw [upd_ne]
    · exact h
    · rintro rfl
      rw [eL] at h
      cases h
  · rw [upd_ne]
    · exact h
    · rintro rfl
      rw [eL] at h
      cases h
section
variable {X : Cx} {W : WX} {pos : Pos} {tg tg1 : Expr}
/-- what is made so far lies apart, at L -/
structure Mk (g : Gx) (p0 : List Addr) (H0 : Hp) (L : Addr) (p : List Addr) (m : Mem) (H : Hp) (acc : List D) (vacc : List V) : Prop where
  x : Ext g p0 H0 p m H
  n : L ∉ p
  e : H L = some (.lst vacc)
  r : RDs g p H acc vacc
theorem Mk.on {g : Gx} {p0 p p' : List Addr} {m0 m m' : Mem} {H0 H H' : Hp} {L : Addr} {acc : List D} {vacc : List V} (k : Ok g p0 m0 H0) (a : Mk g p0 H0 L p m H acc vacc) (b : Ext g p H p' m' H') : Mk g p0 H0 L p' m' H' acc vacc := by
  obtain ⟨n', e'⟩ := b.keeps a.n a.e
  exact ⟨a.x.trans k b, n', e', a.r.ext a.x.ok b⟩
theorem Mk.put {g : Gx} {p0 p : List Addr} {m : Mem} {H0 H : Hp} {L : Addr} {acc : List D} {vacc : List V} {y : D} {vy : V} (hL : H0 L = none) (a : Mk g p0 H0 L p m H acc vacc) (ry : RD g p H y vy) : Mk g p0 H0 L p m (upd H L (.lst (vacc ++ [vy]))) (acc ++ [y]) (vacc ++ [vy]) := by
  obtain ⟨ok, all⟩ := a.x.ok.apart (u := .lst (vacc ++ [vy])) a.n a.e (fun _ z => nomatch z) (fun _ _ z => nomatch z)
  refine ⟨⟨ok, a.x.pre, fun b o z zb => ?_, fun b o u z => ?_⟩, a.n, upd_same, all _ _ (a.r.app (.cons ry .nil))⟩
  · rw [upd_ne (ne_of_none z hL)]
    exact a.x.fr b o z zb
  · rw [upd_ne (ne_of_none z hL)]
    exact a.x.sea b o u z
theorem lc2_in {f f1 : MI} {pt pt1 : Pat} {t t1 : MT} {x : ME} {vs vs1 : List Nat} {σ : L2.St} {H : Hp} {Q : VK} (hs : ∀ i ∈ pt.slots, i ∈ vs) (hs1 : ∀ i ∈ pt1.slots, i ∈ vs1) (h : rdE (gx X) W (mLc2 f pt t f1 pt1 t1 x vs vs1) σ H Q) :
    tLc2 (rdI (gx X) W f) (patT X.K pt) (rdT (gx X) W0 t) (rdI (gx X) W0 f1) (patT X.K pt1) (rdT (gx X) W0 t1) (rdE (gx X) W0 x) vs vs1 σ H Q := by
  obtain ⟨e, p, m, k, r, q⟩ := h
  refine ⟨e, p, m, k, r, ?_⟩
  unfold mLc2 at q
  cases h1 : f e m with
  | bad => rw [h1] at q; exact q
  | exc c m1 => rw [h1] at q; exact q
  | ok w m1 =>
    rw [h1] at q
    intro p1 H1 J e1 wk L hL
    have q1 := GoV.step k e1 q
    change GoV _ _ _ ((lc2L w.gd pt t f1 pt1 t1 x vs1 (wipeM e vs) w.its [] m1).bind _) _ _ at q1
    have k1 := e1.ok
    have mk0 : Mk (gx X) p1 H1 L p1 m1 (upd H1 L (.lst [])) [] [] := ⟨Ext.fresh k1 hL, fun z => k1.there z hL, upd_same, .nil⟩
    refine ⟨fun i n H' => ∃ p' m' acc vacc, Mk (gx X) p1 H1 L p' m' H' acc vacc ∧ i + n = w.its.length ∧ GoV (gx X) p1 H1 ((lc2L w.gd pt t f1 pt1 t1 x vs1 (wipeM e vs) (w.its.drop i) acc m').bind fun ys m2 => .ok (.ref m2.length) (m2 ++ [O.lst ys])) Q (WE W σ),
      ⟨w.its.length, p1, m1, [], [], mk0, by omega, q1⟩, ?_⟩
    rintro i n H2 ⟨p2, m2, acc, vacc, mk, hin, q2⟩
    have r2 := (r.ext k e1).ext k1 mk.x
    cases n with
    | zero =>
      have hi : w.its.length ≤ i := by omega
      rw [List.drop_eq_nil_of_le hi] at q2
      unfold lc2L at q2
      split at q2
      · rename_i hgd
        refine .inl ⟨(wk i p2 m2 H2 (mk.x.w k1) hgd).2 hi, ?_⟩
        have eself : upd H2 L (.lst vacc) = H2 := by
          funext b
          by_cases hb : b = L
          · subst hb; rw [upd_same, mk.e]
          · rw [upd_ne hb]
        have z := Ext.adopt (u := .lst vacc) (o := .lst acc) mk.x hL mk.n mk.e (fun _ z => nomatch z) (fun _ _ z => nomatch z) fun H' e' go => ⟨vacc, e', go _ _ mk.r⟩
        rw [eself] at z
        refine q2 (p2 ++ [L]) H2 (.ref L) z (.ref ?_)
        rw [← mk.x.ok.len, List.getElem?_append_right (Nat.le_refl _)]
        simp
      · exact q2.elim
    | succ n =>
      have hi : i < w.its.length := by omega
      rw [List.drop_eq_getElem_cons hi] at q2
      unfold lc2L at q2
      split at q2
      · rename_i hgd
        obtain ⟨go, yl⟩ := (wk i p2 m2 H2 (mk.x.w k1) hgd).1 _ (List.getElem?_eq_getElem hi)
        refine .inr ⟨go, fun H' => ∃ p' m' acc vacc, Mk (gx X) p1 H1 L p' m' H' acc vacc ∧ GoV (gx X) p1 H1 ((lc2L w.gd pt t f1 pt1 t1 x vs1 (wipeM e vs) (w.its.drop (i + 1)) acc m').bind fun ys m2 => .ok (.ref m2.length) (m2 ++ [O.lst ys])) Q (WE W σ),
          fun H' ⟨p', m', acc', vacc', y1, y5⟩ => ⟨n, Nat.lt_succ_self n, p', m', acc', vacc', y1, by omega, y5⟩, fun v H3 hy => ?_⟩
        obtain ⟨x3, rv⟩ := yl v H3 hy
        have mk3 := mk.on k1 x3
        have r3 := (r2.ext mk.x.ok x3).wipe vs
        cases hpt : patM pt w.its[i] (wipeM e vs) with
        | none => rw [hpt] at q2; exact q2.elim
        | some e3 =>
          rw [hpt] at q2
          refine pat_in rv r3 hs hpt fun σ3 ro3 hw => ⟨wipe_keep hw, e3, p2, m2, x3.ok, ro3, ?_⟩
          change GoV _ _ _ (((t e3 m2).calm.bind _).bind _) _ _ at q2
          cases h3 : t e3 m2 with
          | bad => rw [h3] at q2; exact q2
          | exc c m3 => rw [h3] at q2; exact q2.elim
          | ok b m3 =>
            rw [h3] at q2
            intro p4 H4 x4
            have mk4 := mk3.on k1 x4
            cases b with
            | false => exact ⟨p4, m3, acc, vacc, mk4, q2⟩
            | true =>
              have ro4 := ro3.ext x3.ok x4
              refine ⟨e3, p4, m3, x4.ok, ro4, ?_⟩
              change GoV _ _ _ (((f1 e3 m3).calm.bind _).bind _) _ _ at q2
              cases h4 : f1 e3 m3 with
              | bad => rw [h4] at q2; exact q2
              | exc c m4 => rw [h4] at q2; exact q2.elim
              | ok w1 m4 =>
                rw [h4] at q2
                intro p5 H5 J1 x5 wk1
                have mk5' := mk4.on k1 x5
                have ro5 := ro4.ext x4.ok x5
                have k5 := x5.ok
                refine ⟨fun j n H' => ∃ p' m' acc vacc, Mk (gx X) p1 H1 L p' m' H' acc vacc ∧ ExtW (gx X) p5 H5 p' m' H' ∧ j + n = w1.its.length ∧ GoV (gx X) p1 H1 (((lcL w1.gd pt1 t1 x (wipeM e3 vs1) (w1.its.drop j) acc m').bind fun acc' m3 => lc2L w.gd pt t f1 pt1 t1 x vs1 (wipeM e vs) (w.its.drop (i + 1)) acc' m3).bind fun ys m2 => .ok (.ref m2.length) (m2 ++ [O.lst ys])) Q (WE W σ),
                  ⟨w1.its.length, p5, m4, acc, vacc, mk5', (Ext.refl k5).w k5, by omega, q2⟩, ?_⟩
                rintro j n1 H6 ⟨p6, m6, acc6, vacc6, mk6, w6, hjn, q6⟩
                have ro6 := ro5.extW k5 w6
                cases n1 with
                | zero =>
                  have hj : w1.its.length ≤ j := by omega
                  rw [List.drop_eq_nil_of_le hj] at q6
                  unfold lcL at q6
                  split at q6
                  · rename_i hgd1
                    exact .inl ⟨(wk1 j p6 m6 H6 w6 hgd1).2 hj, p6, m6, acc6, vacc6, mk6, q6⟩
                  · exact q6.elim
                | succ n1 =>
                  have hj : j < w1.its.length := by omega
                  rw [List.drop_eq_getElem_cons hj] at q6
                  unfold lcL at q6
                  split at q6
                  · rename_i hgd1
                    obtain ⟨go1, yl1⟩ := (wk1 j p6 m6 H6 w6 hgd1).1 _ (List.getElem?_eq_getElem hj)
                    refine .inr ⟨go1, fun H' => ∃ p' m' acc vacc, Mk (gx X) p1 H1 L p' m' H' acc vacc ∧ ExtW (gx X) p5 H5 p' m' H' ∧ GoV (gx X) p1 H1 (((lcL w1.gd pt1 t1 x (wipeM e3 vs1) (w1.its.drop (j + 1)) acc m').bind fun acc' m3 => lc2L w.gd pt t f1 pt1 t1 x vs1 (wipeM e vs) (w.its.drop (i + 1)) acc' m3).bind fun ys m2 => .ok (.ref m2.length) (m2 ++ [O.lst ys])) Q (WE W σ),
                      fun H' ⟨p', m', acc', vacc', y1, y2, y5⟩ => ⟨n1, Nat.lt_succ_self n1, p', m', acc', vacc', y1, y2, by omega, y5⟩, fun v7 H7 hy7 => ?_⟩
                    obtain ⟨x7, rv7⟩ := yl1 v7 H7 hy7
                    have mk7 := mk6.on k1 x7
                    have w7 := w6.trans (x7.w mk6.x.ok)
                    have r7 := (ro6.ext mk6.x.ok x7).wipe vs1
                    cases hpt1 : patM pt1 w1.its[j] (wipeM e3 vs1) with
                    | none => rw [hpt1] at q6; exact q6.elim
                    | some e8 =>
                      rw [hpt1] at q6
                      refine pat_in rv7 r7 hs1 hpt1 fun σ8 ro8 hw8 => ⟨wipe_keep hw8, e8, p6, m6, x7.ok, ro8, ?_⟩
                      change GoV _ _ _ ((((t1 e8 m6).calm.bind _).bind _).bind _) _ _ at q6
                      cases h8 : t1 e8 m6 with
                      | bad => rw [h8] at q6; exact q6
                      | exc c m8 => rw [h8] at q6; exact q6.elim
                      | ok b m8 =>
                        rw [h8] at q6
                        intro p9 H9 x9
                        have mk9 := mk7.on k1 x9
                        have w9 := w7.trans (x9.w x7.ok)
                        cases b with
                        | false => exact ⟨p9, m8, acc6, vacc6, mk9, w9, q6⟩
                        | true =>
                          refine ⟨e8, p9, m8, x9.ok, ro8.ext x7.ok x9, ?_⟩
                          change GoV _ _ _ ((((x e8 m8).calm.bind _).bind _).bind _) _ _ at q6
                          cases h9 : x e8 m8 with
                          | bad => rw [h9] at q6; exact q6
                          | exc c m10 => rw [h9] at q6; exact q6.elim
                          | ok y m10 =>
                            rw [h9] at q6
                            intro p11 H11 vy x11 ry
                            have mk11 := mk9.on k1 x11
                            have w11 := w9.trans (x11.w x9.ok)
                            change GoV _ _ _ (((if acc6.length < 1000000 then _ else _ : R (List D)).bind _).bind _) _ _ at q6
                            split at q6
                            · rename_i hsz
                              refine ⟨vacc6, mk11.e, szlt (by rw [← mk11.r.length]; exact hsz), p11, m10, acc6 ++ [y], vacc6 ++ [vy], mk11.put hL ry, w11.trans (apartW x11.ok mk11.n mk11.e), q6⟩
                            · exact q6.elim
                  · exact q6.elim
      · exact q2.elim
end
end Mi
namespace Mi
open PySem PySem.Spec PyProof.Rows L2 Classical
section
variable {X : Cx} {W : WX} {pos : Pos} {tg tg1 : Expr}
theorem so_lc2 {elt iter iter1 : Expr} {ifs ifs1 : List Expr} {scope : Scope} {own : List (Str × Nat)} {vs1 : List Nat} {f f1 : MI} {pt pt1 : Pat} {t t1 : MT} {x : ME} (hc : X.calm = true) (hN : X.N.Nodup) (hi : SI X W tg iter f) (ok : BlkOk X.N X.env.scope scope own)
    (hg : ∀ (s : Shared) (H : Hp) (C : Addr) (cl : List (Str × Addr)) (fp : List Addr), PG (X.blk s H scope (compEnvC scope cl C X.env) fp) tg (patT X.K pt))
    (ht : ∀ (s : Shared) (H : Hp) (C : Addr) (cl : List (Str × Addr)) (fp : List Addr), PTs (X.blk s H scope (compEnvC scope cl C X.env) fp) ifs (rdT (gx X) W0 t))
    (hi1 : ∀ (s : Shared) (H : Hp) (C : Addr) (cl : List (Str × Addr)) (fp : List Addr), SI (X.blk s H scope (compEnvC scope cl C X.env) fp) W0 tg1 iter1 f1)
    (hg1 : ∀ (s : Shared) (H : Hp) (C : Addr) (cl : List (Str × Addr)) (fp : List Addr), PG (X.blk s H scope (compEnvC scope cl C X.env) fp) tg1 (patT X.K pt1))
    (ht1 : ∀ (s : Shared) (H : Hp) (C : Addr) (cl : List (Str × Addr)) (fp : List Addr), PTs (X.blk s H scope (compEnvC scope cl C X.env) fp) ifs1 (rdT (gx X) W0 t1))
    (he : ∀ (s : Shared) (H : Hp) (C : Addr) (cl : List (Str × Addr)) (fp : List Addr), SE (X.blk s H scope (compEnvC scope cl C X.env) fp) W0 elt x)
    (hv : ∀ i ∈ vs1, i ∈ own.map (·.2) := by decide) (hsl : ∀ i ∈ pt.slots, i ∈ own.map (·.2) := by decide) (hsl1 : ∀ i ∈ pt1.slots, i ∈ vs1 := by decide) (hs : ∀ y, foldedSetIterable iter X.env y = pure y := by intro _; rfl) (hs1 : ∀ env y, foldedSetIterable iter1 env y = pure y := by intro _ _; rfl) :
    SE X W (.ListComp elt [⟨tg, iter, ifs, 0⟩, ⟨tg1, iter1, ifs1, 0⟩] scope pos) (mLc2 f pt t f1 pt1 t1 x (own.map (·.2)) vs1) :=
  pe_imp (pe_lc2 (te := rdE (gx X) W0 x) (wi1 := rdI (gx X) W0 f1) (tt1 := rdT (gx X) W0 t1) hc hN hi ok hv hg ht hi1 hg1 ht1 he hs hs1) fun σ H Q h => lc2_in hsl hsl1 h
theorem ss_setLc2 {i : Nat} {y : Str} {py spos : Pos} {elt iter iter1 : Expr} {ifs ifs1 : List Expr} {scope : Scope} {own : List (Str × Nat)} {vs1 : List Nat} {f f1 : MI} {pt pt1 : Pat} {t t1 : MT} {x : ME} (hc : X.calm = true) (hN : X.N.Nodup) (hy : X.N[i]? = some y) (hyl : X.env.scope.names.lookup y = some .local)
    (hsw : swapsWith (.ListComp elt [⟨tg, iter, ifs, 0⟩, ⟨tg1, iter1, ifs1, 0⟩] scope pos) (some (.Name y py)) spos.line X.env = pure true) (hi : SI X W tg iter f) (ok : BlkOk X.N X.env.scope scope own)
    (hg : ∀ (s : Shared) (H : Hp) (C : Addr) (cl : List (Str × Addr)) (fp : List Addr), PG (X.blk s H scope (compEnvC scope cl C X.env) fp) tg (patT X.K pt))
    (ht : ∀ (s : Shared) (H : Hp) (C : Addr) (cl : List (Str × Addr)) (fp : List Addr), PTs (X.blk s H scope (compEnvC scope cl C X.env) fp) ifs (rdT (gx X) W0 t))
    (hi1 : ∀ (s : Shared) (H : Hp) (C : Addr) (cl : List (Str × Addr)) (fp : List Addr), SI (X.blk s H scope (compEnvC scope cl C X.env) fp) W0 tg1 iter1 f1)
    (hg1 : ∀ (s : Shared) (H : Hp) (C : Addr) (cl : List (Str × Addr)) (fp : List Addr), PG (X.blk s H scope (compEnvC scope cl C X.env) fp) tg1 (patT X.K pt1))
    (ht1 : ∀ (s : Shared) (H : Hp) (C : Addr) (cl : List (Str × Addr)) (fp : List Addr), PTs (X.blk s H scope (compEnvC scope cl C X.env) fp) ifs1 (rdT (gx X) W0 t1))
    (he : ∀ (s : Shared) (H : Hp) (C : Addr) (cl : List (Str × Addr)) (fp : List Addr), SE (X.blk s H scope (compEnvC scope cl C X.env) fp) W0 elt x)
    (hv : ∀ i ∈ vs1, i ∈ own.map (·.2) := by decide) (hsl : ∀ i ∈ pt.slots, i ∈ own.map (·.2) := by decide) (hsl1 : ∀ i ∈ pt1.slots, i ∈ vs1 := by decide) (hs : ∀ y, foldedSetIterable iter X.env y = pure y := by intro _; rfl) (hs1 : ∀ env y, foldedSetIterable iter1 env y = pure y := by intro _ _; rfl) :
    SS X W (.Assign [.Name y py] (.ListComp elt [⟨tg, iter, ifs, 0⟩, ⟨tg1, iter1, ifs1, 0⟩] scope pos) spos) (sAsg (mLc2 f pt t f1 pt1 t1 x (own.map (·.2)) vs1) (gSet i)) := by
  refine ps_imp (ps_setLc2 (te := rdE (gx X) W0 x) (wi1 := rdI (gx X) W0 f1) (tt1 := rdT (gx X) W0 t1) hc hN hy hyl hsw hi ok hv hg ht hi1 hg1 ht1 he hs hs1) fun D' σ H h => ?_
  obtain ⟨e, p, m, k, r, q⟩ := h
  refine lc2_in (Q := fun v H1 => gName i v σ H1 D'.nx) hsl hsl1 ⟨e, p, m, k, r, GoS.val k r q fun d m1 p1 H1 v _ x y q1 => ?_⟩
  exact q1 p1 H1 _ (Ext.refl x.ok) ((r.ext k x).set i y)
/-- a = b = x, two names -/
def gSet2 (i j : Nat) : MG := fun d e m => .ok ((e.set i (some d)).set j (some d)) m
theorem ss_set2 {i j : Nat} {t1 t2 x : Expr} {a : ME} (h : SE X W x a) (h1 : PG X t1 (gName i)) (h2 : PG X t2 (gName j)) (e1 : (assignEach [t1, t2] X.env).map (·.2) = [assign t1 X.env, assign t2 X.env] := by rfl) (e2 : swappedStores [t1, t2] x X.env = pure none := by rfl) : SS X W (.Assign [t1, t2] x pos) (sAsg a (gSet2 i j)) :=
  ps_imp (ps_asg2 h h1 h2 e1 e2) fun D σ H ⟨e, p, m, k, r, q⟩ => ⟨e, p, m, k, r, GoS.val k r q fun d m1 p1 H1 v _ x y q1 => q1 p1 H1 _ (Ext.refl x.ok) (((r.ext k x).set i y).set j y)⟩
end
end Mi
namespace Mi
open PySem PySem.Spec PyProof.Rows L2
/-! ### dict of a zip of two lists, of a tuple of pairs; items walked -/
def keyL : List D → Option (List Key)
  | [] => some []
  | d :: ds => match keyD d, keyL ds with
    | some k, some r => some (k :: r)
    | _, _ => none
theorem keyL_of {g : Gx} {p : List Addr} {H : Hp} : ∀ {ds : List D} {vs : List V} {ks : List Key}, RDs g p H ds vs → keyL ds = some ks → vs = ks.map kV
  | [], _, ks, .nil, h => by
    simp only [keyL] at h
    cases h
    rfl
  | d :: ds, _, ks, .cons r t, h => by
    unfold keyL at h
    split at h
    · rename_i k r' hk hr
      cases h
      rw [keyD_of r hk, keyL_of t hr]
      rfl
    · cases h
def dDictZ (ds : List D) (m : Mem) : R D := match ds with
  | [.ref a, .ref b] => match m[a]?, m[b]? with
    | some (.lst xs), some (.lst ys) => match keyL xs with
      | some ks => if ks.length = ys.length then .ok (.ref m.length) (m ++ [.dic (mergeD [] (ks.zip ys))]) else .bad
      | none => .bad
    | _, _ => .bad
  | _ => .bad
theorem kv_zip : ∀ {ks : List Key} {vs : List V} {us us2 : List Value}, Vals (ks.map kV) us → Vals vs us2 → ks.length = vs.length → KV (ks.zip vs) (ks.zip us2)
  | [], _, _, _, _, _, _ => by
    simp only [List.zip_nil_left]
    exact .nil
  | k :: ks, [], _, _, _, _, h => by simp at h
  | k :: ks, v :: vs, _, _, .cons r t, .cons r2 t2, h => .cons ⟨rfl, r2⟩ (kv_zip t t2 (by simpa using h))
theorem vals_key {P : Program} {w : World} : ∀ {ks : List Key} {us : List Value}, Vals (ks.map kV) us → ∀ (i : Nat) (u : Value), us[i]? = some u → ∃ k, ks[i]? = some k ∧ (mixKind P w).is k u = true
  | [], _, .nil, i, u, h => by simp at h
  | k :: ks, _, .cons r t, 0, u, h => by
    simp at h
    subst h
    exact ⟨k, rfl, kV_is r⟩
  | k :: ks, _, .cons r t, i + 1, u, h => by
    obtain ⟨k', h1, h2⟩ := vals_key t i u (by simpa using h)
    exact ⟨k', by simpa using h1, h2⟩
section
variable {X : Cx} {W : WX} {pos : Pos}
theorem pe_dictZ {e e2 : Expr} {ta : TA} {p p2 q : Pos} (hc : X.calm = true) (hg : Gl X "dict") (hm : X.mg "dict" = none) (hg2 : Gl X "zip") (hm2 : X.mg "zip" = none) (ha : PA X [e, e2] ta)
    (hs : starEach [e, e2] X.env = (false, eval e X.env) :: starEach [e2] X.env := by rfl) (hpl : (backTo q (starEach [e2] X.env)).any (·.1) = false := by rfl) : PE X (.Call (.Name "dict" p) [.Call (.Name "zip" p2) [e, e2] [] q] [] pos) (tCB (rdC (gx X) dDictZ) ta) := by
  refine ⟨fun pins s σ H Q I h => ?_⟩
  refine Call_ (ld_blt I hg hm PyProof.Rows.boot_dict ?_)
  refine PyProof.Rows.callWith_type1 (PyProof.Rows.args_cons ?_ rfl) rfl rfl
  refine Call_ (ld_blt I hg2 hm2 PyProof.Rows.boot_zip (PyProof.Rows.callWith_type1 (thn (ha.run q pins s σ H _ I h) fun us s1 ⟨vs, H1, I1, r1, q1⟩ => ?_) hs hpl))
  obtain ⟨pp, m, ds, k, rd, q1⟩ := q1
  unfold dDictZ at q1
  split at q1
  · rename_i na nb
    cases rd with
    | cons ra rd => cases rd with
      | cons rb rd =>
        cases rd
        cases ra with
        | @ref _ a pa => cases rb with
          | @ref _ b pb =>
            split at q1
            · rename_i xs ys hxa hyb
              split at q1
              · rename_i ks hks
                split at q1
                · rename_i hlen
                  obtain ⟨vx, hvx, rx⟩ := k.ob na a _ pa hxa
                  obtain ⟨vy, hvy, ry⟩ := k.ob nb b _ pb hyb
                  obtain ⟨u1, u2, rfl, ra, rb⟩ := vals2 r1
                  cases ra
                  cases rb
                  obtain ⟨its, rv, p1, hz1⟩ := I1.list (xs := vx) (.inl (.inl hvx))
                  obtain ⟨its2, rv2, p2', hz2⟩ := I1.list (xs := vy) (.inl (.inl hvy))
                  have ek := keyL_of rx hks
                  subst ek
                  have hl2 : ks.length = vy.length := by rw [hlen]; exact ry.length
                  have hl3 : its.length = ks.length := by rw [← rv.length, List.length_map]
                  have hl4 : its2.length = ks.length := by rw [← rv2.length, hl2]
                  refine call_zip_2 p1.isList p2'.isList fun h' hz hTI hTO h1 h2 hsz hk => ?_
                  refine PyProof.Rows.args_nil ?_
                  refine PySem.call_dict_pairs (s := { s1 with heap := h' }) (knd := mixKind X.prog X.w) (kvs := ks.zip its2) (PairArg.zip _ _ _ _ _ a b (PySem.W.ktu_apart s1.heap.objs.size a b p1.lt p2'.lt) its.toArray its2.toArray) (I1.ok.hd hc) ⟨hz, hTI, ⟨_, _, hTO⟩, h1, h2, p1.isList.at fun o e => hk _ o e, p2'.isList.at fun o e => hk _ o e⟩ ⟨?_, ?_⟩ ?_ ?_
                  · simp [hl3, hl4]
                  · intro i key v ⟨e1, e2⟩
                    obtain ⟨kk, hk1, hk2⟩ := vals_key (P := X.prog) (w := X.w) rv i key (by simpa using e1)
                    refine ⟨kk, ?_, hk2⟩
                    rw [List.getElem?_zip_eq_some]
                    exact ⟨hk1, by simpa using e2⟩
                  · simp [hl3, hl4]
                    have := hz1
                    rw [List.length_map] at this
                    exact this
                  · intro h'' tk hd' hk2
                    have hb : s1.heap.objs.size ≤ h'.objs.size := by rw [hsz]; exact Nat.le_add_right _ _
                    have hmx : (h'.objs.size == sysModules) = false := beq_eq_false_iff_ne.mpr (Nat.ne_of_gt (Nat.lt_of_lt_of_le I1.big hb))
                    have rel := kv_zip rv rv2 hl2
                    have hlen2 : (mergeK [] (ks.zip vy)).length ≤ sizeLine := by
                      refine Nat.le_trans (length_mergeK _ []) ?_
                      rw [List.length_nil, Nat.zero_add, List.length_zip, ← hl2, Nat.min_self]
                      have := hz1
                      rw [List.length_map] at this
                      exact this
                    have kp : ∀ b o, s1.heap.get? b = some o → h''.get? b = some o := fun b o e => hk2 b o (fun hm => by
                      have hlt := Heap.lt_size e
                      simp only [List.mem_cons, List.not_mem_nil, or_false] at hm
                      rcases hm with z | z | z | z <;> (subst z; exact absurd hlt (Nat.not_lt.mpr (by first | exact Nat.le_refl _ | exact Nat.le_add_right _ _)))) (hk b o e)
                    refine ⟨.ref h'.objs.size, upd H1 h'.objs.size (.dK (mergeK [] (ks.zip vy))), I1.laid (t' := tk) kp hb (show ObjOk X.prog X.w _ _ _ (.dK (mergeK [] (ks.zip vy))) from ⟨hlen2, hmx, merged [] (ks.zip its2), KV.merge rel .nil, hd'⟩), rfl, ?_⟩
                    have hf := I1.hok.fresh hb
                    refine q1 (pp ++ [h'.objs.size]) _ (.ref h'.objs.size) (Ext.new (u := .dK (mergeK [] (ks.zip vy))) (o := .dic (mergeD [] (ks.zip ys))) k hf fun H' fr e' go => ?_) (.ref ?_)
                    · have ez : (ks.zip vy).map (·.2) = vy := List.map_snd_zip (by omega)
                      have ez2 : (ks.zip ys).map (·.2) = ys := List.map_snd_zip (by omega)
                      have ez3 : (ks.zip vy).map (·.1) = (ks.zip ys).map (·.1) := by rw [List.map_fst_zip (by omega), List.map_fst_zip (by omega)]
                      obtain ⟨g1, g2⟩ := merge_of (kvs := []) (vs := []) ez3 (by rw [ez, ez2]; exact go _ _ ry) rfl .nil
                      exact ⟨_, e', g1, g2⟩
                    · rw [← k.len, List.getElem?_append_right (Nat.le_refl _)]
                      simp
                · exact q1.elim
              · exact q1.elim
            · exact q1.elim
  · exact q1.elim
theorem so_dictZ {e e2 : Expr} {a : MA} {p p2 q : Pos} (hc : X.calm = true) (hg : Gl X "dict") (hm : X.mg "dict" = none) (hg2 : Gl X "zip") (hm2 : X.mg "zip" = none) (ha : SA X W [e, e2] a)
    (hs : starEach [e, e2] X.env = (false, eval e X.env) :: starEach [e2] X.env := by rfl) (hpl : (backTo q (starEach [e2] X.env)).any (·.1) = false := by rfl) : SE X W (.Call (.Name "dict" p) [.Call (.Name "zip" p2) [e, e2] [] q] [] pos) (mCB dDictZ a) := so_args (pe_dictZ hc hg hm hg2 hm2 ha hs hpl)
end
end Mi
/-! ### sorted and min of lists that read as data -/
namespace MiS
open PySem PySem.SeqAt PySem.W PyProof.Rows PySem.Calls
section
variable {prog : Program} {w : World} {A : Around} {E : Value → Shared → Prop} {s : Shared}
/-- tuple's own __lt__, called as sorting calls it -/
theorem tup_lt {Q : Value → Shared → Prop} {l b : Addr} {items items2 : Array Value} {e r : Nat → Bool} (hl : s.heap.IsTuple l items) (hb : s.heap.IsTuple b items2)
    (he : ∀ j (h1 : j < items.size) (h2 : j < items2.size), EqAt A.in1 s items[j] items2[j] (e j)) (hr : ∀ j (h1 : j < items.size) (h2 : j < items2.size), e j = false → RcLt A.in1 s items[j] items2[j] (r j))
    (h : Q (.bool (firstLt e r (decide (items.size < items2.size)) (List.range (min items.size items2.size)))) s) : wpAny (model prog w) A (call (.builtin "tuple.__lt__") [.ref l, .ref b]) Q E s := by
  obtain ⟨⟨cls, dd, data, sl⟩, ho, hc, n, hd⟩ := id hl
  obtain ⟨⟨cls2, dd2, data2, sl2⟩, ho2, hc2, n2, hd2⟩ := id hb
  simp only at hc hd hc2 hd2
  subst hc hd hc2 hd2
  exact call_meets PySem.F.slot_tuple_lt ⟨_, ho, rfl⟩ PySem.F.entry_tuple_lt (PySem.F.args_tuple_lt_2 _ _) (PySem.SeqAt.tuple_ltAt l b items items2 n n2 dd dd2 sl sl2 e r) ⟨ho, ho2, he, hr, h⟩
theorem oneLt_tup {xs ys : List PyData} {a b : Value} {as bs : List Addr} {Q : Bool → Shared → Prop} (ra : Reads s.heap a (.tuple xs) as) (rb : Reads s.heap b (.tuple ys) bs) (h : alike (.tuple xs) (.tuple ys) = true)
    (hu : A.units + min (PyData.tuple xs).depth (PyData.tuple ys).depth < cLine) (hq : Q (dataLt (.tuple xs) (.tuple ys)) s) : wpAny (model prog w) A (oneLt' true a b) Q E s := by
  have hal : alikeAll xs ys = true := by simpa [alike] using h
  cases ra with
  | @tuple l o vs n _ _ h1 h2 h3 h4 =>
    cases rb with
    | @tuple l' o' vs' n' _ _ k1 k2 k3 k4 =>
      have n1 : vs.size = xs.length := by simpa using ReadsAll.length _ _ _ h4
      have n2 : vs'.size = ys.length := by simpa using ReadsAll.length _ _ _ k4
      rw [dataLt_tuple, ← firstLt_toks xs ys hal, ← n1, ← n2] at hq
      rw [oneLt'_eq]
      simp only [if_true]
      refine wpAny_bind (wpAny_cRoomFor (room_here hu) ?_)
      refine wpAny_bind (wpAny_callSpecialIfBound?_slot (T := "tuple") ⟨_, h1, h2⟩ PySem.F.slot_tuple_lt (tup_lt (e := pairEq xs ys) (r := fun j => dataLt (xs.getD j .none) (ys.getD j .none)) ⟨_, h1, h2, _, h3⟩ ⟨_, k1, k2, _, k3⟩ (fun j j1 j2 => ?_) (fun j j1 j2 hj => ?_) ?_))
      · have := eqAt_alikeAll xs ys A.in1 s vs.toList vs'.toList _ _ h4 k4 hal (room_in hu) j (by simpa using j1) (by simpa using j2)
        simpa using this
      · have := rcLt_alikeAll xs ys A.in1 s vs.toList vs'.toList _ _ h4 k4 hal (room_in hu) j (by simpa using j1) (by simpa using j2) hj
        simpa using this
      · exact wpAny_truthy_bool hq
end
section
variable {M : Model} {A : Around} {E : Value → Shared → Prop} {s : Shared}
def TupV (h : Heap) (v : Value) : Prop := ∃ a o xs n, v = .ref a ∧ h.get? a = some o ∧ o.cls = .type "tuple" ∧ o.data = .seq xs n
theorem firsts_any : ∀ (vs : List Value) {Q : List (Option Value) → Shared → Prop}, (∀ v ∈ vs, TupV s.heap v) → (∀ fs : List (Option Value), Q fs s) → wpAny M A (vs.mapM firstOfTuple') Q E s
  | [], _, _, h => by rw [List.mapM_nil]; exact wpAny_pure (h [])
  | v :: vs, Q, t, h => by
    obtain ⟨a, o, xs, n, rfl, ho, hc, hd⟩ := t v (by simp)
    rw [List.mapM_cons]
    refine wpAny_bind ?_
    rw [kas_first_eq]
    refine wpAny_bind (Looks.here (show Looks M s.heap (typeOf (.ref a)) o.cls from (Looks.ld ho).andThen .now) ?_)
    rw [hc, if_neg (by first | decide | simp)]
    refine wpAny_bind (listItems_at ho hd (wpAny_pure ?_))
    exact wpAny_bind (firsts_any vs (Q := fun bs s' => wpAny M A (pure (xs[0]? :: bs)) Q E s') (fun v hv => t v (by simp [hv])) fun fs => wpAny_pure (h _))
theorem kind0 {vs : List Value} {a : Addr} {o : Obj} {n : Nat} {Q : SortKind → Shared → Prop} (ho : s.heap.get? a = some o) (hc : o.cls = .type "tuple") (hd : o.data = .seq #[] n) (ht : ∀ v ∈ vs, TupV s.heap v) (h : Q oneType' s) : wpAny M A (keyKind' (Value.ref a :: vs).toArray) Q E s := by
  rw [kat_kind_eq, List.mapM_toArray, map_eq_pure_bind]
  refine wpAny_bind (wpAny_bind ?_)
  rw [List.mapM_cons]
  refine wpAny_bind ?_
  rw [kas_first_eq]
  refine wpAny_bind (Looks.here (show Looks M s.heap (typeOf (.ref a)) o.cls from (Looks.ld ho).andThen .now) ?_)
  rw [hc, if_neg (by first | decide | simp)]
  refine wpAny_bind (listItems_at ho hd (wpAny_pure ?_))
  refine wpAny_bind (firsts_any vs ht fun fs => wpAny_pure (wpAny_pure ?_))
  rw [if_neg (by simp), if_neg (by simp)]
  rw [oneTypeOnly'_eq, List.mapM_toArray, map_eq_pure_bind]
  refine wpAny_bind (wpAny_bind (wpAny_bind (kas_mapM (r := Value.type "tuple") _ (fun v hv Q' hq => ?_) (wpAny_pure ?_))))
  · have tv : TupV s.heap v := by
      rcases List.mem_cons.mp hv with rfl | hv
      · exact ⟨a, o, _, n, rfl, ho, hc, hd⟩
      · exact ht v hv
    obtain ⟨b, ob, xs, n', rfl, hb, hbc, hbd⟩ := tv
    refine Looks.here (show Looks M s.heap (typeOf (.ref b)) (.type "tuple") from hbc ▸ (Looks.ld hb).andThen .now) hq
  · have hall : ((List.map (fun _ => Value.type "tuple") (Value.ref a :: vs)).toArray.all fun x => x == Value.type "tuple") = true := by
      simp only [List.all_toArray, List.all_map, List.all_eq_true]
      intro _ _
      exact beq_self_eq_true _
    have h0 : (List.map (fun _ => Value.type "tuple") (Value.ref a :: vs)).toArray[0]? = some (Value.type "tuple") := by simp
    rw [h0]
    simp only [hall, if_true]
    exact wpAny_pure (wpAny_pure h)
end
section
variable {prog : Program} {w : World} {A : Around} {E : Value → Shared → Prop} {s : Shared}
theorem tupV_of {v : Value} {xs : List PyData} {as : List Addr} (r : Reads s.heap v (.tuple xs) as) : TupV s.heap v := by
  cases r with
  | tuple h1 h2 h3 h4 => exact ⟨_, _, _, _, rfl, h1, h2, h3⟩
/-- tuples of which the first is empty can be sorted -/
theorem sorts0 {vs : List Value} {ds : List PyData} (e : EachIs (fun v d => ∃ as, Reads s.heap v d as) vs (.tuple [] :: ds)) (hal : AllAlike (.tuple [] :: ds)) (ht : ∀ d ∈ ds, ∃ xs, d = .tuple xs) (hu : ∀ d, d ∈ PyData.tuple [] :: ds → A.units + d.depth < cLine) : SortsAt prog w A s (dataKind s.heap (.tuple [] :: ds)) vs := by
  have htt : ∀ d ∈ PyData.tuple [] :: ds, ∃ xs, d = .tuple xs := fun d hd => by
    rcases List.mem_cons.mp hd with rfl | hd
    · exact ⟨[], rfl⟩
    · exact ht d hd
  have room : ∀ {d d' : PyData}, d ∈ PyData.tuple [] :: ds → A.units + min d.depth d'.depth < cLine := fun {d d'} hd => Nat.lt_of_le_of_lt (Nat.add_le_add_left (Nat.min_le_left _ _) _) (hu d hd)
  refine ⟨fun v hv => ?_, ⟨oneType', ?_, fun hlen E Q hq => ?_⟩⟩
  · obtain ⟨d, hd, as, r⟩ := e.left v hv
    exact ⟨_, dataKind_some hal hd r⟩
  · intro E x y a b Q ha hb hq
    obtain ⟨d, as, hd, ra, rfl⟩ := dataKind_inv ha
    obtain ⟨d', as', hd', rb, rfl⟩ := dataKind_inv hb
    have hdd := hal d hd d' hd'
    have hroom := room (d' := d') hd
    obtain ⟨xs, rfl⟩ := htt d hd
    obtain ⟨ys, rfl⟩ := htt d' hd'
    rw [keyLt'_oneType]
    exact oneLt_tup ra rb hdd hroom hq
  · cases e with
    | @cons v _ vs _ r t =>
      obtain ⟨as, r⟩ := r
      cases r with
      | @tuple l o its n _ _ h1 h2 h3 h4 =>
        have hz : its = #[] := by
          have := ReadsAll.length _ _ _ h4
          simp at this
          exact this
        subst hz
        refine kind0 h1 h2 h3 (fun v hv => ?_) hq
        obtain ⟨d, hd, as, r⟩ := t.left v hv
        obtain ⟨xs, rfl⟩ := ht d hd
        exact tupV_of r
variable {β : Type} {vs : List Value} {bs : List β} {enc : β → PyData} {R : Value → β → Prop}
theorem sorted_data0 {l : Addr} {Q : Value → Shared → Prop} {ds : List PyData} (hl : s.heap.IsList l vs.toArray) (e : EachIs R vs bs) (er : EachIs (fun v b => ∃ as, Reads s.heap v (enc b) as) vs bs) (hal : AllAlike (bs.map enc)) (h0 : bs.map enc = .tuple [] :: ds) (ht : ∀ d ∈ ds, ∃ xs, d = .tuple xs) (hL : bs.length ≤ sizeLine)
    (hu : ∀ b, b ∈ bs → A.units + 2 + (enc b).depth < cLine) (h : ∀ out, out.length = bs.length → EachIs R out (bs.mergeSort (dataLe false enc)) → Q (.ref (s.heap.objs.size + 1)) { s with heap := sortedAll s.heap vs (List.toArray out) }) :
    wpAny (model prog w) A (call (.builtin "sorted") [.ref l]) Q E s := by
  have er' : EachIs (fun v b => ∃ as, Reads (sortingHeap (copyHeap s.heap vs) (s.heap.objs.size + 1) vs) v (enc b) as) vs bs := er.mono fun _ _ ⟨as, r⟩ => ⟨as, PyProof.Rows.Reads.keeps (fun _ _ => sorting_copy_old) r⟩
  have em := each_map (R := fun v d => ∃ as, Reads (sortingHeap (copyHeap s.heap vs) (s.heap.objs.size + 1) vs) v d as) enc er'
  have S : SortsAt prog w A.in1.in1 { s with heap := sortingHeap (copyHeap s.heap vs) (s.heap.objs.size + 1) vs } (dataKind (sortingHeap (copyHeap s.heap vs) (s.heap.objs.size + 1) vs) (bs.map enc)) vs := by
    have hb := bound_map (A := A.in1.in1) (bs := bs) (enc := enc) hu
    rw [h0] at em hal hb ⊢
    exact sorts0 (s := { s with heap := sortingHeap (copyHeap s.heap vs) (s.heap.objs.size + 1) vs }) em hal ht hb
  exact sorted_vals hl S (by rw [e.length]; exact hL) (h _ (by rw [sortVals_length false rfl]; exact e.length) (sortVals_data false e er' hal))
end
end MiS

namespace Mi
open PySem PySem.Spec PyProof.Rows L2 Classical
noncomputable def encD (m : Mem) (d : D) : PyData := (toPyX m 12 d).getD .none
structure ReadD (m : Mem) (xs : List D) : Prop where
  rd : ∀ x ∈ xs, ∃ y, toPyX m 12 x = some y
  dp : ∀ x ∈ xs, (encD m x).depth ≤ 20
structure SortOk (m : Mem) (xs : List D) : Prop where
  rd : ReadD m xs
  al : PySem.W.AllAlike (xs.map (encD m))
  so : PySem.W.Sortable (xs.map (encD m)) ∨ ∃ ds, xs.map (encD m) = .tuple [] :: ds ∧ ∀ d ∈ ds, ∃ ys, d = .tuple ys
noncomputable def sortD (m : Mem) (xs : List D) : List D := xs.mergeSort (PySem.W.dataLe false (encD m))
noncomputable def dSortD (ds : List D) (m : Mem) : R D := match ds with
  | [.ref n] => match m[n]? with
    | some (.lst xs) => if SortOk m xs then .ok (.ref m.length) (m ++ [.lst (sortD m xs)]) else .bad
    | _ => .bad
  | _ => .bad
section
variable {X : Cx} {pins : List (Addr × Obj)} {σ : L2.St} {H : Hp} {s : Shared} {p : List Addr} {m : Mem}
def RVD (X : Cx) (p : List Addr) (H : Hp) (v : Value) (d : D) : Prop := ∃ x : V, RelV x v ∧ RD (gx X) p H d x
theorem each_rv : ∀ {xs : List D} {ws : List V} {its : List Value}, RDs (gx X) p H xs ws → Vals ws its → PySem.W.EachIs (RVD X p H) its xs
  | [], _, _, .nil, .nil => .nil
  | _ :: _, _, _, .cons r t, .cons r2 t2 => .cons ⟨_, r2, r⟩ (each_rv t t2)
theorem each_back : ∀ {xs : List D} {its : List Value}, PySem.W.EachIs (RVD X p H) its xs → ∃ ws : List V, RDs (gx X) p H xs ws ∧ Vals ws its
  | _, _, .nil => ⟨[], .nil, .nil⟩
  | _, _, .cons ⟨x, r, r2⟩ t => by
    obtain ⟨ws, a, b⟩ := each_back t
    exact ⟨x :: ws, .cons r2 a, .cons r b⟩
theorem each_reads (I : Inv X pins σ H s) (k : Ok (gx X) p m H) : ∀ {xs : List D} {ws : List V} {its : List Value}, RDs (gx X) p H xs ws → Vals ws its → (∀ x ∈ xs, ∃ y, toPyX m 12 x = some y) → PySem.W.EachIs (fun v d => ∃ as, Reads s.heap v (encD m d) as) its xs
  | [], _, _, .nil, .nil, _ => .nil
  | x :: xs, _, _, .cons r t, .cons r2 t2, h => by
    obtain ⟨y, hy⟩ := h x (by simp)
    obtain ⟨as, ha, _⟩ := reads_x I k 12 x _ _ y r hy r2
    refine .cons ⟨as, ?_⟩ (each_reads I k t t2 fun z hz => h z (by simp [hz]))
    unfold encD
    rw [hy]
    exact ha
theorem cd_sortD (hu : X.A.units + 64 < cLine) : CallR X (.builtin "sorted") (rdC (gx X) dSortD) := by
  intro pins s σ H vs us Q I r h
  obtain ⟨p, m, ds, ok, rd, q⟩ := h
  unfold dSortD at q
  split at q
  · rename_i n
    split at q
    · rename_i xs hx
      split at q
      · rename_i so
        cases rd with
        | cons r1 rt =>
          cases rt
          cases r1 with
          | @ref _ a pa =>
            obtain ⟨ws, hws, rv⟩ := ok.ob n a _ pa hx
            obtain ⟨its, rv', hl, hz⟩ := I.list (xs := ws) (.inl (.inl hws))
            obtain ⟨u, rfl, ru⟩ := vals1 r
            obtain rfl : u = Value.ref a := ru
            have e := each_rv rv rv'
            have er := each_reads I ok rv rv' so.rd.rd
            have hlen : xs.length ≤ sizeLine := by rw [rv.length]; exact hz
            have hub : ∀ b, b ∈ xs → X.A.units + 2 + (encD m b).depth < cLine := fun b hb => by
              have := so.rd.dp b hb
              omega
            have fin : ∀ out : List Value, out.length = xs.length → PySem.W.EachIs (RVD X p H) out (xs.mergeSort (PySem.W.dataLe false (encD m))) → (fun v s' => ∃ x H', Inv X pins σ H' s' ∧ RelV x v ∧ Q x H') (.ref (s.heap.objs.size + 1)) { s with heap := sortedAll s.heap its (List.toArray out) } := by
              intro out ho1 ho2
              obtain ⟨ws', rz, hv⟩ := each_back ho2
              have hd : s.heap.objs.size ≤ s.heap.objs.size + 1 := Nat.le_succ _
              have hfree := I.hok.fresh hd
              obtain ⟨n', hn'⟩ := sortedAll_at s.heap its (List.toArray out)
              have z := new_lst ok rz hfree
              refine ⟨.ref (s.heap.objs.size + 1), upd H (s.heap.objs.size + 1) (.lst ws'), I.laid (t' := s.toks) (fun b o e => sortedAll_old e) hd ⟨?_, out, n', hv, hn'⟩, rfl, q _ _ _ z.1 z.2⟩
              rw [hv.length, ho1]
              exact hlen
            rcases so.so with hk | ⟨ds, h0, ht⟩
            · exact PySem.W.sorted_data hl.isList e er so.al hk hlen hub fin
            · exact MiS.sorted_data0 hl.isList e er so.al h0 ht hlen hub fin
      · exact q.elim
    · exact q.elim
  · exact q.elim
/-! min of a list -/
structure MinOk (m : Mem) (xs : List D) : Prop where
  ne : xs ≠ []
  rd : ReadD m xs
  al : PySem.W.AlikeAll (xs.map (encD m))
  dp : PyData.depthAll (xs.map (encD m)) ≤ 20
  inj : ∀ x ∈ xs, ∀ y ∈ xs, encD m x = encD m y → x = y
noncomputable def minDD (m : Mem) : List D → D
  | [] => .non
  | x :: xs => xs.foldl (fun a y => if PySem.W.dataLt (encD m y) (encD m a) then y else a) x
theorem min_enc (m : Mem) : ∀ (xs : List D) (x : D), encD m (xs.foldl (fun a y => if PySem.W.dataLt (encD m y) (encD m a) then y else a) x) = PySem.W.minD (encD m x) (xs.map (encD m)) ∧ xs.foldl (fun a y => if PySem.W.dataLt (encD m y) (encD m a) then y else a) x ∈ x :: xs
  | [], x => ⟨rfl, by simp⟩
  | y :: xs, x => by
    obtain ⟨h1, h2⟩ := min_enc m xs (if PySem.W.dataLt (encD m y) (encD m x) then y else x)
    constructor
    · rw [List.foldl_cons, h1]
      unfold PySem.W.minD
      rw [List.map_cons, List.foldl_cons]
      congr 1
      split <;> rfl
    · rw [List.foldl_cons]
      rcases List.mem_cons.mp h2 with h2 | h2
      · rw [h2]
        split <;> simp
      · simp [h2]
noncomputable def dMinD (ds : List D) (m : Mem) : R D := match ds with
  | [.ref n] => match m[n]? with
    | some (.lst xs) => if MinOk m xs then .ok (minDD m xs) m else .bad
    | _ => .bad
  | _ => .bad
theorem cd_minD (hc : X.calm = true) (hu : X.A.units + 64 < cLine) : CallR X (.builtin "min") (rdC (gx X) dMinD) := by
  intro pins s σ H vs us Q I r h
  obtain ⟨p, m, ds, ok, rd, q⟩ := h
  unfold dMinD at q
  split at q
  · rename_i n
    split at q
    · rename_i xs hx
      split at q
      · rename_i so
        cases rd with
        | cons r1 rt =>
          cases rt
          cases r1 with
          | @ref _ a pa =>
            obtain ⟨ws, hws, rv⟩ := ok.ob n a _ pa hx
            obtain ⟨its, rv', hl, hz⟩ := I.list (xs := ws) (.inl (.inl hws))
            obtain ⟨u, rfl, ru⟩ := vals1 r
            obtain rfl : u = Value.ref a := ru
            have er := each_reads I ok rv rv' so.rd.rd
            obtain ⟨as, hra⟩ := PySem.W.each_readsAll (encD m) er
            obtain ⟨x, xs', rfl⟩ : ∃ x xs', xs = x :: xs' := by
              cases xs with
              | nil => exact absurd rfl so.ne
              | cons x xs' => exact ⟨x, xs', rfl⟩
            have hd := so.dp
            have ha := so.al
            rw [List.map_cons] at hra hd ha
            refine PySem.W.min_list_data (I.ok.hd hc) hl.isList (by simpa using hra) ha (by omega) fun i v h' tk bs hi hr hk => ?_
            have hi' : its[i]? = some v := by simpa using hi
            obtain ⟨d, hd1, y, hy, hyd⟩ : ∃ d, (x :: xs')[i]? = some d ∧ ∃ y, ws[i]? = some y ∧ RD (gx X) p H d y := by
              have hlt : i < its.length := (List.getElem?_eq_some_iff.mp hi').1
              have hlt2 : i < ws.length := by rw [rv'.length]; exact hlt
              obtain ⟨d, e1, e2⟩ := rv.getV (List.getElem?_eq_getElem hlt2)
              exact ⟨d, e1, _, List.getElem?_eq_getElem hlt2, e2⟩
            have hrel : RelV y v := by
              obtain ⟨u, e1, e2⟩ := rv'.get hy
              rw [hi'] at e1
              cases e1
              exact e2
            have hmem : d ∈ x :: xs' := List.mem_of_getElem? hd1
            obtain ⟨yy, hyy⟩ := so.rd.rd d hmem
            obtain ⟨as2, hr2, _⟩ := reads_x I ok 12 d _ _ yy hyd hyy hrel
            have hr3 : Reads h' v (encD m d) as2 := by
              unfold encD
              rw [hyy]
              exact PySem.W.reads_keeps hk hr2
            have hmin := min_enc m xs' x
            have hal2 : PySem.W.alike (encD m d) (PySem.W.minD (encD m x) (xs'.map (encD m))) = true := by
              rw [← hmin.1]
              exact so.al.1 _ (List.mem_map_of_mem hmem) _ (List.mem_map_of_mem hmin.2)
            have he := PySem.W.alike_unique _ _ _ _ _ hal2 hr3 hr
            rw [← hmin.1] at he
            have hdm : d = minDD m (x :: xs') := so.inj d hmem _ hmin.2 he
            rw [← hdm] at q
            exact ⟨y, H, I.kept (t' := tk) hk, hrel, q p H y (Ext.refl ok) hyd⟩
      · exact q.elim
    · exact q.elim
  · exact q.elim
end
end Mi
namespace Mi
open PySem PySem.Spec PyProof.Rows L2 Classical
/-! ### what comes out, by what is wanted of it -/
def R.post {α : Type} (r : R α) (Q : α → Mem → Prop) : Prop := match r with
  | .ok a m => Q a m
  | _ => False
def RS.post (r : RS) (N : En → Mem → Prop) (T : D → Mem → Prop) : Prop := match r with
  | .nx e m => N e m
  | .rt d m => T d m
  | _ => False
theorem R.post.mono {α : Type} {r : R α} {Q Q' : α → Mem → Prop} (h : r.post Q) (k : ∀ a m, Q a m → Q' a m) : r.post Q' := by
  cases r with
  | ok a m => exact k a m h
  | exc c m => exact h
  | bad => exact h
theorem RS.post.mono {r : RS} {N N' : En → Mem → Prop} {T T' : D → Mem → Prop} (h : r.post N T) (k : ∀ a m, N a m → N' a m) (k2 : ∀ a m, T a m → T' a m) : r.post N' T' := by
  cases r with
  | nx a m => exact k a m h
  | rt a m => exact k2 a m h
  | bk a m => exact h
  | ct a m => exact h
  | exc c e m => exact h
  | bad => exact h
theorem R.post.ex {α : Type} {r : R α} {Q : α → Mem → Prop} (h : r.post Q) : ∃ a m, r = .ok a m ∧ Q a m := by
  cases r with
  | ok a m => exact ⟨a, m, rfl, h⟩
  | exc c m => exact h.elim
  | bad => exact h.elim
section
variable {α β : Type} {Q : D → Mem → Prop} {N : En → Mem → Prop} {T : D → Mem → Prop} {e : En} {m : Mem}
@[simp] theorem post_ok (a : α) (m : Mem) (Q : α → Mem → Prop) : (R.ok a m).post Q ↔ Q a m := Iff.rfl
@[simp] theorem post_bad (Q : α → Mem → Prop) : (R.bad : R α).post Q ↔ False := Iff.rfl
@[simp] theorem post_exc (c : Str) (m : Mem) (Q : α → Mem → Prop) : (R.exc c m : R α).post Q ↔ False := Iff.rfl
@[simp] theorem post_bind (r : R α) (f : α → Mem → R β) (Q : β → Mem → Prop) : (r.bind f).post Q ↔ r.post fun a m => (f a m).post Q := by cases r <;> exact Iff.rfl
@[simp] theorem post_calm (r : R α) (Q : α → Mem → Prop) : r.calm.post Q ↔ r.post Q := by cases r <;> exact Iff.rfl
@[simp] theorem post_ite (c : Prop) [Decidable c] (a b : R α) (Q : α → Mem → Prop) : (if c then a else b).post Q ↔ if c then a.post Q else b.post Q := by split <;> exact Iff.rfl
@[simp] theorem spost_nx (e : En) (m : Mem) : (RS.nx e m).post N T ↔ N e m := Iff.rfl
@[simp] theorem spost_rt (d : D) (m : Mem) : (RS.rt d m).post N T ↔ T d m := Iff.rfl
@[simp] theorem spost_bad : (RS.bad).post N T ↔ False := Iff.rfl
@[simp] theorem spost_go (r : R α) (e : En) (f : α → Mem → RS) : (r.go e f).post N T ↔ r.post fun a m => (f a m).post N T := by cases r <;> exact Iff.rfl
@[simp] theorem spost_ite (c : Prop) [Decidable c] (a b : RS) : (if c then a else b).post N T ↔ if c then a.post N T else b.post N T := by split <;> exact Iff.rfl
@[simp] theorem w_var (i : Nat) : (mVar i e m).post Q ↔ (match e[i]? with | some (some d) => Q d m | _ => False) := by
  unfold mVar
  split <;> simp_all
@[simp] theorem w_c (d : D) : (mC d e m).post Q ↔ Q d m := Iff.rfl
@[simp] theorem w_op (f : D → D → M D) (a b : ME) : (mOp f a b e m).post Q ↔ (a e m).post fun x m1 => (b e m1).post fun y m2 => (f x y m2).post Q := by simp [mOp]
@[simp] theorem w_un (f : D → M D) (a : ME) : (mUn f a e m).post Q ↔ (a e m).post fun x m1 => (f x m1).post Q := by simp [mUn]
@[simp] theorem w_nil (Q : List D → Mem → Prop) : (mNil e m).post Q ↔ Q [] m := Iff.rfl
@[simp] theorem w_cons (a : ME) (b : MA) (Q : List D → Mem → Prop) : (mCons a b e m).post Q ↔ (a e m).post fun x m1 => (b e m1).post fun xs m2 => Q (x :: xs) m2 := by simp [mCons]
@[simp] theorem w_tup (a : MA) : (mTup a e m).post Q ↔ (a e m).post fun xs m1 => xs.length ≤ 1000000 ∧ Q (.tup xs) m1 := by simp [mTup]
@[simp] theorem w_lst (a : MA) : (mLst a e m).post Q ↔ (a e m).post fun xs m1 => xs.length ≤ 1000000 ∧ Q (.ref m1.length) (m1 ++ [.lst xs]) := by simp [mLst]
@[simp] theorem w_cb (f : List D → M D) (a : MA) : (mCB f a e m).post Q ↔ (a e m).post fun xs m1 => (f xs m1).post Q := by simp [mCB]
@[simp] theorem w_call (n : Nat) (f : List D → M D) (a : MA) : (mCall n f a e m).post Q ↔ (a e m).post fun xs m1 => xs.length = n ∧ (f xs m1).post Q := by simp [mCall]
@[simp] theorem w_tru (a : ME) (Q : Bool → Mem → Prop) : (mTru a e m).post Q ↔ (a e m).post fun x m1 => (dTruth x m1).post Q := by simp [mTru]
@[simp] theorem w_B (a : ME) (Q : Bool → Mem → Prop) : (mB a e m).post Q ↔ (a e m).post fun x m1 => (dB x m1).post Q := by simp [mB]
@[simp] theorem w_chain (f f' : D → D → M D) (a b c : ME) : (mChain f f' a b c e m).post Q ↔ (a e m).post fun x m1 => (b e m1).post fun y m2 => (f x y m2).post fun z m3 => (match z with | .bl true => (c e m3).post fun w m4 => (f' y w m4).post Q | .bl false => Q (.bl false) m3 | _ => False) := by
  simp only [mChain, post_bind, post_calm]
  constructor <;> (intro h; refine h.mono fun x m1 h => h.mono fun y m2 h => h.mono fun z m3 h => ?_) <;> (split at h <;> simp_all)
@[simp] theorem w_and (a b : MT) (Q : Bool → Mem → Prop) : (mAnd a b e m).post Q ↔ (a e m).post fun x m1 => if x = true then (b e m1).post Q else Q false m1 := by simp [mAnd]
@[simp] theorem w_or (a b : MT) (Q : Bool → Mem → Prop) : (mOr a b e m).post Q ↔ (a e m).post fun x m1 => if x = true then Q true m1 else (b e m1).post Q := by simp [mOr]
@[simp] theorem w_not (a : MT) (Q : Bool → Mem → Prop) : (mNot a e m).post Q ↔ (a e m).post fun x m1 => Q (!x) m1 := by simp [mNot]
@[simp] theorem w_yes (Q : Bool → Mem → Prop) : (mYes e m).post Q ↔ Q true m := Iff.rfl
@[simp] theorem w_andT (a b : ME) : (mAndT a b e m).post Q ↔ (a e m).post fun x m1 => (dTruth x m1).post fun c m2 => if c = true then (b e m2).post Q else Q x m2 := by simp [mAndT]
@[simp] theorem w_orT (a b : ME) : (mOrT a b e m).post Q ↔ (a e m).post fun x m1 => (dTruth x m1).post fun c m2 => if c = true then Q x m2 else (b e m2).post Q := by simp [mOrT]
@[simp] theorem w_notT (a : ME) : (mNotT a e m).post Q ↔ (a e m).post fun x m1 => (dTruth x m1).post fun c m2 => Q (.bl (!c)) m2 := by simp [mNotT]
@[simp] theorem w_ifE (t : MT) (a b : ME) : (mIfE t a b e m).post Q ↔ (t e m).post fun x m1 => if x = true then (a e m1).post Q else (b e m1).post Q := by simp [mIfE]
@[simp] theorem w_isi (cs : List String) (a : ME) : (mIsi cs a e m).post Q ↔ (a e m).post fun d m1 => (dIsi cs d m1).post Q := by simp [mIsi]
@[simp] theorem w_next : (sNext e m).post N T ↔ N e m := Iff.rfl
@[simp] theorem w_seq (a b : MS) : (sSeq a b e m).post N T ↔ (a e m).post (fun e' m' => (b e' m').post N T) T := by
  unfold sSeq
  cases h : a e m <;> simp [RS.post]
@[simp] theorem w_drop (a : ME) : (sDrop a e m).post N T ↔ (a e m).post fun _ m1 => N e m1 := by simp [sDrop]
@[simp] theorem w_ret (a : ME) : (sRet a e m).post N T ↔ (a e m).post T := by simp [sRet]
@[simp] theorem w_never : (sNever e m).post N T ↔ False := Iff.rfl
@[simp] theorem w_if (t : MT) (a b : MS) : (sIf t a b e m).post N T ↔ (t e m).post fun c m1 => if c = true then (a e m1).post N T else (b e m1).post N T := by simp [sIf]
theorem w_asg (a : ME) (t : MG) : (sAsg a t e m).post N T ↔ (a e m).post fun d m1 => (t d e m1).post N := by
  simp only [sAsg, spost_go]
  constructor <;> (intro h; refine h.mono fun d m1 h => ?_) <;> (cases hh : t d e m1 <;> simp_all [RS.post, R.post])
@[simp] theorem w_set (a : ME) (i : Nat) : (sAsg a (gSet i) e m).post N T ↔ (a e m).post fun d m1 => N (e.set i (some d)) m1 := by rw [w_asg]; exact Iff.rfl
@[simp] theorem w_gset (i : Nat) (d : D) : (gSet i d e m).post N ↔ N (e.set i (some d)) m := Iff.rfl
@[simp] theorem w_par (i j : Nat) (a : MA) : (sPar i j a e m).post N T ↔ (a e m).post fun ds m1 => (match ds with | [d, d'] => N ((e.set i (some d)).set j (some d')) m1 | _ => False) := by
  simp only [sPar, spost_go]
  constructor <;> (intro h; refine h.mono fun ds m1 h => ?_) <;> (split at h <;> simp_all)
@[simp] theorem w_par3 (i j l : Nat) (a : MA) : (sPar3 i j l a e m).post N T ↔ (a e m).post fun ds m1 => (match ds with | [d, d', d''] => N (((e.set i (some d)).set j (some d')).set l (some d'')) m1 | _ => False) := by
  simp only [sPar3, spost_go]
  constructor <;> (intro h; refine h.mono fun ds m1 h => ?_) <;> (split at h <;> simp_all)
@[simp] theorem w_aug (i : Nat) (f : D → D → M D) (a : ME) : (sAug i f a e m).post N T ↔ (match e[i]? with | some (some x) => (a e m).post fun y m1 => (f x y m1).post fun z m2 => N (e.set i (some z)) m2 | _ => False) := by
  unfold sAug
  cases hi : e[i]? with
  | none => simp
  | some o => cases o with
    | none => simp
    | some x =>
      simp only [spost_go]
      constructor <;> (intro h; refine h.mono fun d m1 h => ?_) <;> (cases hh : f x d m1 <;> simp_all [RS.post, R.post])
theorem w_run (n : Nat) (b : MS) (ds : List D) : (runM n b ds m).post Q ↔ (b (ds.map some ++ List.replicate (n - ds.length) none) m).post (fun _ m' => Q .non m') Q := by
  unfold runM
  cases h : b (ds.map some ++ List.replicate (n - ds.length) none) m <;> simp [RS.post]
@[simp] theorem w_tupT (n : Nat) (f : MGs) (ds : List D) : (gTupM n f (.tup ds) e m).post N ↔ ds.length = n ∧ (f ds e m).post N := by simp [gTupM]
@[simp] theorem w_gcons (a : MG) (b : MGs) (d : D) (ds : List D) : (gConsM a b (d :: ds) e m).post N ↔ (a d e m).post fun e1 m1 => (b ds e1 m1).post N := by simp [gConsM]
@[simp] theorem w_gnil : (gNilM [] e m).post N ↔ N e m := Iff.rfl
@[simp] theorem w_lc (f : MI) (pt : Pat) (t : MT) (x : ME) (vs : List Nat) : (mLc f pt t x vs e m).post Q ↔ (f e m).post fun w m1 => (lcL w.gd pt t x (wipeM e vs) w.its [] m1).post fun ys m2 => Q (.ref m2.length) (m2 ++ [.lst ys]) := by simp [mLc]
@[simp] theorem w_for (f : MI) (t : MG) (b : MS) : (sFor f t b e m).post N T ↔ (f e m).post fun w m1 => (forL w.gd t b w.its e m1).post N T := by simp [sFor]
@[simp] theorem w_iseq (a : ME) (Q : Wk → Mem → Prop) : (iSeq a e m).post Q ↔ (a e m).post fun d m1 => (dSeq d m1).post Q := by simp [iSeq]
@[simp] theorem w_irng1 (a : MA) (Q : Wk → Mem → Prop) : (Mi.iRng1 a e m).post Q ↔ (a e m).post fun d m1 => (dRng1 d m1).post Q := by simp [Mi.iRng1]
@[simp] theorem w_izip (a : MA) (Q : Wk → Mem → Prop) : (iZipM a e m).post Q ↔ (a e m).post fun d m1 => (dZip d m1).post Q := by simp [iZipM]
@[simp] theorem w_ienum (a : MA) (Q : Wk → Mem → Prop) : (iEnumM a e m).post Q ↔ (a e m).post fun d m1 => (dEnum d m1).post Q := by simp [iEnumM]
@[simp] theorem w_cut (a : ME) (lo hi : MO) : (mCut a lo hi e m).post Q ↔ (a e m).post fun d m1 => (lo e m1).post fun l m2 => (hi e m2).post fun h m3 => (dCut d l h m3).post Q := by simp [mCut]
@[simp] theorem w_ono (Q : Option Int → Mem → Prop) : (oNone e m).post Q ↔ Q none m := Iff.rfl
@[simp] theorem w_osome (a : ME) (Q : Option Int → Mem → Prop) : (oSome a e m).post Q ↔ (a e m).post fun d m1 => (match d with | .int i => Q (some i) m1 | _ => False) := by
  simp only [oSome, post_bind]
  constructor <;> (intro h; refine h.mono fun ds m1 h => ?_) <;> (split at h <;> simp_all)
@[simp] theorem w_mtL (f : D → List D → M D) (o : ME) (a : MA) : (mMtL f o a e m).post Q ↔ (o e m).post fun d m1 => listAt d m1 = true ∧ (a e m1).post fun ds m2 => (f d ds m2).post Q := by simp [mMtL]
@[simp] theorem w_item (o i : ME) (d : D) : (gItem o i d e m).post N ↔ (o e m).post fun x m1 => (i e m1).post fun y m2 => (dSetItem x y d m2).post fun _ m3 => N e m3 := by
  simp only [gItem, post_bind, post_calm]
  constructor <;> (intro h; refine h.mono fun x m1 h => h.mono fun y m2 h => ?_) <;> (cases hh : dSetItem x y d m2 <;> simp_all [R.post])
theorem w_forL_nil (gd : Mem → Prop) (t : MG) (b : MS) : (forL gd t b [] e m).post N T ↔ gd m ∧ N e m := by simp [forL]
theorem w_forL_cons (gd : Mem → Prop) (t : MG) (b : MS) (d : D) (ds : List D) : (forL gd t b (d :: ds) e m).post N T ↔ gd m ∧ (t d e m).post fun e1 m1 => (match b e1 m1 with | .nx e2 m2 => (forL gd t b ds e2 m2).post N T | .ct e2 m2 => (forL gd t b ds e2 m2).post N T | .bk e2 m2 => N e2 m2 | .rt d m => T d m | _ => False) := by
  rw [forL]
  by_cases h : gd m
  · simp only [h, if_true, true_and]
    cases h1 : t d e m with
    | bad => simp
    | exc c m1 => simp [RS.post, R.post]
    | ok e1 m1 =>
      simp only [post_ok]
      cases h2 : b e1 m1 <;> simp [RS.post]
  · simp [h]
/-- a loop by what holds between its turns -/
theorem forL_inv {gd : Mem → Prop} {t : MG} {b : MS} (Iv : List D → En → Mem → Prop) : ∀ (ds : List D) (e : En) (m : Mem), Iv ds e m → (∀ e m, Iv [] e m → gd m ∧ N e m) →
    (∀ d ds e m, Iv (d :: ds) e m → gd m ∧ (t d e m).post fun e1 m1 => (b e1 m1).post (fun e2 m2 => Iv ds e2 m2) T) → (forL gd t b ds e m).post N T
  | [], e, m, h, h0, hs => (w_forL_nil gd t b).mpr (h0 e m h)
  | d :: ds, e, m, h, h0, hs => by
    obtain ⟨g, q⟩ := hs d ds e m h
    refine (w_forL_cons gd t b d ds).mpr ⟨g, q.mono fun e1 m1 q1 => ?_⟩
    cases h2 : b e1 m1 with
    | nx e2 m2 => rw [h2] at q1; exact forL_inv Iv ds e2 m2 q1 h0 hs
    | rt d2 m2 => rw [h2] at q1; exact q1
    | ct e2 m2 => rw [h2] at q1; exact q1.elim
    | bk e2 m2 => rw [h2] at q1; exact q1.elim
    | exc c e2 m2 => rw [h2] at q1; exact q1.elim
    | bad => rw [h2] at q1; exact q1.elim
/-- a comprehension by what holds between its turns -/
theorem lcL_inv {gd : Mem → Prop} {pt : Pat} {t : MT} {x : ME} {e : En} {Q : List D → Mem → Prop} (Iv : List D → List D → Mem → Prop) : ∀ (ds acc : List D) (m : Mem), Iv ds acc m → (∀ acc m, Iv [] acc m → gd m ∧ Q acc m) →
    (∀ d ds acc m, Iv (d :: ds) acc m → gd m ∧ ∃ e1, patM pt d e = some e1 ∧ (t e1 m).post fun b m1 => if b = true then (x e1 m1).post fun y m2 => acc.length < 1000000 ∧ Iv ds (acc ++ [y]) m2 else Iv ds acc m1) → (lcL gd pt t x e ds acc m).post Q
  | [], acc, m, h, h0, hs => by
    obtain ⟨g, q⟩ := h0 acc m h
    simp only [lcL, g, if_true, post_ok]
    exact q
  | d :: ds, acc, m, h, h0, hs => by
    obtain ⟨g, e1, hp, q⟩ := hs d ds acc m h
    simp only [lcL, g, if_true, hp, post_bind, post_calm]
    refine q.mono fun b m1 q => ?_
    cases b with
    | true =>
      simp only [if_true, post_bind, post_calm] at q ⊢
      refine q.mono fun y m2 q => ?_
      simp only [q.1, if_true]
      exact lcL_inv Iv ds (acc ++ [y]) m2 q.2 h0 hs
    | false =>
      simp only [Bool.false_eq_true, if_false] at q ⊢
      exact lcL_inv Iv ds acc m1 q h0 hs
theorem w_while (t : MT) (b : MS) (n : Nat) : (sWhile t b (n + 1) e m).post N T ↔ (t e m).post fun c m1 => if c = true then (match b e m1 with | .nx e2 m2 => (sWhile t b n e2 m2).post N T | .ct e2 m2 => (sWhile t b n e2 m2).post N T | .bk e2 m2 => N e2 m2 | .rt d m => T d m | _ => False) else N e m1 := by
  simp only [sWhile, spost_go]
  constructor <;> (intro h; refine h.mono fun c m1 h => ?_) <;> (cases c <;> simp_all) <;> (cases hb : b e m1 <;> simp_all [RS.post])
/-- a while by a measure -/
theorem while_inv {t : MT} {b : MS} (Iv : Nat → En → Mem → Prop) (hs : ∀ k e m, Iv k e m → (t e m).post fun c m1 => if c = true then ∃ k', k = k' + 1 ∧ (b e m1).post (fun e2 m2 => Iv k' e2 m2) T else N e m1) : ∀ (n k : Nat) (e : En) (m : Mem), k < n → Iv k e m → (sWhile t b n e m).post N T
  | 0, _, _, _, h, _ => by omega
  | n + 1, k, e, m, h, hi => by
    rw [w_while]
    refine (hs k e m hi).mono fun c m1 q => ?_
    cases c with
    | false => simpa using q
    | true =>
      simp only [if_true] at q ⊢
      obtain ⟨k', rfl, q⟩ := q
      cases hb : b e m1 with
      | nx e2 m2 => rw [hb] at q; exact while_inv Iv hs n k' e2 m2 (by omega) q
      | rt d m => rw [hb] at q; exact q
      | ct e2 m2 => rw [hb] at q; exact q.elim
      | bk e2 m2 => rw [hb] at q; exact q.elim
      | exc c e2 m2 => rw [hb] at q; exact q.elim
      | bad => rw [hb] at q; exact q.elim
end
end Mi
namespace Mi
open PySem PySem.Spec PyProof.Rows L2 Classical
/-! ### operations at known data -/
section
variable {Q : D → Mem → Prop} {m : Mem}
@[simp] theorem q_add (i j : Int) : (dAdd (.int i) (.int j) m).post Q ↔ Q (.int (i + j)) m := Iff.rfl
@[simp] theorem q_sub (i j : Int) : (dSub (.int i) (.int j) m).post Q ↔ Q (.int (i - j)) m := by simp [dSub, dI2, CTrue]
@[simp] theorem q_mul (i j : Int) : (dMul (.int i) (.int j) m).post Q ↔ CMul i j ∧ Q (.int (i * j)) m := by simp [dMul, dI2]
@[simp] theorem q_div (i j : Int) : (dDiv (.int i) (.int j) m).post Q ↔ CDivW i j ∧ Q (.int (i / j)) m := by simp [dDiv, dI2]
@[simp] theorem q_mod (i j : Int) : (dMod (.int i) (.int j) m).post Q ↔ 0 < j ∧ Q (.int (i % j)) m := by
  show (if CPos i j then R.ok (D.int (i % j)) m else R.bad).post Q ↔ _
  rw [post_ite]
  by_cases h : 0 < j
  · rw [if_pos (show CPos i j from h)]
    simp [h]
  · rw [if_neg (show ¬ CPos i j from h)]
    simp [h]
@[simp] theorem q_pow (i j : Int) : (dPow (.int i) (.int j) m).post Q ↔ CPow i j ∧ Q (.int (i ^ j.toNat)) m := by simp [dPow, dI2]
@[simp] theorem q_lt (i j : Int) : (dLt (.int i) (.int j) m).post Q ↔ Q (.bl (decide (i < j))) m := Iff.rfl
@[simp] theorem q_le (i j : Int) : (dLe (.int i) (.int j) m).post Q ↔ Q (.bl (decide (i ≤ j))) m := Iff.rfl
@[simp] theorem q_gt (i j : Int) : (dGt (.int i) (.int j) m).post Q ↔ Q (.bl (decide (j < i))) m := Iff.rfl
@[simp] theorem q_ge (i j : Int) : (dGe (.int i) (.int j) m).post Q ↔ Q (.bl (decide (j ≤ i))) m := Iff.rfl
@[simp] theorem q_neg (i : Int) : (dNeg (.int i) m).post Q ↔ Q (.int (-i)) m := Iff.rfl
theorem shaped_int (i : Int) : SeqAt.shaped (.int i) = true := by rfl
theorem shaped_bool (i : Bool) : SeqAt.shaped (.bool i) = true := by rfl
@[simp] theorem q_eqI (i j : Int) : (dEq (.int i) (.int j) m).post Q ↔ Q (.bl (i == j)) m := by
  simp [dEq, dEqB, toPy, shaped_int, PyData.eqv]
@[simp] theorem q_neI (i j : Int) : (dNe (.int i) (.int j) m).post Q ↔ Q (.bl (!(i == j))) m := by
  simp [dNe, dEqB, toPy, shaped_int, PyData.eqv]
@[simp] theorem q_eqB (i j : Bool) : (dEq (.bl i) (.bl j) m).post Q ↔ Q (.bl (i == j)) m := by
  simp [dEq, dEqB, toPy, shaped_bool, PyData.eqv]
@[simp] theorem q_neB (i j : Bool) : (dNe (.bl i) (.bl j) m).post Q ↔ Q (.bl (!(i == j))) m := by
  simp [dNe, dEqB, toPy, shaped_bool, PyData.eqv]
@[simp] theorem q_trI (i : Int) (Q : Bool → Mem → Prop) : (dTruth (.int i) m).post Q ↔ Q (i != 0) m := Iff.rfl
@[simp] theorem q_trB (b : Bool) (Q : Bool → Mem → Prop) : (dTruth (.bl b) m).post Q ↔ Q b m := Iff.rfl
@[simp] theorem q_B (b : Bool) (Q : Bool → Mem → Prop) : (dB (.bl b) m).post Q ↔ Q b m := Iff.rfl
@[simp] theorem q_isN (d : D) : (dIsN d .non m).post Q ↔ Q (.bl (isNon d)) m := Iff.rfl
@[simp] theorem q_notN (d : D) : (dNotN d .non m).post Q ↔ Q (.bl (!isNon d)) m := Iff.rfl
@[simp] theorem q_intI (i : Int) : (dInt [.int i] m).post Q ↔ Q (.int i) m := Iff.rfl
@[simp] theorem q_intB (b : Bool) : (dInt [.bl b] m).post Q ↔ Q (.int (if b then 1 else 0)) m := Iff.rfl
@[simp] theorem q_max2 (i j : Int) : (dMax2 [.int i, .int j] m).post Q ↔ Q (.int (if j > i then j else i)) m := Iff.rfl
@[simp] theorem q_min2 (i j : Int) : (dMin2 [.int i, .int j] m).post Q ↔ Q (.int (if j < i then j else i)) m := Iff.rfl
@[simp] theorem q_lenT (xs : List D) : (dLen [.tup xs] m).post Q ↔ Q (.int xs.length) m := Iff.rfl
@[simp] theorem q_lenF (xs : List D) : (dLen [.fro xs] m).post Q ↔ Q (.int xs.length) m := Iff.rfl
theorem q_lenR {n : Nat} {xs : List D} (h : m[n]? = some (.lst xs)) : (dLen [.ref n] m).post Q ↔ Q (.int xs.length) m := by simp [dLen, h]
@[simp] theorem q_ixT (xs : List D) (i : Int) : (dIx (.tup xs) (.int i) m).post Q ↔ ∃ x, atI xs i = some x ∧ Q x m := by
  simp only [dIx, seqOf]
  cases h : atI xs i <;> simp
@[simp] theorem q_ixF (xs : List D) (i : Int) : (dIx (.fro xs) (.int i) m).post Q ↔ ∃ x, atI xs i = some x ∧ Q x m := by
  simp only [dIx, seqOf]
  cases h : atI xs i <;> simp
theorem q_ixR {n : Nat} {xs : List D} (h : m[n]? = some (.lst xs)) (i : Int) : (dIx (.ref n) (.int i) m).post Q ↔ ∃ x, atI xs i = some x ∧ Q x m := by
  simp only [dIx, seqOf, h]
  cases h : atI xs i <;> simp
@[simp] theorem q_seqT (xs : List D) (Q : Wk → Mem → Prop) : (dSeq (.tup xs) m).post Q ↔ Q ⟨xs, fun _ => True⟩ m := Iff.rfl
theorem q_seqR {n : Nat} {xs : List D} (h : m[n]? = some (.lst xs)) (Q : Wk → Mem → Prop) : (dSeq (.ref n) m).post Q ↔ Q ⟨xs, fun m' => m'[n]? = some (.lst xs)⟩ m := by simp [dSeq, h]
theorem q_tupleR {n : Nat} {xs : List D} (h : m[n]? = some (.lst xs)) : (dTuple [.ref n] m).post Q ↔ Q (.tup xs) m := by simp [dTuple, seqOf, h]
theorem q_allR {n : Nat} {bs : List Bool} (h : m[n]? = some (.lst (bs.map D.bl))) : (dAll [.ref n] m).post Q ↔ Q (.bl (bs.all id)) m := by simp [dAll, lstOf, h, blsOf_map]
theorem q_appR {n : Nat} {xs : List D} {x : D} (h : m[n]? = some (.lst xs)) : (dAppend (.ref n) [x] m).post Q ↔ xs.length < 1000000 ∧ Q .non (m.set n (.lst (xs ++ [x]))) := by simp [dAppend, h]
@[simp] theorem q_isi (cs : List String) (d : D) : (dIsi cs d m).post Q ↔ ∃ t, tyD d m = some t ∧ Q (.bl (cs.any fun c => isiB t c)) m := by
  unfold dIsi
  cases h : tyD d m <;> simp
end
theorem atI_0 {α : Type} (x : α) (xs : List α) : atI (x :: xs) 0 = some x := by simpa using atI_nat (xs := x :: xs) (j := 0) rfl
theorem atI_1 {α : Type} (x y : α) (xs : List α) : atI (x :: y :: xs) 1 = some y := by simpa using atI_nat (xs := x :: y :: xs) (j := 1) rfl
theorem atI_2 {α : Type} (x y z : α) (xs : List α) : atI (x :: y :: z :: xs) 2 = some z := by simpa using atI_nat (xs := x :: y :: z :: xs) (j := 2) rfl
/-! ### the pen -/
structure Pen (n : Nat) (m : Mem) : Prop where
  ex : ∃ c f : Int, m[n]? = some (.lst [.int c, .int f]) ∧ (f = 0 ∨ f = 1)
/-- all but the pen stands as it stood -/
def Kept (n : Nat) (m m' : Mem) : Prop := ∀ (i : Nat) (o : O), i ≠ n → m[i]? = some o → m'[i]? = some o
theorem Kept.refl (n : Nat) (m : Mem) : Kept n m m := fun _ _ _ h => h
theorem Kept.trans {n : Nat} {m m1 m2 : Mem} (a : Kept n m m1) (b : Kept n m1 m2) : Kept n m m2 := fun i o hi h => b i o hi (a i o hi h)
theorem Kept.app (n : Nat) (m x : Mem) : Kept n m (m ++ x) := fun i o _ h => by rw [List.getElem?_append_left (List.getElem?_eq_some_iff.mp h).1]; exact h
theorem Kept.set (n : Nat) (m : Mem) (o : O) : Kept n m (m.set n o) := fun i o' hi h => by rw [List.getElem?_set_ne (Ne.symm hi)]; exact h
theorem Pen.app {n : Nat} {m : Mem} (h : Pen n m) (x : Mem) : Pen n (m ++ x) := by
  obtain ⟨c, f, h1, h2⟩ := h.ex
  exact ⟨c, f, by rw [List.getElem?_append_left (List.getElem?_eq_some_iff.mp h1).1]; exact h1, h2⟩
end Mi
namespace Mi
open PySem PySem.Spec PyProof.Rows L2 Classical
/-! ### step by step -/
section
variable {α β : Type} {Q : D → Mem → Prop} {QB : Bool → Mem → Prop} {QL : List D → Mem → Prop} {QO : Option Int → Mem → Prop} {QW : Wk → Mem → Prop} {N : En → Mem → Prop} {T : D → Mem → Prop} {e : En} {m : Mem} {a b c : ME} {f f' : D → D → M D} {ta tb : MT} {sa sb : MS} {as : MA}
theorem p_run {n : Nat} {b : MS} {ds : List D} (h : (b (ds.map some ++ List.replicate (n - ds.length) none) m).post (fun _ m' => Q .non m') Q) : (runM n b ds m).post Q := (w_run n b ds).mpr h
theorem p_var {i : Nat} {d : D} (h : e[i]? = some (some d)) (q : Q d m) : (mVar i e m).post Q := by rw [w_var, h]; exact q
theorem p_c {d : D} (q : Q d m) : (mC d e m).post Q := q
theorem p_op (q : (a e m).post fun x m1 => (b e m1).post fun y m2 => (f x y m2).post Q) : (mOp f a b e m).post Q := (w_op f a b).mpr q
theorem p_un {f : D → M D} (q : (a e m).post fun x m1 => (f x m1).post Q) : (mUn f a e m).post Q := (w_un f a).mpr q
theorem p_nil (q : QL [] m) : (mNil e m).post QL := q
theorem p_cons (q : (a e m).post fun x m1 => (as e m1).post fun xs m2 => QL (x :: xs) m2) : (mCons a as e m).post QL := (w_cons a as QL).mpr q
theorem p_tup (q : (as e m).post fun xs m1 => xs.length ≤ 1000000 ∧ Q (.tup xs) m1) : (mTup as e m).post Q := (w_tup as).mpr q
theorem p_lst (q : (as e m).post fun xs m1 => xs.length ≤ 1000000 ∧ Q (.ref m1.length) (m1 ++ [.lst xs])) : (mLst as e m).post Q := (w_lst as).mpr q
theorem p_cb {f : List D → M D} (q : (as e m).post fun xs m1 => (f xs m1).post Q) : (mCB f as e m).post Q := (w_cb f as).mpr q
theorem p_call {n : Nat} {f : List D → M D} (q : (as e m).post fun xs m1 => xs.length = n ∧ (f xs m1).post Q) : (mCall n f as e m).post Q := (w_call n f as).mpr q
theorem p_tru (q : (a e m).post fun x m1 => (dTruth x m1).post QB) : (mTru a e m).post QB := (w_tru a QB).mpr q
theorem p_B (q : (a e m).post fun x m1 => (dB x m1).post QB) : (mB a e m).post QB := (w_B a QB).mpr q
theorem p_and (q : (ta e m).post fun x m1 => if x = true then (tb e m1).post QB else QB false m1) : (mAnd ta tb e m).post QB := (w_and ta tb QB).mpr q
theorem p_or (q : (ta e m).post fun x m1 => if x = true then QB true m1 else (tb e m1).post QB) : (mOr ta tb e m).post QB := (w_or ta tb QB).mpr q
theorem p_not (q : (ta e m).post fun x m1 => QB (!x) m1) : (mNot ta e m).post QB := (w_not ta QB).mpr q
theorem p_yes (q : QB true m) : (mYes e m).post QB := q
theorem p_andT (q : (a e m).post fun x m1 => (dTruth x m1).post fun c m2 => if c = true then (b e m2).post Q else Q x m2) : (mAndT a b e m).post Q := (w_andT a b).mpr q
theorem p_orT (q : (a e m).post fun x m1 => (dTruth x m1).post fun c m2 => if c = true then Q x m2 else (b e m2).post Q) : (mOrT a b e m).post Q := (w_orT a b).mpr q
theorem p_notT (q : (a e m).post fun x m1 => (dTruth x m1).post fun c m2 => Q (.bl (!c)) m2) : (mNotT a e m).post Q := (w_notT a).mpr q
theorem p_ifE (q : (ta e m).post fun x m1 => if x = true then (a e m1).post Q else (b e m1).post Q) : (mIfE ta a b e m).post Q := (w_ifE ta a b).mpr q
theorem p_isi {cs : List String} (q : (a e m).post fun d m1 => (dIsi cs d m1).post Q) : (mIsi cs a e m).post Q := (w_isi cs a).mpr q
theorem p_chain (q : (a e m).post fun x m1 => (b e m1).post fun y m2 => (f x y m2).post fun z m3 => (match z with | .bl true => (c e m3).post fun w m4 => (f' y w m4).post Q | .bl false => Q (.bl false) m3 | _ => False)) : (mChain f f' a b c e m).post Q := (w_chain f f' a b c).mpr q
theorem p_next (q : N e m) : (sNext e m).post N T := q
theorem p_seq (q : (sa e m).post (fun e' m' => (sb e' m').post N T) T) : (sSeq sa sb e m).post N T := (w_seq sa sb).mpr q
theorem p_drop (q : (a e m).post fun _ m1 => N e m1) : (sDrop a e m).post N T := (w_drop a).mpr q
theorem p_ret (q : (a e m).post T) : (sRet a e m).post N T := (w_ret a).mpr q
theorem p_if (q : (ta e m).post fun c m1 => if c = true then (sa e m1).post N T else (sb e m1).post N T) : (sIf ta sa sb e m).post N T := (w_if ta sa sb).mpr q
theorem p_set {i : Nat} (q : (a e m).post fun d m1 => N (e.set i (some d)) m1) : (sAsg a (gSet i) e m).post N T := (w_set a i).mpr q
theorem p_asg {t : MG} (q : (a e m).post fun d m1 => (t d e m1).post N) : (sAsg a t e m).post N T := (w_asg a t).mpr q
theorem p_par {i j : Nat} (q : (as e m).post fun ds m1 => (match ds with | [d, d'] => N ((e.set i (some d)).set j (some d')) m1 | _ => False)) : (sPar i j as e m).post N T := (w_par i j as).mpr q
theorem p_par3 {i j l : Nat} (q : (as e m).post fun ds m1 => (match ds with | [d, d', d''] => N (((e.set i (some d)).set j (some d')).set l (some d'')) m1 | _ => False)) : (sPar3 i j l as e m).post N T := (w_par3 i j l as).mpr q
theorem p_aug {i : Nat} {x : D} (h : e[i]? = some (some x)) (q : (a e m).post fun y m1 => (f x y m1).post fun z m2 => N (e.set i (some z)) m2) : (sAug i f a e m).post N T := by rw [w_aug, h]; exact q
theorem p_gset {i : Nat} {d : D} (q : N (e.set i (some d)) m) : (gSet i d e m).post N := q
theorem p_tupT {n : Nat} {f : MGs} {ds : List D} (h : ds.length = n) (q : (f ds e m).post N) : (gTupM n f (.tup ds) e m).post N := (w_tupT n f ds).mpr ⟨h, q⟩
theorem p_gcons {g : MG} {h : MGs} {d : D} {ds : List D} (q : (g d e m).post fun e1 m1 => (h ds e1 m1).post N) : (gConsM g h (d :: ds) e m).post N := (w_gcons g h d ds).mpr q
theorem p_gnil (q : N e m) : (gNilM [] e m).post N := q
theorem p_lc {fi : MI} {pt : Pat} {vs : List Nat} (q : (fi e m).post fun w m1 => (lcL w.gd pt ta a (wipeM e vs) w.its [] m1).post fun ys m2 => Q (.ref m2.length) (m2 ++ [.lst ys])) : (mLc fi pt ta a vs e m).post Q := (w_lc fi pt ta a vs).mpr q
theorem p_for {fi : MI} {t : MG} (q : (fi e m).post fun w m1 => (forL w.gd t sb w.its e m1).post N T) : (sFor fi t sb e m).post N T := (w_for fi t sb).mpr q
theorem p_iseq (q : (a e m).post fun d m1 => (dSeq d m1).post QW) : (iSeq a e m).post QW := (w_iseq a QW).mpr q
theorem p_irng1 (q : (as e m).post fun d m1 => (dRng1 d m1).post QW) : (Mi.iRng1 as e m).post QW := (w_irng1 as QW).mpr q
theorem p_izip (q : (as e m).post fun d m1 => (dZip d m1).post QW) : (iZipM as e m).post QW := (w_izip as QW).mpr q
theorem p_ienum (q : (as e m).post fun d m1 => (dEnum d m1).post QW) : (iEnumM as e m).post QW := (w_ienum as QW).mpr q
theorem p_cut {lo hi : MO} (q : (a e m).post fun d m1 => (lo e m1).post fun l m2 => (hi e m2).post fun h m3 => (dCut d l h m3).post Q) : (mCut a lo hi e m).post Q := (w_cut a lo hi).mpr q
theorem p_ono (q : QO none m) : (oNone e m).post QO := q
theorem p_osome (q : (a e m).post fun d m1 => (match d with | .int i => QO (some i) m1 | _ => False)) : (oSome a e m).post QO := (w_osome a QO).mpr q
theorem p_mtL {f : D → List D → M D} (q : (a e m).post fun d m1 => listAt d m1 = true ∧ (as e m1).post fun ds m2 => (f d ds m2).post Q) : (mMtL f a as e m).post Q := (w_mtL f a as).mpr q
theorem p_item {d : D} (q : (a e m).post fun x m1 => (b e m1).post fun y m2 => (dSetItem x y d m2).post fun _ m3 => N e m3) : (gItem a b d e m).post N := (w_item a b d).mpr q
theorem p_add {i j : Int} (q : Q (.int (i + j)) m) : (dAdd (.int i) (.int j) m).post Q := q
theorem p_addI {i j : Int} (q : Q (.int (i + j)) m) : (dAddI (.int i) (.int j) m).post Q := q
theorem p_sub {i j : Int} (q : Q (.int (i - j)) m) : (dSub (.int i) (.int j) m).post Q := (q_sub i j).mpr q
theorem p_mul {i j : Int} (h : CMul i j) (q : Q (.int (i * j)) m) : (dMul (.int i) (.int j) m).post Q := (q_mul i j).mpr ⟨h, q⟩
theorem p_div {i j : Int} (h : CDivW i j) (q : Q (.int (i / j)) m) : (dDiv (.int i) (.int j) m).post Q := (q_div i j).mpr ⟨h, q⟩
theorem p_mod {i j : Int} (h : 0 < j) (q : Q (.int (i % j)) m) : (dMod (.int i) (.int j) m).post Q := (q_mod i j).mpr ⟨h, q⟩
theorem p_pow {i j : Int} (h : CPow i j) (q : Q (.int (i ^ j.toNat)) m) : (dPow (.int i) (.int j) m).post Q := (q_pow i j).mpr ⟨h, q⟩
theorem p_lt {i j : Int} (q : Q (.bl (decide (i < j))) m) : (dLt (.int i) (.int j) m).post Q := q
theorem p_le {i j : Int} (q : Q (.bl (decide (i ≤ j))) m) : (dLe (.int i) (.int j) m).post Q := q
theorem p_gt {i j : Int} (q : Q (.bl (decide (j < i))) m) : (dGt (.int i) (.int j) m).post Q := q
theorem p_ge {i j : Int} (q : Q (.bl (decide (j ≤ i))) m) : (dGe (.int i) (.int j) m).post Q := q
theorem p_neg {i : Int} (q : Q (.int (-i)) m) : (dNeg (.int i) m).post Q := q
theorem p_eqI {i j : Int} (q : Q (.bl (i == j)) m) : (dEq (.int i) (.int j) m).post Q := (q_eqI i j).mpr q
theorem p_neI {i j : Int} (q : Q (.bl (!(i == j))) m) : (dNe (.int i) (.int j) m).post Q := (q_neI i j).mpr q
theorem p_eqB {i j : Bool} (q : Q (.bl (i == j)) m) : (dEq (.bl i) (.bl j) m).post Q := (q_eqB i j).mpr q
theorem p_neB {i j : Bool} (q : Q (.bl (!(i == j))) m) : (dNe (.bl i) (.bl j) m).post Q := (q_neB i j).mpr q
theorem p_trI {i : Int} (q : QB (i != 0) m) : (dTruth (.int i) m).post QB := q
theorem p_trB {b : Bool} (q : QB b m) : (dTruth (.bl b) m).post QB := q
theorem p_tB {b : Bool} (q : QB b m) : (dB (.bl b) m).post QB := q
theorem p_isN {d : D} (q : Q (.bl (isNon d)) m) : (dIsN d .non m).post Q := q
theorem p_notN {d : D} (q : Q (.bl (!isNon d)) m) : (dNotN d .non m).post Q := q
theorem p_intI {i : Int} (q : Q (.int i) m) : (dInt [.int i] m).post Q := q
theorem p_intB {b : Bool} (q : Q (.int (if b then 1 else 0)) m) : (dInt [.bl b] m).post Q := q
theorem p_max2 {i j : Int} (q : Q (.int (if j > i then j else i)) m) : (dMax2 [.int i, .int j] m).post Q := q
theorem p_min2 {i j : Int} (q : Q (.int (if j < i then j else i)) m) : (dMin2 [.int i, .int j] m).post Q := q
theorem p_lenT {xs : List D} (q : Q (.int xs.length) m) : (dLen [.tup xs] m).post Q := q
theorem p_lenF {xs : List D} (q : Q (.int xs.length) m) : (dLen [.fro xs] m).post Q := q
theorem p_lenR {n : Nat} {xs : List D} (h : m[n]? = some (.lst xs)) (q : Q (.int xs.length) m) : (dLen [.ref n] m).post Q := (q_lenR h).mpr q
theorem p_ixT {xs : List D} {i : Int} {x : D} (h : atI xs i = some x) (q : Q x m) : (dIx (.tup xs) (.int i) m).post Q := (q_ixT xs i).mpr ⟨x, h, q⟩
theorem p_ixF {xs : List D} {i : Int} {x : D} (h : atI xs i = some x) (q : Q x m) : (dIx (.fro xs) (.int i) m).post Q := (q_ixF xs i).mpr ⟨x, h, q⟩
theorem p_ixR {n : Nat} {xs : List D} {i : Int} {x : D} (hn : m[n]? = some (.lst xs)) (h : atI xs i = some x) (q : Q x m) : (dIx (.ref n) (.int i) m).post Q := (q_ixR hn i).mpr ⟨x, h, q⟩
theorem p_seqT {xs : List D} (q : QW ⟨xs, fun _ => True⟩ m) : (dSeq (.tup xs) m).post QW := q
theorem p_seqR {n : Nat} {xs : List D} (h : m[n]? = some (.lst xs)) (q : QW ⟨xs, fun m' => m'[n]? = some (.lst xs)⟩ m) : (dSeq (.ref n) m).post QW := (q_seqR h QW).mpr q
theorem p_tupleR {n : Nat} {xs : List D} (h : m[n]? = some (.lst xs)) (q : Q (.tup xs) m) : (dTuple [.ref n] m).post Q := (q_tupleR h).mpr q
theorem p_allR {n : Nat} {bs : List Bool} (h : m[n]? = some (.lst (bs.map D.bl))) (q : Q (.bl (bs.all id)) m) : (dAll [.ref n] m).post Q := (q_allR h).mpr q
theorem p_appR {n : Nat} {xs : List D} {x : D} (h : m[n]? = some (.lst xs)) (hl : xs.length < 1000000) (q : Q .non (m.set n (.lst (xs ++ [x])))) : (dAppend (.ref n) [x] m).post Q := (q_appR h).mpr ⟨hl, q⟩
theorem p_isiD {cs : List String} {d : D} {t : String} (h : tyD d m = some t) (q : Q (.bl (cs.any fun c => isiB t c)) m) : (dIsi cs d m).post Q := (q_isi cs d).mpr ⟨t, h, q⟩
theorem p_setR {n : Nat} {xs : List D} {j : Int} {t : Nat} {d : D} {Q : Unit → Mem → Prop} (h : m[n]? = some (.lst xs)) (ht : ixN xs.length j = some t) (q : Q () (m.set n (.lst (xs.set t d)))) : (dSetItem (.ref n) (.int j) d m).post Q := by
  simp only [dSetItem, h, ht]
  exact q
theorem p_setD {n : Nat} {kvs : List (Key × D)} {j : Int} {d : D} {Q : Unit → Mem → Prop} (h : m[n]? = some (.dic kvs)) (hl : kvs.length < 1000000) (q : Q () (m.set n (.dic (putD kvs (.inl j) d)))) : (dSetItem (.ref n) (.int j) d m).post Q := by
  simp only [dSetItem, h, keyD, hl, if_true]
  exact q
theorem p_rng1 {j : Int} (h : -(2 ^ 62) ≤ j ∧ j < 2 ^ 62) (q : QW ⟨rgD 0 j.toNat, fun _ => True⟩ m) : (dRng1 [.int j] m).post QW := by
  simp only [dRng1, h, and_self, if_true]
  exact q
theorem p_while {n : Nat} (q : (sWhile ta sa n e m).post N T) : (sWhile ta sa n e m).post N T := q
end
theorem set_at {m : Mem} {n : Nat} {o o' : O} (h : m[n]? = some o) : (m.set n o')[n]? = some o' := by
  rw [List.getElem?_set_self (List.getElem?_eq_some_iff.mp h).1]
theorem app_at {m x : Mem} {n : Nat} {o : O} (h : m[n]? = some o) : (m ++ x)[n]? = some o := by
  rw [List.getElem?_append_left (List.getElem?_eq_some_iff.mp h).1]
  exact h
theorem new_at (m : Mem) (o : O) : (m ++ [o])[m.length]? = some o := by
  rw [List.getElem?_append_right (Nat.le_refl _)]
  simp
theorem lt_of_at {m : Mem} {n : Nat} {o : O} (h : m[n]? = some o) : n < m.length := (List.getElem?_eq_some_iff.mp h).1
end Mi
namespace Mi
open PySem PySem.Spec PyProof.Rows L2 Classical
section
variable {Q : D → Mem → Prop} {m : Mem} {A B : Prop}
theorem p_pow5 (q : Q (.int 100000) m) : (dPow (.int 10) (.int 5) m).post Q := p_pow (by decide) q
theorem p_pow6 (q : Q (.int 1000000) m) : (dPow (.int 10) (.int 6) m).post Q := p_pow (by decide) q
theorem p_pow9 (q : Q (.int 1000000000) m) : (dPow (.int 10) (.int 9) m).post Q := p_pow (by decide) q
theorem p_pow12 (q : Q (.int 1000000000000) m) : (dPow (.int 10) (.int 12) m).post Q := p_pow (by decide) q
theorem p_pow18 (q : Q (.int 1000000000000000000) m) : (dPow (.int 10) (.int 18) m).post Q := p_pow (by decide) q
theorem p_pow20 (q : Q (.int 100000000000000000000) m) : (dPow (.int 10) (.int 20) m).post Q := p_pow (by decide) q
theorem p_pow39 (q : Q (.int 1000000000000000000000000000000000000000) m) : (dPow (.int 10) (.int 39) m).post Q := p_pow (by decide) q
theorem iteNT (h : A) : if (!false) = true then A else B := by rw [Bool.not_false, if_pos rfl]; exact h
theorem iteNF (h : B) : if (!true) = true then A else B := by rw [Bool.not_true, if_neg Bool.false_ne_true]; exact h
theorem iteNNF (h : B) : if (!!false) = true then A else B := by rw [Bool.not_false, Bool.not_true, if_neg Bool.false_ne_true]; exact h
theorem iteNNT (h : A) : if (!!true) = true then A else B := by rw [Bool.not_true, Bool.not_false, if_pos rfl]; exact h
/-- a test that may go both ways -/
theorem iteD {p : Prop} [Decidable p] (h1 : p → A) (h2 : ¬ p → B) : if decide p = true then A else B := by
  by_cases h : p
  · rw [decide_eq_true h, if_pos rfl]; exact h1 h
  · rw [decide_eq_false h, if_neg Bool.false_ne_true]; exact h2 h
theorem iteND {p : Prop} [Decidable p] (h1 : ¬ p → A) (h2 : p → B) : if (!decide p) = true then A else B := by
  by_cases h : p
  · rw [decide_eq_true h, Bool.not_true, if_neg Bool.false_ne_true]; exact h2 h
  · rw [decide_eq_false h, Bool.not_false, if_pos rfl]; exact h1 h
theorem iteBq {i j : Int} (h1 : i = j → A) (h2 : i ≠ j → B) : if (i == j) = true then A else B := by
  by_cases h : i = j
  · rw [beq_iff_eq.mpr h, if_pos rfl]; exact h1 h
  · rw [beq_eq_false_iff_ne.mpr h, if_neg Bool.false_ne_true]; exact h2 h
theorem iteNBq {i j : Int} (h1 : i ≠ j → A) (h2 : i = j → B) : if (!(i == j)) = true then A else B := by
  by_cases h : i = j
  · rw [beq_iff_eq.mpr h, Bool.not_true, if_neg Bool.false_ne_true]; exact h2 h
  · rw [beq_eq_false_iff_ne.mpr h, Bool.not_false, if_pos rfl]; exact h1 h
theorem iteBn {i : Int} (h1 : i ≠ 0 → A) (h2 : i = 0 → B) : if (i != 0) = true then A else B := iteNBq h1 h2
end
end Mi
namespace Mi
open PySem PySem.Spec PyProof.Rows L2 Classical
theorem p_isi_N_int {Q : D → Mem → Prop} {m : Mem} (q : Q (.bl false) m) : (dIsi ["int"] .non m).post Q := p_isiD (t := "NoneType") rfl ((show (List.any ["int"] fun c => isiB "NoneType" c) = false by decide +kernel) ▸ q)
theorem p_isi_N_bool {Q : D → Mem → Prop} {m : Mem} (q : Q (.bl false) m) : (dIsi ["bool"] .non m).post Q := p_isiD (t := "NoneType") rfl ((show (List.any ["bool"] fun c => isiB "NoneType" c) = false by decide +kernel) ▸ q)
theorem p_isi_N_tuple {Q : D → Mem → Prop} {m : Mem} (q : Q (.bl false) m) : (dIsi ["tuple"] .non m).post Q := p_isiD (t := "NoneType") rfl ((show (List.any ["tuple"] fun c => isiB "NoneType" c) = false by decide +kernel) ▸ q)
theorem p_isi_N_list {Q : D → Mem → Prop} {m : Mem} (q : Q (.bl false) m) : (dIsi ["list"] .non m).post Q := p_isiD (t := "NoneType") rfl ((show (List.any ["list"] fun c => isiB "NoneType" c) = false by decide +kernel) ▸ q)
theorem p_isi_N_lt {Q : D → Mem → Prop} {m : Mem} (q : Q (.bl false) m) : (dIsi ["list", "tuple"] .non m).post Q := p_isiD (t := "NoneType") rfl ((show (List.any ["list", "tuple"] fun c => isiB "NoneType" c) = false by decide +kernel) ▸ q)
theorem p_isi_N_str {Q : D → Mem → Prop} {m : Mem} (q : Q (.bl false) m) : (dIsi ["str"] .non m).post Q := p_isiD (t := "NoneType") rfl ((show (List.any ["str"] fun c => isiB "NoneType" c) = false by decide +kernel) ▸ q)
theorem p_isi_N_dict {Q : D → Mem → Prop} {m : Mem} (q : Q (.bl false) m) : (dIsi ["dict"] .non m).post Q := p_isiD (t := "NoneType") rfl ((show (List.any ["dict"] fun c => isiB "NoneType" c) = false by decide +kernel) ▸ q)
theorem p_isi_B_int {b : Bool} {Q : D → Mem → Prop} {m : Mem} (q : Q (.bl true) m) : (dIsi ["int"] (.bl b) m).post Q := p_isiD (t := "bool") rfl ((show (List.any ["int"] fun c => isiB "bool" c) = true by decide +kernel) ▸ q)
theorem p_isi_B_bool {b : Bool} {Q : D → Mem → Prop} {m : Mem} (q : Q (.bl true) m) : (dIsi ["bool"] (.bl b) m).post Q := p_isiD (t := "bool") rfl ((show (List.any ["bool"] fun c => isiB "bool" c) = true by decide +kernel) ▸ q)
theorem p_isi_B_tuple {b : Bool} {Q : D → Mem → Prop} {m : Mem} (q : Q (.bl false) m) : (dIsi ["tuple"] (.bl b) m).post Q := p_isiD (t := "bool") rfl ((show (List.any ["tuple"] fun c => isiB "bool" c) = false by decide +kernel) ▸ q)
theorem p_isi_B_list {b : Bool} {Q : D → Mem → Prop} {m : Mem} (q : Q (.bl false) m) : (dIsi ["list"] (.bl b) m).post Q := p_isiD (t := "bool") rfl ((show (List.any ["list"] fun c => isiB "bool" c) = false by decide +kernel) ▸ q)
theorem p_isi_B_lt {b : Bool} {Q : D → Mem → Prop} {m : Mem} (q : Q (.bl false) m) : (dIsi ["list", "tuple"] (.bl b) m).post Q := p_isiD (t := "bool") rfl ((show (List.any ["list", "tuple"] fun c => isiB "bool" c) = false by decide +kernel) ▸ q)
theorem p_isi_B_str {b : Bool} {Q : D → Mem → Prop} {m : Mem} (q : Q (.bl false) m) : (dIsi ["str"] (.bl b) m).post Q := p_isiD (t := "bool") rfl ((show (List.any ["str"] fun c => isiB "bool" c) = false by decide +kernel) ▸ q)
theorem p_isi_B_dict {b : Bool} {Q : D → Mem → Prop} {m : Mem} (q : Q (.bl false) m) : (dIsi ["dict"] (.bl b) m).post Q := p_isiD (t := "bool") rfl ((show (List.any ["dict"] fun c => isiB "bool" c) = false by decide +kernel) ▸ q)
theorem p_isi_I_int {i : Int} {Q : D → Mem → Prop} {m : Mem} (q : Q (.bl true) m) : (dIsi ["int"] (.int i) m).post Q := p_isiD (t := "int") rfl ((show (List.any ["int"] fun c => isiB "int" c) = true by decide +kernel) ▸ q)
theorem p_isi_I_bool {i : Int} {Q : D → Mem → Prop} {m : Mem} (q : Q (.bl false) m) : (dIsi ["bool"] (.int i) m).post Q := p_isiD (t := "int") rfl ((show (List.any ["bool"] fun c => isiB "int" c) = false by decide +kernel) ▸ q)
theorem p_isi_I_tuple {i : Int} {Q : D → Mem → Prop} {m : Mem} (q : Q (.bl false) m) : (dIsi ["tuple"] (.int i) m).post Q := p_isiD (t := "int") rfl ((show (List.any ["tuple"] fun c => isiB "int" c) = false by decide +kernel) ▸ q)
theorem p_isi_I_list {i : Int} {Q : D → Mem → Prop} {m : Mem} (q : Q (.bl false) m) : (dIsi ["list"] (.int i) m).post Q := p_isiD (t := "int") rfl ((show (List.any ["list"] fun c => isiB "int" c) = false by decide +kernel) ▸ q)
theorem p_isi_I_lt {i : Int} {Q : D → Mem → Prop} {m : Mem} (q : Q (.bl false) m) : (dIsi ["list", "tuple"] (.int i) m).post Q := p_isiD (t := "int") rfl ((show (List.any ["list", "tuple"] fun c => isiB "int" c) = false by decide +kernel) ▸ q)
theorem p_isi_I_str {i : Int} {Q : D → Mem → Prop} {m : Mem} (q : Q (.bl false) m) : (dIsi ["str"] (.int i) m).post Q := p_isiD (t := "int") rfl ((show (List.any ["str"] fun c => isiB "int" c) = false by decide +kernel) ▸ q)
theorem p_isi_I_dict {i : Int} {Q : D → Mem → Prop} {m : Mem} (q : Q (.bl false) m) : (dIsi ["dict"] (.int i) m).post Q := p_isiD (t := "int") rfl ((show (List.any ["dict"] fun c => isiB "int" c) = false by decide +kernel) ▸ q)
theorem p_isi_S_int {x : Str} {Q : D → Mem → Prop} {m : Mem} (q : Q (.bl false) m) : (dIsi ["int"] (.str x) m).post Q := p_isiD (t := "str") rfl ((show (List.any ["int"] fun c => isiB "str" c) = false by decide +kernel) ▸ q)
theorem p_isi_S_bool {x : Str} {Q : D → Mem → Prop} {m : Mem} (q : Q (.bl false) m) : (dIsi ["bool"] (.str x) m).post Q := p_isiD (t := "str") rfl ((show (List.any ["bool"] fun c => isiB "str" c) = false by decide +kernel) ▸ q)
theorem p_isi_S_tuple {x : Str} {Q : D → Mem → Prop} {m : Mem} (q : Q (.bl false) m) : (dIsi ["tuple"] (.str x) m).post Q := p_isiD (t := "str") rfl ((show (List.any ["tuple"] fun c => isiB "str" c) = false by decide +kernel) ▸ q)
theorem p_isi_S_list {x : Str} {Q : D → Mem → Prop} {m : Mem} (q : Q (.bl false) m) : (dIsi ["list"] (.str x) m).post Q := p_isiD (t := "str") rfl ((show (List.any ["list"] fun c => isiB "str" c) = false by decide +kernel) ▸ q)
theorem p_isi_S_lt {x : Str} {Q : D → Mem → Prop} {m : Mem} (q : Q (.bl false) m) : (dIsi ["list", "tuple"] (.str x) m).post Q := p_isiD (t := "str") rfl ((show (List.any ["list", "tuple"] fun c => isiB "str" c) = false by decide +kernel) ▸ q)
theorem p_isi_S_str {x : Str} {Q : D → Mem → Prop} {m : Mem} (q : Q (.bl true) m) : (dIsi ["str"] (.str x) m).post Q := p_isiD (t := "str") rfl ((show (List.any ["str"] fun c => isiB "str" c) = true by decide +kernel) ▸ q)
theorem p_isi_S_dict {x : Str} {Q : D → Mem → Prop} {m : Mem} (q : Q (.bl false) m) : (dIsi ["dict"] (.str x) m).post Q := p_isiD (t := "str") rfl ((show (List.any ["dict"] fun c => isiB "str" c) = false by decide +kernel) ▸ q)
theorem p_isi_T_int {ds : List D} {Q : D → Mem → Prop} {m : Mem} (q : Q (.bl false) m) : (dIsi ["int"] (.tup ds) m).post Q := p_isiD (t := "tuple") rfl ((show (List.any ["int"] fun c => isiB "tuple" c) = false by decide +kernel) ▸ q)
theorem p_isi_T_bool {ds : List D} {Q : D → Mem → Prop} {m : Mem} (q : Q (.bl false) m) : (dIsi ["bool"] (.tup ds) m).post Q := p_isiD (t := "tuple") rfl ((show (List.any ["bool"] fun c => isiB "tuple" c) = false by decide +kernel) ▸ q)
theorem p_isi_T_tuple {ds : List D} {Q : D → Mem → Prop} {m : Mem} (q : Q (.bl true) m) : (dIsi ["tuple"] (.tup ds) m).post Q := p_isiD (t := "tuple") rfl ((show (List.any ["tuple"] fun c => isiB "tuple" c) = true by decide +kernel) ▸ q)
theorem p_isi_T_list {ds : List D} {Q : D → Mem → Prop} {m : Mem} (q : Q (.bl false) m) : (dIsi ["list"] (.tup ds) m).post Q := p_isiD (t := "tuple") rfl ((show (List.any ["list"] fun c => isiB "tuple" c) = false by decide +kernel) ▸ q)
theorem p_isi_T_lt {ds : List D} {Q : D → Mem → Prop} {m : Mem} (q : Q (.bl true) m) : (dIsi ["list", "tuple"] (.tup ds) m).post Q := p_isiD (t := "tuple") rfl ((show (List.any ["list", "tuple"] fun c => isiB "tuple" c) = true by decide +kernel) ▸ q)
theorem p_isi_T_str {ds : List D} {Q : D → Mem → Prop} {m : Mem} (q : Q (.bl false) m) : (dIsi ["str"] (.tup ds) m).post Q := p_isiD (t := "tuple") rfl ((show (List.any ["str"] fun c => isiB "tuple" c) = false by decide +kernel) ▸ q)
theorem p_isi_T_dict {ds : List D} {Q : D → Mem → Prop} {m : Mem} (q : Q (.bl false) m) : (dIsi ["dict"] (.tup ds) m).post Q := p_isiD (t := "tuple") rfl ((show (List.any ["dict"] fun c => isiB "tuple" c) = false by decide +kernel) ▸ q)
theorem p_isi_F_int {ds : List D} {Q : D → Mem → Prop} {m : Mem} (q : Q (.bl false) m) : (dIsi ["int"] (.fro ds) m).post Q := p_isiD (t := "list") rfl ((show (List.any ["int"] fun c => isiB "list" c) = false by decide +kernel) ▸ q)
theorem p_isi_F_bool {ds : List D} {Q : D → Mem → Prop} {m : Mem} (q : Q (.bl false) m) : (dIsi ["bool"] (.fro ds) m).post Q := p_isiD (t := "list") rfl ((show (List.any ["bool"] fun c => isiB "list" c) = false by decide +kernel) ▸ q)
theorem p_isi_F_tuple {ds : List D} {Q : D → Mem → Prop} {m : Mem} (q : Q (.bl false) m) : (dIsi ["tuple"] (.fro ds) m).post Q := p_isiD (t := "list") rfl ((show (List.any ["tuple"] fun c => isiB "list" c) = false by decide +kernel) ▸ q)
theorem p_isi_F_list {ds : List D} {Q : D → Mem → Prop} {m : Mem} (q : Q (.bl true) m) : (dIsi ["list"] (.fro ds) m).post Q := p_isiD (t := "list") rfl ((show (List.any ["list"] fun c => isiB "list" c) = true by decide +kernel) ▸ q)
theorem p_isi_F_lt {ds : List D} {Q : D → Mem → Prop} {m : Mem} (q : Q (.bl true) m) : (dIsi ["list", "tuple"] (.fro ds) m).post Q := p_isiD (t := "list") rfl ((show (List.any ["list", "tuple"] fun c => isiB "list" c) = true by decide +kernel) ▸ q)
theorem p_isi_F_str {ds : List D} {Q : D → Mem → Prop} {m : Mem} (q : Q (.bl false) m) : (dIsi ["str"] (.fro ds) m).post Q := p_isiD (t := "list") rfl ((show (List.any ["str"] fun c => isiB "list" c) = false by decide +kernel) ▸ q)
theorem p_isi_F_dict {ds : List D} {Q : D → Mem → Prop} {m : Mem} (q : Q (.bl false) m) : (dIsi ["dict"] (.fro ds) m).post Q := p_isiD (t := "list") rfl ((show (List.any ["dict"] fun c => isiB "list" c) = false by decide +kernel) ▸ q)
theorem p_isi_R_int {n : Nat} {xs : List D} {Q : D → Mem → Prop} {m : Mem} (h : m[n]? = some (.lst xs)) (q : Q (.bl false) m) : (dIsi ["int"] (.ref n) m).post Q := p_isiD (t := "list") (by simp [tyD, h]) ((show (List.any ["int"] fun c => isiB "list" c) = false by decide +kernel) ▸ q)
theorem p_isi_R_bool {n : Nat} {xs : List D} {Q : D → Mem → Prop} {m : Mem} (h : m[n]? = some (.lst xs)) (q : Q (.bl false) m) : (dIsi ["bool"] (.ref n) m).post Q := p_isiD (t := "list") (by simp [tyD, h]) ((show (List.any ["bool"] fun c => isiB "list" c) = false by decide +kernel) ▸ q)
theorem p_isi_R_tuple {n : Nat} {xs : List D} {Q : D → Mem → Prop} {m : Mem} (h : m[n]? = some (.lst xs)) (q : Q (.bl false) m) : (dIsi ["tuple"] (.ref n) m).post Q := p_isiD (t := "list") (by simp [tyD, h]) ((show (List.any ["tuple"] fun c => isiB "list" c) = false by decide +kernel) ▸ q)
theorem p_isi_R_list {n : Nat} {xs : List D} {Q : D → Mem → Prop} {m : Mem} (h : m[n]? = some (.lst xs)) (q : Q (.bl true) m) : (dIsi ["list"] (.ref n) m).post Q := p_isiD (t := "list") (by simp [tyD, h]) ((show (List.any ["list"] fun c => isiB "list" c) = true by decide +kernel) ▸ q)
theorem p_isi_R_lt {n : Nat} {xs : List D} {Q : D → Mem → Prop} {m : Mem} (h : m[n]? = some (.lst xs)) (q : Q (.bl true) m) : (dIsi ["list", "tuple"] (.ref n) m).post Q := p_isiD (t := "list") (by simp [tyD, h]) ((show (List.any ["list", "tuple"] fun c => isiB "list" c) = true by decide +kernel) ▸ q)
theorem p_isi_R_str {n : Nat} {xs : List D} {Q : D → Mem → Prop} {m : Mem} (h : m[n]? = some (.lst xs)) (q : Q (.bl false) m) : (dIsi ["str"] (.ref n) m).post Q := p_isiD (t := "list") (by simp [tyD, h]) ((show (List.any ["str"] fun c => isiB "list" c) = false by decide +kernel) ▸ q)
theorem p_isi_R_dict {n : Nat} {xs : List D} {Q : D → Mem → Prop} {m : Mem} (h : m[n]? = some (.lst xs)) (q : Q (.bl false) m) : (dIsi ["dict"] (.ref n) m).post Q := p_isiD (t := "list") (by simp [tyD, h]) ((show (List.any ["dict"] fun c => isiB "list" c) = false by decide +kernel) ▸ q)
end Mi
namespace Mi
open PySem PySem.Spec PyProof.Rows L2 Classical
/-! ### the store has grown, nothing else -/
def Gr (m m' : Mem) : Prop := ∃ x, m' = m ++ x
theorem Gr.refl (m : Mem) : Gr m m := ⟨[], by simp⟩
theorem Gr.trans {m m1 m2 : Mem} (a : Gr m m1) (b : Gr m1 m2) : Gr m m2 := by
  obtain ⟨x, rfl⟩ := a
  obtain ⟨y, rfl⟩ := b
  exact ⟨x ++ y, by simp⟩
theorem Gr.app (m x : Mem) : Gr m (m ++ x) := ⟨x, rfl⟩
theorem Gr.at {m m' : Mem} (a : Gr m m') {n : Nat} {o : O} (h : m[n]? = some o) : m'[n]? = some o := by
  obtain ⟨x, rfl⟩ := a
  exact app_at h
theorem Gr.pen {m m' : Mem} (a : Gr m m') {n : Nat} (h : Pen n m) : Pen n m' := by
  obtain ⟨x, rfl⟩ := a
  exact h.app x
theorem Gr.kept {m m' : Mem} (a : Gr m m') (n : Nat) : Kept n m m' := fun i o _ h => a.at h
theorem Gr.len {m m' : Mem} (a : Gr m m') : m.length ≤ m'.length := by
  obtain ⟨x, rfl⟩ := a
  simp
/-- a comprehension whose parts leave the store but for new things -/
theorem lc_pure {gd : Mem → Prop} {pt : Pat} {t : MT} {x : ME} {e : En} {m : Mem} (B : D → Bool) (Y : D → D) (ds : List D) (hgd : ∀ m', Gr m m' → gd m') (hl : ds.length ≤ 1000)
    (h : ∀ d ∈ ds, ∃ e1, patM pt d e = some e1 ∧ ∀ m', Gr m m' → (t e1 m').post fun b m1 => b = B d ∧ Gr m' m1 ∧ (b = true → (x e1 m1).post fun y m2 => y = Y d ∧ Gr m1 m2)) :
    (lcL gd pt t x e ds [] m).post fun ys m' => ys = (ds.filter B).map Y ∧ Gr m m' := by
  refine lcL_inv (fun rest acc m' => Gr m m' ∧ ∃ pr, ds = pr ++ rest ∧ acc = (pr.filter B).map Y) ds [] m ⟨Gr.refl m, [], rfl, rfl⟩ ?_ ?_
  · rintro acc m' ⟨g, pr, e1, e2⟩
    rw [List.append_nil] at e1
    subst e1
    exact ⟨hgd m' g, e2, g⟩
  · rintro d rest acc m' ⟨g, pr, e1, e2⟩
    obtain ⟨en, hp, hq⟩ := h d (by rw [e1]; simp)
    refine ⟨hgd m' g, en, hp, (hq m' g).mono fun b m1 ⟨hb, g1, hx⟩ => ?_⟩
    cases b with
    | true =>
      simp only [if_true]
      refine (hx rfl).mono fun y m2 ⟨hy, g2⟩ => ⟨?_, (g.trans g1).trans g2, pr ++ [d], by rw [e1]; simp, ?_⟩
      · rw [e2, List.length_map]
        have h1 := List.length_filter_le B pr
        have h2 := congrArg List.length e1
        rw [List.length_append] at h2
        omega
      · rw [e2, List.filter_append, List.map_append, hy]
        simp [← hb]
    | false =>
      simp only [Bool.false_eq_true, if_false]
      refine ⟨g.trans g1, pr ++ [d], by rw [e1]; simp, ?_⟩
      rw [e2, List.filter_append, List.map_append]
      simp [← hb]
/-! ### ladders -/
abbrev Lad := List (Int × Int)

abbrev ladD (l : Lad) : D := .tup (l.map prD)
structure GoodL (l : Lad) : Prop where
  ne : ∃ s r, l = (0, s) :: r
  len : l.length ≤ 4
  st : ∀ p ∈ l, 1 ≤ p.2 ∧ p.2 ≤ 100000
  fl : ∀ p ∈ l, 0 ≤ p.1 ∧ p.1 ≤ 1000000
  up : (l.map (·.1)).Pairwise (· < ·)
/-- the step that is due at a price, s where none is -/
def stepAt (s : Int) : Lad → Int → Int
  | [], _ => s
  | (f, t) :: r, p => if f ≤ p then stepAt t r p else stepAt s r p
def beh (l : Lad) (p : Int) : Int := p + stepAt 0 l p
theorem stepAt_last : ∀ (l : Lad) (s p : Int), stepAt s l p = (((l.filter fun q => decide (q.1 ≤ p)).map (·.2)).getLast?).getD s
  | [], s, p => rfl
  | (f, t) :: r, s, p => by
    unfold stepAt
    by_cases h : f ≤ p
    · rw [if_pos h, stepAt_last r t p, List.filter_cons_of_pos (by simpa using h), List.map_cons]
      cases h1 : (List.map (fun x => x.2) (List.filter (fun q => decide (q.1 ≤ p)) r)) with
      | nil => rfl
      | cons a b => simp [List.getLast?_cons]
    · rw [if_neg h, stepAt_last r s p, List.filter_cons_of_neg (by simpa using h)]
theorem stepAt_low : ∀ (l : Lad) (s p : Int), (∀ q ∈ l, p < q.1) → stepAt s l p = s
  | [], _, _, _ => rfl
  | (f, t) :: r, s, p, h => by
    have h1 : ¬ f ≤ p := by
      have := h (f, t) (by simp)
      simp at this
      omega
    unfold stepAt
    rw [if_neg h1]
    exact stepAt_low r s p fun q hq => h q (by simp [hq])
/-- price of a rung, floor by floor: s the step that is due, r the floors to come -/
def walk (s : Int) : Lad → Int → Int → Int
  | [], p, n => p + n * s
  | (f, t) :: r, p, n => if p < f then (if n < (f - p + s - 1) / s then p + n * s else walk t r (p + (f - p + s - 1) / s * s) (n - (f - p + s - 1) / s)) else walk t r p n
/-- the flights: rung, price, step -/
def flights : Lad → Int → Int → Int → List (Int × Int × Int)
  | [], _, _, _ => []
  | (f, t) :: r, g, k, p => if p < f then (k + (f - p + g - 1) / g, p + (f - p + g - 1) / g * g, t) :: flights r t (k + (f - p + g - 1) / g) (p + (f - p + g - 1) / g * g) else (k, p, t) :: flights r t k p
theorem mv_pos {f p s : Int} (hs : 0 < s) (h : p < f) : 1 ≤ (f - p + s - 1) / s ∧ f ≤ p + (f - p + s - 1) / s * s ∧ p + ((f - p + s - 1) / s - 1) * s < f := by
  have e := Int.mul_ediv_add_emod (f - p + s - 1) s
  have h0 := Int.emod_nonneg (f - p + s - 1) (show s ≠ 0 by omega)
  have h1 := Int.emod_lt_of_pos (f - p + s - 1) hs
  have hc : s * ((f - p + s - 1) / s) = (f - p + s - 1) / s * s := Int.mul_comm _ _
  refine ⟨?_, by omega, ?_⟩
  · have : 1 * s ≤ f - p + s - 1 := by omega
    exact (Int.le_ediv_iff_mul_le hs).mpr this
  · rw [Int.sub_mul]
    omega
theorem flights_rung : ∀ (l : Lad) (g k p : Int), 0 < g → (∀ q ∈ l, 1 ≤ q.2) → ∀ x ∈ flights l g k p, k ≤ x.1 ∧ p ≤ x.2.1
  | [], _, _, _, _, _, x, hx => by simp [flights] at hx
  | (f, t) :: r, g, k, p, hg, hs, x, hx => by
    have ht : (0 : Int) < t := by
      have := hs (f, t) (by simp)
      simp at this
      omega
    have hr : ∀ q ∈ r, 1 ≤ q.2 := fun q hq => hs q (by simp [hq])
    unfold flights at hx
    split at hx
    · rename_i hp
      obtain ⟨m1, m2, m3⟩ := mv_pos hg hp
      rcases List.mem_cons.mp hx with rfl | hx
      · exact ⟨by simp; omega, by simp; omega⟩
      · have := flights_rung r t _ _ ht hr x hx
        exact ⟨by omega, by omega⟩
    · rcases List.mem_cons.mp hx with rfl | hx
      · exact ⟨by simp, by simp⟩
      · exact flights_rung r t _ _ ht hr x hx
end Mi
namespace Mi
open PySem PySem.Spec PyProof.Rows L2 Classical
theorem walk_zero : ∀ (r : Lad) (s p : Int), 0 < s → (∀ q ∈ r, 1 ≤ q.2) → walk s r p 0 = p
  | [], s, p, _, _ => by simp [walk]
  | (f, t) :: r, s, p, hs, ht => by
    have h1 : (0 : Int) < t := by have := ht (f, t) (by simp); simp at this; omega
    have hr : ∀ q ∈ r, 1 ≤ q.2 := fun q hq => ht q (by simp [hq])
    unfold walk
    split
    · rename_i hp
      obtain ⟨m1, m2, m3⟩ := mv_pos hs hp
      rw [if_pos (by omega)]
      omega
    · exact walk_zero r t p h1 hr
theorem walk_ge : ∀ (r : Lad) (s p n : Int), 0 < s → (∀ q ∈ r, 1 ≤ q.2) → 0 ≤ n → p ≤ walk s r p n
  | [], s, p, n, hs, _, hn => by
    have := Int.mul_nonneg hn (Int.le_of_lt hs)
    simp only [walk]
    omega
  | (f, t) :: r, s, p, n, hs, ht, hn => by
    have h1 : (0 : Int) < t := by have := ht (f, t) (by simp); simp at this; omega
    have hr : ∀ q ∈ r, 1 ≤ q.2 := fun q hq => ht q (by simp [hq])
    unfold walk
    split
    · rename_i hp
      obtain ⟨m1, m2, m3⟩ := mv_pos hs hp
      split
      · have := Int.mul_nonneg hn (Int.le_of_lt hs)
        omega
      · have := walk_ge r t (p + (f - p + s - 1) / s * s) (n - (f - p + s - 1) / s) h1 hr (by omega)
        omega
    · exact walk_ge r t p n h1 hr hn
theorem low_of {n mv s p f : Int} (hs : 0 < s) (h : n ≤ mv - 1) (h3 : p + (mv - 1) * s < f) : p + n * s < f := by
  have := Int.mul_le_mul_of_nonneg_right h (Int.le_of_lt hs)
  omega
theorem walk_step : ∀ (r : Lad) (s p n : Int), 0 < s → (∀ q ∈ r, 1 ≤ q.2) → (r.map (·.1)).Pairwise (· < ·) → 0 ≤ n → walk s r p (n + 1) = walk s r p n + stepAt s r (walk s r p n)
  | [], s, p, n, hs, _, _, hn => by
    simp only [walk, stepAt, Int.add_mul]
    omega
  | (f, t) :: r, s, p, n, hs, ht, hu, hn => by
    have h1 : (0 : Int) < t := by have := ht (f, t) (by simp); simp at this; omega
    have hr : ∀ q ∈ r, 1 ≤ q.2 := fun q hq => ht q (by simp [hq])
    rw [List.map_cons, List.pairwise_cons] at hu
    have hf : ∀ q ∈ r, f < q.1 := fun q hq => hu.1 q.1 (List.mem_map.mpr ⟨q, hq, rfl⟩)
    have low : ∀ W, W < f → stepAt s ((f, t) :: r) W = s := fun W hW => stepAt_low _ s W fun q hq => by
      rcases List.mem_cons.mp hq with rfl | hq
      · exact hW
      · have := hf q hq
        omega
    have high : ∀ W, f ≤ W → stepAt s ((f, t) :: r) W = stepAt t r W := fun W hW => by
      rw [stepAt, if_pos hW]
    by_cases hp : p < f
    · obtain ⟨m1, m2, m3⟩ := mv_pos hs hp
      have ew : ∀ k, walk s ((f, t) :: r) p k = if k < (f - p + s - 1) / s then p + k * s else walk t r (p + (f - p + s - 1) / s * s) (k - (f - p + s - 1) / s) := fun k => by
        rw [walk, if_pos hp]
      generalize hmv : (f - p + s - 1) / s = mv at *
      by_cases c1 : n < mv
      · rw [ew n, if_pos c1, low _ (low_of hs (by omega) m3), ew (n + 1)]
        by_cases c2 : n + 1 < mv
        · rw [if_pos c2, Int.add_mul]
          omega
        · have : n + 1 = mv := by omega
          rw [if_neg c2, ← this, Int.sub_self, walk_zero r t _ h1 hr, Int.add_mul]
          omega
      · have ge := walk_ge r t (p + mv * s) (n - mv) h1 hr (by omega)
        rw [ew n, if_neg c1, ew (n + 1), if_neg (by omega), show n + 1 - mv = (n - mv) + 1 by omega, walk_step r t (p + mv * s) (n - mv) h1 hr hu.2 (by omega), high _ (by omega)]
    · have ew : ∀ k, walk s ((f, t) :: r) p k = walk t r p k := fun k => by rw [walk, if_neg hp]
      have ge := walk_ge r t p n h1 hr hn
      rw [ew, ew, walk_step r t p n h1 hr hu.2 hn, high _ (by omega)]
/-- the rungs of a ladder from a start -/
def rungAt (l : Lad) (st n : Int) : Int := match l with
  | [] => 0
  | (_, s) :: r => walk s r st n
theorem rung0 {l : Lad} (g : GoodL l) (st : Int) : rungAt l st 0 = st := by
  obtain ⟨s, r, rfl⟩ := g.ne
  exact walk_zero r s st (by have := g.st (0, s) (by simp); simp at this; omega) fun q hq => (g.st q (by simp [hq])).1
theorem rung_ge {l : Lad} (g : GoodL l) {st n : Int} (hn : 0 ≤ n) : st ≤ rungAt l st n := by
  obtain ⟨s, r, rfl⟩ := g.ne
  exact walk_ge r s st n (by have := g.st (0, s) (by simp); simp at this; omega) (fun q hq => (g.st q (by simp [hq])).1) hn
theorem rung_succ {l : Lad} (g : GoodL l) {st n : Int} (h1 : 0 ≤ st) (hn : 0 ≤ n) : rungAt l st (n + 1) = beh l (rungAt l st n) := by
  have ge := rung_ge g (st := st) hn
  obtain ⟨s, r, rfl⟩ := g.ne
  have hu := g.up
  rw [List.map_cons, List.pairwise_cons] at hu
  have e := walk_step r s st n (by have := g.st (0, s) (by simp); simp at this; omega) (fun q hq => (g.st q (by simp [hq])).1) hu.2 hn
  unfold beh
  rw [stepAt, if_pos (by omega)]
  exact e
theorem stepAt_pos : ∀ (r : Lad) (s p : Int), 1 ≤ s → (∀ q ∈ r, 1 ≤ q.2) → 1 ≤ stepAt s r p
  | [], s, p, h, _ => h
  | (f, t) :: r, s, p, h, ht => by
    have h1 : (1 : Int) ≤ t := by have := ht (f, t) (by simp); simpa using this
    have hr : ∀ q ∈ r, 1 ≤ q.2 := fun q hq => ht q (by simp [hq])
    unfold stepAt
    split
    · exact stepAt_pos r t p h1 hr
    · exact stepAt_pos r s p h hr
theorem beh_gt {l : Lad} (g : GoodL l) {p : Int} (h : 0 ≤ p) : p + 1 ≤ beh l p := by
  obtain ⟨s, r, rfl⟩ := g.ne
  unfold beh
  rw [stepAt, if_pos h]
  have := stepAt_pos r s p (by have := g.st (0, s) (by simp); simpa using this.1) fun q hq => (g.st q (by simp [hq])).1
  omega
theorem rung_lt {l : Lad} (g : GoodL l) {st n : Int} (h1 : 0 ≤ st) (hn : 0 ≤ n) : rungAt l st n < rungAt l st (n + 1) := by
  rw [rung_succ g h1 hn]
  have := beh_gt g (p := rungAt l st n) (by have := rung_ge g (st := st) hn; omega)
  omega
theorem rung_mono {l : Lad} (g : GoodL l) {st : Int} (h1 : 0 ≤ st) {a : Int} (ha : 0 ≤ a) : ∀ (k : Nat), rungAt l st a + k ≤ rungAt l st (a + k)
  | 0 => by simp
  | k + 1 => by
    have ih := rung_mono g h1 ha k
    have := rung_lt g h1 (n := a + k) (by omega)
    rw [show a + ((k + 1 : Nat) : Int) = a + k + 1 by omega]
    omega
theorem rung_le_iff {l : Lad} (g : GoodL l) {st b n i : Int} (h1 : 0 ≤ st) (hn : 0 ≤ n) (hi : 0 ≤ i) (hb : rungAt l st n ≤ b) (hb2 : b < rungAt l st (n + 1)) : rungAt l st i ≤ b ↔ i ≤ n := by
  constructor
  · intro h
    by_cases c : i ≤ n
    · exact c
    · exfalso
      have := rung_mono g h1 (a := n + 1) (by omega) (i - (n + 1)).toNat
      rw [show n + 1 + ((i - (n + 1)).toNat : Int) = i by omega] at this
      omega
  · intro h
    have := rung_mono g h1 (a := i) hi (n - i).toNat
    rw [show i + ((n - i).toNat : Int) = n by omega] at this
    omega
/-! ### the flights tell the rungs -/
theorem fl_at : ∀ (r : Lad) (s k p n : Int), 0 < s → (∀ q ∈ r, 1 ≤ q.2) → k ≤ n → ∃ x ys, ((k, p, s) :: flights r s k p).filter (fun x => decide (x.1 ≤ n)) = ys ++ [x] ∧ x.2.1 + (n - x.1) * x.2.2 = walk s r p (n - k) ∧ 0 < x.2.2 ∧ x.1 ≤ n
  | [], s, k, p, n, hs, _, hk => ⟨(k, p, s), [], by simp [flights, hk], rfl, hs, hk⟩
  | (f, t) :: r, s, k, p, n, hs, ht, hk => by
    have h1 : (0 : Int) < t := by have := ht (f, t) (by simp); simp at this; omega
    have hr : ∀ q ∈ r, 1 ≤ q.2 := fun q hq => ht q (by simp [hq])
    have hd : decide (((k, p, s) : Int × Int × Int).1 ≤ n) = true := by simpa using hk
    by_cases hp : p < f
    · obtain ⟨m1, m2, m3⟩ := mv_pos hs hp
      have ef : flights ((f, t) :: r) s k p = (k + (f - p + s - 1) / s, p + (f - p + s - 1) / s * s, t) :: flights r t (k + (f - p + s - 1) / s) (p + (f - p + s - 1) / s * s) := by rw [flights, if_pos hp]
      have ew : walk s ((f, t) :: r) p (n - k) = if n - k < (f - p + s - 1) / s then p + (n - k) * s else walk t r (p + (f - p + s - 1) / s * s) (n - k - (f - p + s - 1) / s) := by rw [walk, if_pos hp]
      rw [ef, ew]
      generalize (f - p + s - 1) / s = mv at *
      by_cases c : n - k < mv
      · rw [if_pos c]
        refine ⟨(k, p, s), [], ?_, rfl, hs, hk⟩
        rw [List.filter_cons_of_pos (p := fun x : Int × Int × Int => decide (x.1 ≤ n)) hd, List.filter_eq_nil_iff.mpr]
        · rfl
        · intro x hx
          rcases List.mem_cons.mp hx with rfl | hx
          · simp
            omega
          · have := (flights_rung r t _ _ h1 hr x hx).1
            simp
            omega
      · rw [if_neg c]
        obtain ⟨x, ys, e1, e2, e3, e4⟩ := fl_at r t (k + mv) (p + mv * s) n h1 hr (by omega)
        refine ⟨x, (k, p, s) :: ys, ?_, ?_, e3, e4⟩
        · rw [List.filter_cons_of_pos (p := fun x : Int × Int × Int => decide (x.1 ≤ n)) hd, e1]
          rfl
        · rw [e2, show n - (k + mv) = n - k - mv by omega]
    · have ef : flights ((f, t) :: r) s k p = (k, p, t) :: flights r t k p := by rw [flights, if_neg hp]
      have ew : walk s ((f, t) :: r) p (n - k) = walk t r p (n - k) := by rw [walk, if_neg hp]
      obtain ⟨x, ys, e1, e2, e3, e4⟩ := fl_at r t k p n h1 hr hk
      refine ⟨x, (k, p, s) :: ys, ?_, by rw [ew]; exact e2, e3, e4⟩
      rw [ef, List.filter_cons_of_pos (p := fun x : Int × Int × Int => decide (x.1 ≤ n)) hd, e1]
      rfl
theorem fl_top : ∀ (r : Lad) (s k p b : Int), 0 < s → (∀ q ∈ r, 1 ≤ q.2) → p ≤ b → ∃ x ys, ((k, p, s) :: flights r s k p).filter (fun x => decide (x.2.1 ≤ b)) = ys ++ [x] ∧ 0 < x.2.2 ∧ x.2.1 ≤ b ∧ k ≤ x.1 ∧
    walk s r p (x.1 + (b - x.2.1) / x.2.2 - k) ≤ b ∧ b < walk s r p (x.1 + (b - x.2.1) / x.2.2 - k + 1) ∧ k ≤ x.1 + (b - x.2.1) / x.2.2
  | [], s, k, p, b, hs, _, hb => by
    have e := Int.mul_ediv_add_emod (b - p) s
    have z0 := Int.emod_nonneg (b - p) (show s ≠ 0 by omega)
    have z1 := Int.emod_lt_of_pos (b - p) hs
    have z2 : 0 ≤ (b - p) / s := Int.ediv_nonneg (by omega) (by omega)
    have hc : s * ((b - p) / s) = (b - p) / s * s := Int.mul_comm _ _
    refine ⟨(k, p, s), [], by simp [flights, hb], hs, hb, Int.le_refl _, ?_, ?_, by simp; omega⟩
    · show p + (k + (b - p) / s - k) * s ≤ b
      rw [show k + (b - p) / s - k = (b - p) / s by omega]
      omega
    · show b < p + (k + (b - p) / s - k + 1) * s
      rw [show k + (b - p) / s - k + 1 = (b - p) / s + 1 by omega, Int.add_mul]
      omega
  | (f, t) :: r, s, k, p, b, hs, ht, hb => by
    have h1 : (0 : Int) < t := by have := ht (f, t) (by simp); simp at this; omega
    have hr : ∀ q ∈ r, 1 ≤ q.2 := fun q hq => ht q (by simp [hq])
    have hd : decide (((k, p, s) : Int × Int × Int).2.1 ≤ b) = true := by simpa using hb
    by_cases hp : p < f
    · obtain ⟨m1, m2, m3⟩ := mv_pos hs hp
      have ef : flights ((f, t) :: r) s k p = (k + (f - p + s - 1) / s, p + (f - p + s - 1) / s * s, t) :: flights r t (k + (f - p + s - 1) / s) (p + (f - p + s - 1) / s * s) := by rw [flights, if_pos hp]
      have ew : ∀ n, walk s ((f, t) :: r) p n = if n < (f - p + s - 1) / s then p + n * s else walk t r (p + (f - p + s - 1) / s * s) (n - (f - p + s - 1) / s) := fun n => by rw [walk, if_pos hp]
      rw [ef]
      generalize (f - p + s - 1) / s = mv at *
      by_cases c : p + mv * s ≤ b
      · obtain ⟨x, ys, e1, e2, e3, e4, e5, e6, e7⟩ := fl_top r t (k + mv) (p + mv * s) b h1 hr c
        refine ⟨x, (k, p, s) :: ys, by rw [List.filter_cons_of_pos (p := fun x : Int × Int × Int => decide (x.2.1 ≤ b)) hd, e1]; rfl, e2, e3, by omega, ?_, ?_, by omega⟩
        · rw [ew, if_neg (by omega), show x.1 + (b - x.2.1) / x.2.2 - k - mv = x.1 + (b - x.2.1) / x.2.2 - (k + mv) by omega]
          exact e5
        · rw [ew, if_neg (by omega), show x.1 + (b - x.2.1) / x.2.2 - k + 1 - mv = x.1 + (b - x.2.1) / x.2.2 - (k + mv) + 1 by omega]
          exact e6
      · have e := Int.mul_ediv_add_emod (b - p) s
        have z0 := Int.emod_nonneg (b - p) (show s ≠ 0 by omega)
        have z1 := Int.emod_lt_of_pos (b - p) hs
        have z2 : 0 ≤ (b - p) / s := Int.ediv_nonneg (by omega) (by omega)
        have hc : s * ((b - p) / s) = (b - p) / s * s := Int.mul_comm _ _
        have z3 : (b - p) / s < mv := Int.ediv_lt_of_lt_mul hs (by omega)
        refine ⟨(k, p, s), [], ?_, hs, hb, Int.le_refl _, ?_, ?_, by simp; omega⟩
        · rw [List.filter_cons_of_pos (p := fun x : Int × Int × Int => decide (x.2.1 ≤ b)) hd, List.filter_eq_nil_iff.mpr]
          · rfl
          · intro x hx
            rcases List.mem_cons.mp hx with rfl | hx
            · simp
              omega
            · have := (flights_rung r t _ _ h1 hr x hx).2
              simp
              omega
        · show walk s ((f, t) :: r) p (k + (b - p) / s - k) ≤ b
          rw [ew, if_pos (by omega), show k + (b - p) / s - k = (b - p) / s by omega]
          omega
        · show b < walk s ((f, t) :: r) p (k + (b - p) / s - k + 1)
          rw [ew]
          by_cases c2 : k + (b - p) / s - k + 1 < mv
          · rw [if_pos c2, show k + (b - p) / s - k + 1 = (b - p) / s + 1 by omega, Int.add_mul]
            omega
          · rw [if_neg c2, show k + (b - p) / s - k + 1 - mv = 0 by omega, walk_zero r t _ h1 hr]
            omega
    · have ef : flights ((f, t) :: r) s k p = (k, p, t) :: flights r t k p := by rw [flights, if_neg hp]
      have ew : ∀ n, walk s ((f, t) :: r) p n = walk t r p n := fun n => by rw [walk, if_neg hp]
      obtain ⟨x, ys, e1, e2, e3, e4, e5, e6, e7⟩ := fl_top r t k p b h1 hr hb
      refine ⟨x, (k, p, s) :: ys, ?_, e2, e3, e4, by rw [ew]; exact e5, by rw [ew]; exact e6, e7⟩
      rw [ef, List.filter_cons_of_pos (p := fun x : Int × Int × Int => decide (x.2.1 ≤ b)) hd, e1]
      rfl
end Mi
namespace Mi
open PySem PySem.Spec PyProof.Rows L2 Classical
section
variable {Q : D → Mem → Prop} {QW : Wk → Mem → Prop} {m : Mem}
theorem p_cutR {n : Nat} {xs : List D} {lo hi : Option Int} (h : m[n]? = some (.lst xs)) (q : Q (.ref m.length) (m ++ [.lst (cutD xs lo hi)])) : (dCut (.ref n) lo hi m).post Q := by
  simp only [dCut, h]
  exact q
theorem p_cutF {xs : List D} {lo hi : Option Int} (q : Q (.ref m.length) (m ++ [.lst (cutD xs lo hi)])) : (dCut (.fro xs) lo hi m).post Q := q
theorem p_cutT {xs : List D} {lo hi : Option Int} (q : Q (.tup (cutD xs lo hi)) m) : (dCut (.tup xs) lo hi m).post Q := q
theorem p_zipR {a b : Nat} {xs ys : List D} (h : m[a]? = some (.lst xs)) (h2 : m[b]? = some (.lst ys)) (q : QW ⟨zipD xs ys, fun m' => m'[a]? = some (.lst xs) ∧ m'[b]? = some (.lst ys)⟩ m) : (dZip [.ref a, .ref b] m).post QW := by
  simp only [dZip, h, h2]
  exact q
theorem p_zipT {xs ys : List D} (q : QW ⟨zipD xs ys, fun _ => True⟩ m) : (dZip [.tup xs, .tup ys] m).post QW := q
theorem p_enumR {a : Nat} {xs : List D} (h : m[a]? = some (.lst xs)) (q : QW ⟨enumD 0 xs, fun m' => m'[a]? = some (.lst xs)⟩ m) : (dEnum [.ref a] m).post QW := by
  simp only [dEnum, h]
  exact q
theorem p_enumT {xs : List D} (q : QW ⟨enumD 0 xs, fun _ => True⟩ m) : (dEnum [.tup xs] m).post QW := q
theorem p_trR {n : Nat} {xs : List D} {QB : Bool → Mem → Prop} (h : m[n]? = some (.lst xs)) (q : QB (!xs.isEmpty) m) : (dTruth (.ref n) m).post QB := by
  simp only [dTruth, h]
  exact q
theorem p_catR {a b : Nat} {xs ys : List D} (h : m[a]? = some (.lst xs)) (h2 : m[b]? = some (.lst ys)) (hl : xs.length + ys.length ≤ 1000000) (q : Q (.ref m.length) (m ++ [.lst (xs ++ ys)])) : (dAdd (.ref a) (.ref b) m).post Q := by
  simp only [dAdd, h, h2, hl, if_true]
  exact q
theorem p_max1R {n : Nat} {ns : List Int} (h : m[n]? = some (.lst (ns.map D.int))) (hne : ns ≠ []) (q : Q (.int (listMax ns)) m) : (dMax1 [.ref n] m).post Q := by
  simp only [dMax1, dInts, lstOf, h, intsOf_map, hne, if_false]
  exact q
end
theorem cut_1 (xs : List D) : cutD xs (some 1) none = xs.drop 1 := by
  unfold cutD
  rw [show HT.sIx xs.length 0 (some 1) = min 1 xs.length from HT.sIx_nat xs.length 0 1, HT.sIx_none]
  cases xs with
  | nil => rfl
  | cons x r =>
    rw [show min 1 (x :: r).length = 1 by rw [List.length_cons]; omega]
    simp
theorem cut_m1 (xs : List D) : cutD xs none (some (-1)) = xs.dropLast := by
  unfold cutD
  have h : HT.sIx xs.length xs.length (some (-1)) = xs.length - 1 := by
    unfold HT.sIx
    simp
    omega
  rw [h, HT.sIx_none, List.dropLast_eq_take]
  simp
theorem last_at {α : Type} (ys : List α) (x : α) : atI (ys ++ [x]) (-1) = some x := atI_last ys x
theorem all_true {ys : List D} {n : Nat} {m : Mem} {Q : D → Mem → Prop} (h : m[n]? = some (.lst ys)) (ht : ∀ y ∈ ys, y = .bl true) (q : Q (.bl true) m) : (dAll [.ref n] m).post Q := by
  have e : ys = (List.replicate ys.length true).map D.bl := by
    rw [List.map_replicate]
    exact List.eq_replicate_iff.mpr ⟨rfl, ht⟩
  rw [e] at h
  refine p_allR h ?_
  have : (List.replicate ys.length true).all id = true := by simp
  rw [this]
  exact q
theorem zip_up : ∀ (ns : List Int), ns.Pairwise (· < ·) → ∀ d ∈ zipD (ns.map D.int) ((ns.map D.int).drop 1), ∃ a b : Int, d = .tup [.int a, .int b] ∧ a < b
  | [], _, d, hd => by simp [zipD] at hd
  | [x], _, d, hd => by simp [zipD] at hd
  | x :: y :: r, h, d, hd => by
    rw [List.pairwise_cons] at h
    simp only [List.map_cons, List.drop_succ_cons, List.drop_zero, zipD] at hd
    rcases List.mem_cons.mp hd with rfl | hd
    · exact ⟨x, y, rfl, h.1 y (by simp)⟩
    · exact zip_up (y :: r) h.2 d (by simpa using hd)
abbrev flD (x : Int × Int × Int) : D := .tup [.int x.1, .int x.2.1, .int x.2.2]
theorem lAt {n : Nat} {m : Mem} {xs : List D} (h : m[n]? = some (.lst xs)) : Mi.listAt (.ref n) m = true := by simp [Mi.listAt, h]
theorem fl_mem {r : Lad} {s st : Int} {x : Int × Int × Int} {ys : List (Int × Int × Int)} {B : Int × Int × Int → Bool} (hs : 0 < s) (hr : ∀ q ∈ r, 1 ≤ q.2) (e : ((0, st, s) :: flights r s 0 st).filter B = ys ++ [x]) : 0 ≤ x.1 := by
  have hx : x ∈ ((0, st, s) :: flights r s 0 st).filter B := by rw [e]; simp
  have hx := (List.mem_filter.mp hx).1
  rcases List.mem_cons.mp hx with rfl | hx
  · exact Int.le_refl _
  · exact (flights_rung r s 0 st hs hr x hx).1
theorem fl_len : ∀ (l : Lad) (a b c : Int), (flights l a b c).length = l.length
  | [], _, _, _ => rfl
  | (f, t) :: l, a, b, c => by
    unfold flights
    split <;> simp [fl_len l]
theorem fl_step : ∀ (l : Lad) (a b c : Int), (∀ q ∈ l, 1 ≤ q.2 ∧ q.2 ≤ 100000) → ∀ x ∈ flights l a b c, 1 ≤ x.2.2 ∧ x.2.2 ≤ 100000
  | [], _, _, _, _, x, hx => by simp [flights] at hx
  | (f, t) :: l, a, b, c, h, x, hx => by
    have h1 := h (f, t) (by simp)
    have hr : ∀ q ∈ l, 1 ≤ q.2 ∧ q.2 ≤ 100000 := fun q hq => h q (by simp [hq])
    unfold flights at hx
    split at hx
    · rcases List.mem_cons.mp hx with rfl | hx
      · exact h1
      · exact fl_step l _ _ _ hr x hx
    · rcases List.mem_cons.mp hx with rfl | hx
      · exact h1
      · exact fl_step l _ _ _ hr x hx
end Mi
namespace Mi
open PySem PySem.Spec PyProof.Rows L2 Classical
theorem toPy_map {α : Type} {m : Mem} {f : α → D} {g : α → PyData} {n : Nat} (h : ∀ a, toPy m n (f a) = some (g a)) : ∀ as : List α, (as.map f).mapM (toPy m n) = some (as.map g)
  | [] => rfl
  | a :: as => by
    rw [List.map_cons, List.mapM_cons, h a, toPy_map h as]
    rfl
theorem lay_map {α : Type} {g : α → PyData} (h : ∀ a, (g a).canLay0 = true) : ∀ as : List α, PyData.canLayAll0 (as.map g) = true
  | [] => by simp [PyData.canLayAll0]
  | a :: as => by simp [PyData.canLayAll0, h a, lay_map h as]
theorem deep_map {α : Type} {g : α → PyData} (h : ∀ a, (g a).depth ≤ 5) : ∀ as : List α, PyData.depthAll (as.map g) ≤ 5
  | [] => by simp [PyData.depthAll]
  | a :: as => by
    have h1 := h a
    have h2 := deep_map h as
    simp only [List.map_cons, PyData.depthAll]
    omega
theorem p_neE {α : Type} {m : Mem} {f : α → D} {g : α → PyData} {as : List α} {k k2 : Nat} {Q : D → Mem → Prop} (h : ∀ a, toPy m 11 (f a) = some (g a)) (hc : ∀ a, (g a).canLay0 = true) (hd : ∀ a, (g a).depth ≤ 5) (hk : m[k]? = some (.lst (as.map f))) (hk2 : m[k2]? = some (.lst [])) (q : Q (.bl (!as.isEmpty)) m) : (dNe (.ref k) (.ref k2) m).post Q := by
  have e1 : toPy m 12 (.ref k) = some (.list (as.map g)) := by
    show (match m[k]? with | some (.lst xs) => ((xs.mapM (toPy m 11)).map PyData.list) | _ => none) = _
    rw [hk]
    show ((as.map f).mapM (toPy m 11)).map PyData.list = _
    rw [toPy_map h as]
    rfl
  have e2 : toPy m 12 (.ref k2) = some (.list []) := by
    show (match m[k2]? with | some (.lst xs) => ((xs.mapM (toPy m 11)).map PyData.list) | _ => none) = _
    rw [hk2]
    rfl
  have s1 : SeqAt.shaped (.list (as.map g)) = true := by
    have h1 := lay_map hc as
    have h2 := deep_map hd as
    simp only [SeqAt.shaped, PyData.canLay0, h1, PyData.depth, Bool.true_and, decide_eq_true_eq]
    simp
    omega
  have s2 : SeqAt.shaped (.list []) = true := by decide +kernel
  have e3 : PyData.eqv (.list (as.map g)) (.list []) = as.isEmpty := by cases as <;> simp [PyData.eqv, PyData.eqvAll]
  simp only [dNe, dEqB, e1, e2, s1, s2, and_self, if_true, e3]
  exact q
theorem p_neEI {m : Mem} {ns : List Int} {k k2 : Nat} {Q : D → Mem → Prop} (hk : m[k]? = some (.lst (ns.map D.int))) (hk2 : m[k2]? = some (.lst [])) (q : Q (.bl (!ns.isEmpty)) m) : (dNe (.ref k) (.ref k2) m).post Q :=
  p_neE (g := PyData.int) (fun _ => rfl) (fun _ => by simp [PyData.canLay0]) (fun _ => by simp [PyData.depth]) hk hk2 q
theorem p_neEP {m : Mem} {ps : List (Int × Int)} {k k2 : Nat} {Q : D → Mem → Prop} (hk : m[k]? = some (.lst (ps.map prD))) (hk2 : m[k2]? = some (.lst [])) (q : Q (.bl (!ps.isEmpty)) m) : (dNe (.ref k) (.ref k2) m).post Q :=
  p_neE (g := fun p => PyData.tuple [.int p.1, .int p.2]) (fun _ => rfl) (fun _ => by simp [PyData.canLay0, PyData.canLayAll0]) (fun _ => by simp [PyData.depth, PyData.depthAll]) hk hk2 q
theorem p_popR {m : Mem} {k : Nat} {xs : List D} {i : Int} {y : D} {Q : D → Mem → Prop} (h : m[k]? = some (.lst xs)) (h0 : 0 ≤ i) (h1 : i < 2 ^ 63) (hy : xs[i.toNat]? = some y) (q : Q y (m.set k (.lst (xs.eraseIdx i.toNat)))) : (dPopAt (.ref k) [.int i] m).post Q := by
  simp only [dPopAt, h, h0, h1, and_self, if_true, hy]
  exact q
theorem p_listR {m : Mem} {k : Nat} {xs : List D} {Q : D → Mem → Prop} (h : m[k]? = some (.lst xs)) (q : Q (.ref m.length) (m ++ [.lst xs])) : (dList [.ref k] m).post Q := by
  simp only [dList, seqOf, h]
  exact q
theorem p_listRg {m : Mem} {e : En} {j : Int} {Q : D → Mem → Prop} (h : 0 ≤ j ∧ j ≤ 1000000) (q : Q (.ref m.length) (m ++ [.lst (rgD 0 j.toNat)])) : (mListRg (mCons (mC (.int j)) mNil) e m).post Q := by
  show (if 0 ≤ j ∧ j ≤ 1000000 then R.ok (D.ref m.length) (m ++ [.lst (rgD 0 j.toNat)]) else .bad).post Q
  rw [if_pos h]
  exact q
theorem scL_post {α : Type} {gd : Mem → Prop} {pt : Pat} {t : MT} {x : ME} {e : En} {m : Mem} (f : α → D) (Y : α → Int) (hgd : gd m) : ∀ (as : List α) (acc : List Int), acc.length + as.length ≤ 900 →
    (∀ a ∈ as, ∃ e1, patM pt (f a) e = some e1 ∧ (t e1 m).post fun b m1 => b = true ∧ m1 = m ∧ (x e1 m1).post fun y m2 => y = .int (Y a) ∧ m2 = m) → (scL gd pt t x e (as.map f) acc m).post fun ns m' => ns = acc ++ as.map Y ∧ m' = m
  | [], acc, _, _ => by
    simp only [List.map_nil, scL, hgd, if_true, post_ok, List.append_nil]
    exact ⟨trivial, trivial⟩
  | a :: as, acc, hl, h => by
    rw [List.length_cons] at hl
    obtain ⟨e1, hp, q⟩ := h a (by simp)
    simp only [List.map_cons, scL, hgd, if_true, hp, post_bind, post_calm]
    refine q.mono fun b m1 q => ?_
    obtain ⟨rfl, rfl, q⟩ := q
    simp only [if_true, post_bind, post_calm]
    refine q.mono fun y m2 q => ?_
    obtain ⟨rfl, rfl⟩ := q
    show (if acc.length < 900 then scL gd pt t x e (as.map f) (acc ++ [Y a]) m2 else R.bad).post _
    rw [if_pos (by omega)]
    have := scL_post f Y hgd as (acc ++ [Y a]) (by simp; omega) fun b hb => h b (by simp [hb])
    refine this.mono fun ns m3 ⟨e2, e3⟩ => ⟨?_, e3⟩
    rw [e2]
    simp
theorem p_lenSc {f : MI} {pt : Pat} {t : MT} {x : ME} {vs : List Nat} {e : En} {m : Mem} {Q : D → Mem → Prop} (q : (f e m).post fun w m1 => (scL w.gd pt t x (wipeM e vs) w.its [] m1).post fun ns m2 => ns.length ≤ 900 ∧ Q (.int ((dedI ns).length : Nat)) m2) : (mLenSc f pt t x vs e m).post Q := by
  unfold mLenSc
  rw [post_bind]
  refine q.mono fun w m1 q => ?_
  rw [post_bind]
  refine q.mono fun ns m2 q => ?_
  rw [if_pos q.1]
  exact q.2
/-! ### the last rung, as one thing -/
noncomputable def topD (l : Lad) (st b : Int) : D := if h : ∃ n : Int, 0 ≤ n ∧ rungAt l st n ≤ b ∧ b < rungAt l st (n + 1) then .int (Classical.choose h) else .non
theorem topD_of {l : Lad} (g : GoodL l) {st b : Int} {v : D} (h1 : 0 ≤ st) (h : (b < st ∧ v = .non) ∨ (st ≤ b ∧ ∃ n : Int, v = .int n ∧ 0 ≤ n ∧ rungAt l st n ≤ b ∧ b < rungAt l st (n + 1))) : v = topD l st b := by
  unfold topD
  rcases h with ⟨c, rfl⟩ | ⟨_, n, rfl, n0, n1, n2⟩
  · rw [dif_neg]
    rintro ⟨n, n0, n1, _⟩
    have := rung_ge g (st := st) n0
    omega
  · have hx : ∃ n : Int, 0 ≤ n ∧ rungAt l st n ≤ b ∧ b < rungAt l st (n + 1) := ⟨n, n0, n1, n2⟩
    rw [dif_pos hx]
    obtain ⟨c0, c1, c2⟩ := Classical.choose_spec hx
    generalize Classical.choose hx = k at c0 c1 c2
    have a1 := (rung_le_iff g h1 n0 c0 n1 n2).mp c1
    have a2 := (rung_le_iff g h1 c0 n0 c1 c2).mp n1
    rw [show n = k by omega]
theorem topD_is (l : Lad) (st b : Int) : topD l st b = .non ∨ ∃ n : Int, topD l st b = .int n := by
  unfold topD
  split
  · exact .inr ⟨_, rfl⟩
  · exact .inl rfl
/-! ### bids -/
abbrev Bids := List (Int × Int)
structure GoodB (bs : Bids) : Prop where
  len : bs.length ≤ 8
  who : ∀ q ∈ bs, 0 ≤ q.1 ∧ q.1 ≤ 7
  bnd : ∀ q ∈ bs, 1 ≤ q.2 ∧ q.2 ≤ 1000000
  nd : (bs.map (·.1)).Nodup
end Mi
/-! ### the walk, over plain numbers -/
namespace Mi
open PySem PySem.Spec PyProof.Rows L2 Classical
abbrev Rn := Int × Int
/-- who takes the rung r when h took the one ahead -/
def nx (rs : List Rn) (r : Int) (h : Option Int) : Option Rn := rs.find? fun q => decide (r ≤ q.2) && !decide (h = some q.1)
structure Sx where
  a : Int
  z : Int
  one : Int
  oth : Option Int
def oD : Option Int → D
  | none => .non
  | some b => .int b
abbrev stD (s : Sx) : D := .tup [.int s.a, .int s.z, .int s.one, oD s.oth]
/-- the first rung of r, r + 2, .. that is beyond top -/
def missed (r t : Int) : Int := r + ((t - r) / 2 + 1) * 2
def endOf (r : Int) (a b : Rn) : Int := (if missed (r + 1) b.2 < missed r a.2 then missed (r + 1) b.2 else missed r a.2) - 1
def turnOf (r z : Int) (a b : Int) : Int := if (z - r) % 2 = 0 then a else b
inductive Crs (rs : List Rn) : Int → Option Int → List Sx → Prop
  | done {r : Int} {h : Option Int} : nx rs r h = none → Crs rs r h []
  | last {r : Int} {h : Option Int} {a : Rn} : nx rs r h = some a → nx rs (r + 1) (some a.1) = none → Crs rs r h [⟨r, r, a.1, none⟩]
  | more {r : Int} {h : Option Int} {a b : Rn} {cs : List Sx} : nx rs r h = some a → nx rs (r + 1) (some a.1) = some b → Crs rs (endOf r a b + 1) (some (turnOf r (endOf r a b) a.1 b.1)) cs → Crs rs r h (⟨r, endOf r a b, a.1, some b.1⟩ :: cs)
theorem nx_some {rs : List Rn} {r : Int} {h : Option Int} {a : Rn} (e : nx rs r h = some a) : a ∈ rs ∧ r ≤ a.2 ∧ h ≠ some a.1 := by
  have h1 := List.mem_of_find?_eq_some e
  have h2 := List.find?_some e
  simp at h2
  exact ⟨h1, h2.1, h2.2⟩
theorem nx_split {rs : List Rn} {r : Int} {h : Option Int} {a : Rn} (e : nx rs r h = some a) : ∃ p s, rs = p ++ a :: s ∧ ∀ c ∈ p, ¬ (r ≤ c.2 ∧ h ≠ some c.1) := by
  obtain ⟨h1, p, s, h2, h3⟩ := List.find?_eq_some_iff_append.mp e
  refine ⟨p, s, h2, fun c hc z => ?_⟩
  have := h3 c hc
  simp at this
  rcases this with w | w
  · have := z.1
    omega
  · exact z.2 w
theorem nx_none {rs : List Rn} {r : Int} {h : Option Int} (e : nx rs r h = none) : ∀ c ∈ rs, r ≤ c.2 → h = some c.1 := by
  intro c hc hr
  have := List.find?_eq_none.mp e c hc
  simp at this
  exact this hr
theorem nx_of {rs p s : List Rn} {r : Int} {h : Option Int} {a : Rn} (e : rs = p ++ a :: s) (h1 : r ≤ a.2) (h2 : h ≠ some a.1) (h3 : ∀ c ∈ p, ¬ (r ≤ c.2 ∧ h ≠ some c.1)) : nx rs r h = some a := by
  refine List.find?_eq_some_iff_append.mpr ⟨by simp [h1, h2], p, s, e, fun c hc => ?_⟩
  have := h3 c hc
  simp only [Bool.not_eq_true', Bool.and_eq_false_iff, decide_eq_false_iff_not, Bool.not_eq_false', decide_eq_true_eq]
  by_cases c1 : r ≤ c.2
  · right
    by_cases c2 : h = some c.1
    · exact c2
    · exact absurd ⟨c1, c2⟩ this
  · exact .inl c1
theorem end_facts {r : Int} {a b : Rn} (ha : r ≤ a.2) (hb : r + 1 ≤ b.2) : r + 1 ≤ endOf r a b ∧ ((endOf r a b - r) % 2 = 0 → b.2 < endOf r a b + 1 ∧ endOf r a b ≤ a.2 ∧ endOf r a b - 1 ≤ b.2) ∧ ((endOf r a b - r) % 2 ≠ 0 → a.2 < endOf r a b + 1 ∧ endOf r a b ≤ b.2 ∧ endOf r a b - 1 ≤ a.2) := by
  unfold endOf missed
  split <;> refine ⟨by omega, fun h => ?_, fun h => ?_⟩ <;> omega
/-- how many still reach r -/
def al (rs : List Rn) (r : Int) : Nat := (rs.filter fun q => decide (r ≤ q.2)).length
theorem al_le (rs : List Rn) (r : Int) : al rs r ≤ rs.length := List.length_filter_le _ _
theorem al_mono {r r' : Int} (h : r ≤ r') : ∀ rs : List Rn, al rs r' ≤ al rs r
  | [] => Nat.le_refl _
  | q :: rs => by
    have ih := al_mono h rs
    unfold al at ih ⊢
    by_cases c1 : r' ≤ q.2
    · rw [List.filter_cons_of_pos (by simpa using c1), List.filter_cons_of_pos (by simp; omega)]
      simp only [List.length_cons]
      omega
    · rw [List.filter_cons_of_neg (by simpa using c1)]
      by_cases c2 : r ≤ q.2
      · rw [List.filter_cons_of_pos (by simpa using c2)]
        simp only [List.length_cons]
        omega
      · rw [List.filter_cons_of_neg (by simpa using c2)]
        exact ih
theorem al_lt {r r' : Int} (h : r ≤ r') {x : Rn} (h1 : r ≤ x.2) (h2 : x.2 < r') : ∀ rs : List Rn, x ∈ rs → al rs r' < al rs r
  | [], hx => by simp at hx
  | q :: rs, hx => by
    rcases List.mem_cons.mp hx with rfl | hx
    · have ih := al_mono h rs
      unfold al at ih ⊢
      rw [List.filter_cons_of_neg (by simp; omega), List.filter_cons_of_pos (by simpa using h1)]
      simp only [List.length_cons]
      omega
    · have ih := al_lt h h1 h2 rs hx
      unfold al at ih ⊢
      by_cases c1 : r' ≤ q.2
      · rw [List.filter_cons_of_pos (by simpa using c1), List.filter_cons_of_pos (by simp; omega)]
        simp only [List.length_cons]
        omega
      · rw [List.filter_cons_of_neg (by simpa using c1)]
        by_cases c2 : r ≤ q.2
        · rw [List.filter_cons_of_pos (by simpa using c2)]
          simp only [List.length_cons]
          omega
        · rw [List.filter_cons_of_neg (by simpa using c2)]
          exact ih
theorem al_pos {rs : List Rn} {r : Int} {x : Rn} (hx : x ∈ rs) (h : r ≤ x.2) : 0 < al rs r := by
  unfold al
  exact List.length_pos_of_mem (List.mem_filter.mpr ⟨hx, by simpa using h⟩)
theorem crs_ex (rs : List Rn) : ∀ (n : Nat) (r : Int) (h : Option Int), al rs r ≤ n → ∃ cs, Crs rs r h cs ∧ cs.length ≤ al rs r
  | n, r, h, hn => by
    cases e1 : nx rs r h with
    | none => exact ⟨[], .done e1, Nat.zero_le _⟩
    | some a =>
      obtain ⟨a1, a2, a3⟩ := nx_some e1
      have hp := al_pos a1 a2
      cases e2 : nx rs (r + 1) (some a.1) with
      | none => exact ⟨_, .last e1 e2, hp⟩
      | some b =>
        obtain ⟨b1, b2, b3⟩ := nx_some e2
        obtain ⟨f1, f2, f3⟩ := end_facts a2 b2
        have hl : al rs (endOf r a b + 1) < al rs r := by
          by_cases c : (endOf r a b - r) % 2 = 0
          · exact al_lt (by omega) (by omega) (f2 c).1 rs b1
          · exact al_lt (by omega) a2 (f3 c).1 rs a1
        cases n with
        | zero => omega
        | succ n =>
          obtain ⟨cs, c1, c2⟩ := crs_ex rs n (endOf r a b + 1) (some (turnOf r (endOf r a b) a.1 b.1)) (by omega)
          exact ⟨_, .more e1 e2 c1, by rw [List.length_cons]; omega⟩
theorem crs_uniq {rs : List Rn} {r : Int} {h : Option Int} {cs ds : List Sx} (x : Crs rs r h cs) : Crs rs r h ds → cs = ds := by
  induction x generalizing ds with
  | done e => intro y; cases y with
    | done _ => rfl
    | last e1 _ => rw [e] at e1; cases e1
    | more e1 _ _ => rw [e] at e1; cases e1
  | last e e' => intro y; cases y with
    | done e1 => rw [e] at e1; cases e1
    | last e1 _ => rw [e] at e1; cases e1; rfl
    | more e1 e2 _ => rw [e] at e1; cases e1; rw [e'] at e2; cases e2
  | more e e' _ ih => intro y; cases y with
    | done e1 => rw [e] at e1; cases e1
    | last e1 e2 => rw [e] at e1; cases e1; rw [e'] at e2; cases e2
    | more e1 e2 x2 => rw [e] at e1; cases e1; rw [e'] at e2; cases e2; rw [ih x2]
/-- the takers, rung by rung -/
inductive Tks (rs : List Rn) : Int → Option Int → List Int → Prop
  | done {r : Int} {h : Option Int} : nx rs r h = none → Tks rs r h []
  | step {r : Int} {h : Option Int} {a : Rn} {ts : List Int} : nx rs r h = some a → Tks rs (r + 1) (some a.1) ts → Tks rs r h (a.1 :: ts)
/-- the two of a stretch take it by turns -/
theorem by_turns {rs : List Rn} (nd : (rs.map (·.1)).Nodup) {r : Int} {h : Option Int} {a b : Rn} (e1 : nx rs r h = some a) (e2 : nx rs (r + 1) (some a.1) = some b) :
    ∀ j : Int, 2 ≤ j → (j % 2 = 0 → r + j ≤ a.2 → nx rs (r + j) (some b.1) = some a) ∧ (j % 2 = 1 → r + j ≤ b.2 → nx rs (r + j) (some a.1) = some b) := by
  intro j hj
  obtain ⟨a1, a2, a3⟩ := nx_some e1
  obtain ⟨b1, b2, b3⟩ := nx_some e2
  obtain ⟨p, s, h1, h2⟩ := nx_split e1
  obtain ⟨p', s', h1', h2'⟩ := nx_split e2
  have one : ∀ {x y : Rn}, x ∈ rs → y ∈ rs → x.1 = y.1 → x = y := fun {x y} hx hy hxy => by
    obtain ⟨i, hi, ei⟩ := List.getElem_of_mem hx
    obtain ⟨k, hk, ek⟩ := List.getElem_of_mem hy
    have : i = k := nd_ix nd (show (rs.map (·.1))[i]? = some y.1 by rw [List.getElem?_map, List.getElem?_eq_getElem hi, ei, ← hxy]; rfl) (by rw [List.getElem?_map, List.getElem?_eq_getElem hk, ek]; rfl)
    subst this
    rw [← ei, ← ek]
  refine ⟨fun _ hr => nx_of h1 hr (fun z => b3 z.symm) fun c hc ⟨c1, c2⟩ => ?_, fun _ hr => nx_of h1' hr b3 fun c hc ⟨c1, c2⟩ => h2' c hc ⟨by omega, c2⟩⟩
  -- c stands ahead of a: it can only be the one who took the rung ahead of r
  have hcr : c ∈ rs := by rw [h1]; simp [hc]
  have hch : h = some c.1 := by
    by_cases z : h = some c.1
    · exact z
    · exact absurd ⟨by omega, z⟩ (h2 c hc)
  have hca : c.1 ≠ a.1 := fun z => a3 (by rw [hch, z])
  have hcb : c.1 ≠ b.1 := fun z => c2 (by rw [z])
  -- so c could take r + 1, and b stands ahead of it
  have hcp : c ∉ p' := fun z => h2' c z ⟨by omega, fun w => hca (Option.some.inj w).symm⟩
  have hpa : c ∈ s' := by
    rw [h1'] at hcr
    rcases List.mem_append.mp hcr with z | z
    · exact absurd z hcp
    · rcases List.mem_cons.mp z with z | z
      · exact absurd (by rw [z]) hcb
      · exact z
  -- b ahead of c ahead of a: b could have taken r
  have hbp : b ∈ p := by
    obtain ⟨p1, p2, hp⟩ := List.append_of_mem hc
    obtain ⟨s1, s2, hs⟩ := List.append_of_mem hpa
    have hbr : b ∈ rs := b1
    rw [h1] at hbr
    rcases List.mem_append.mp hbr with z | z
    · exact z
    · exfalso
      -- the place of c is ahead of a's, that of b is behind: but b is ahead of c
      have hix : ∃ i k l : Nat, i < k ∧ k < l ∧ rs[i]? = some b ∧ rs[k]? = some c := by
        refine ⟨p'.length, p'.length + 1 + s1.length, p'.length + 1 + s1.length + 1, by omega, by omega, ?_, ?_⟩
        · rw [h1']; simp
        · rw [h1', hs, List.getElem?_append_right (by omega)]
          rw [show p'.length + 1 + s1.length - p'.length = s1.length + 1 by omega]
          simp
      obtain ⟨i, k, _, hik, _, gi, gk⟩ := hix
      have gk' : rs[p1.length]? = some c := by rw [h1, hp]; simp
      have ek : k = p1.length := nd_ix nd (show (rs.map (·.1))[k]? = some c.1 by rw [List.getElem?_map, gk]; rfl) (by rw [List.getElem?_map, gk']; rfl)
      have hlt : i < p.length := by
        have : p1.length < p.length := by rw [hp]; simp
        omega
      have : rs[i]? = p[i]? := by rw [h1, List.getElem?_append_left hlt]
      rw [gi] at this
      have hbp : b ∈ p := List.mem_of_getElem? this.symm
      rcases List.mem_cons.mp z with z | z
      · exact b3 (by rw [z])
      · have hnd := nd
        rw [h1, List.map_append, List.nodup_append] at hnd
        exact hnd.2.2 b.1 (List.mem_map.mpr ⟨b, hbp, rfl⟩) b.1 (List.mem_map.mpr ⟨b, by simp [z], rfl⟩) rfl
  have hbh : h = some b.1 := by
    by_cases z : h = some b.1
    · exact z
    · exact absurd ⟨by omega, z⟩ (h2 b hbp)
  rw [hch] at hbh
  exact hcb (Option.some.inj hbh)

/-- who took rung r + j - 1, within a stretch -/
def holdAt (h : Option Int) (a b : Int) (j : Nat) : Option Int := if j = 0 then h else if j % 2 = 1 then some a else some b
theorem nx_in {rs : List Rn} (nd : (rs.map (·.1)).Nodup) {r : Int} {h : Option Int} {a b : Rn} (e1 : nx rs r h = some a) (e2 : nx rs (r + 1) (some a.1) = some b) (j : Nat) (hj : r + j ≤ endOf r a b) :
    nx rs (r + j) (holdAt h a.1 b.1 j) = some (if j % 2 = 0 then a else b) := by
  obtain ⟨a1, a2, a3⟩ := nx_some e1
  obtain ⟨b1, b2, b3⟩ := nx_some e2
  obtain ⟨f1, f2, f3⟩ := end_facts a2 b2
  have bt := by_turns nd e1 e2 j
  match j, hj, bt with
  | 0, _, _ => simpa [holdAt] using e1
  | 1, _, _ => simpa [holdAt] using e2
  | j + 2, hj, bt =>
    obtain ⟨t1, t2⟩ := bt (by omega)
    by_cases c : j % 2 = 0
    · have c2 : (j + 2) % 2 = 0 := by omega
      have hr : r + ((j + 2 : Nat) : Int) ≤ a.2 := by
        by_cases p : (endOf r a b - r) % 2 = 0
        · have := (f2 p).2.1; omega
        · have := (f3 p).2.2; omega
      have := t1 (by omega) hr
      simp only [holdAt, c2]
      simpa using this
    · have c2 : (j + 2) % 2 = 1 := by omega
      have hr : r + ((j + 2 : Nat) : Int) ≤ b.2 := by
        by_cases p : (endOf r a b - r) % 2 = 0
        · have := (f2 p).2.2; omega
        · have := (f3 p).2.1; omega
      have := t2 (by omega) hr
      simp only [holdAt, c2]
      simpa using this
def alt (a b : Int) (n : Nat) : List Int := (List.range n).map fun j => if j % 2 = 0 then a else b
theorem alt_succ (a b : Int) (n : Nat) : alt a b (n + 1) = alt a b n ++ [if n % 2 = 0 then a else b] := by simp [alt, List.range_succ]
theorem alt_len (a b : Int) (n : Nat) : (alt a b n).length = n := by simp [alt]
theorem tks_split {rs : List Rn} (nd : (rs.map (·.1)).Nodup) {r : Int} {h : Option Int} {a b : Rn} (e1 : nx rs r h = some a) (e2 : nx rs (r + 1) (some a.1) = some b) {ts : List Int} (x : Tks rs r h ts) : ∀ n : Nat, r + n ≤ endOf r a b + 1 → ∃ ts', ts = alt a.1 b.1 n ++ ts' ∧ Tks rs (r + n) (holdAt h a.1 b.1 n) ts'
  | 0, _ => ⟨ts, by simp [alt], by simpa [holdAt] using x⟩
  | n + 1, hn => by
    obtain ⟨ts', h1, h2⟩ := tks_split nd e1 e2 x n (by omega)
    have hx := nx_in nd e1 e2 n (by omega)
    cases h2 with
    | done e => rw [hx] at e; cases e
    | @step _ _ c ts2 e y =>
      rw [hx] at e
      cases e
      refine ⟨ts2, ?_, ?_⟩
      · rw [h1, alt_succ]
        by_cases c : n % 2 = 0 <;> simp [c]
      · rw [show r + ((n + 1 : Nat) : Int) = r + n + 1 by omega]
        have : holdAt h a.1 b.1 (n + 1) = some (if n % 2 = 0 then a else b).1 := by
          unfold holdAt
          by_cases c : n % 2 = 0
          · simp [c, show (n + 1) % 2 = 1 by omega]
          · simp [c, show ¬ (n + 1) % 2 = 1 by omega]
        rw [this]
        exact y
/-- who takes a rung, by the course -/
def takerC (cs : List Sx) (r : Int) : Option Int := match cs.find? (fun s => decide (r ≤ s.z)) with
  | none => none
  | some s => if (r - s.a) % 2 = 0 then some s.one else s.oth
def rungsC (cs : List Sx) : Int := match cs.getLast? with
  | none => 0
  | some s => s.z + 1
theorem hold_end {h : Option Int} {r z : Int} {a b : Int} {n : Nat} (hn : z + 1 = r + n) (hz : r ≤ z) : holdAt h a b n = some (turnOf r z a b) := by
  unfold holdAt turnOf
  rw [if_neg (by omega)]
  by_cases c : n % 2 = 1
  · rw [if_pos c, if_pos (by omega)]
  · rw [if_neg c, if_neg (by omega)]
theorem crs_tks {rs : List Rn} (nd : (rs.map (·.1)).Nodup) {r : Int} {h : Option Int} {cs : List Sx} (x : Crs rs r h cs) : ∀ {ts : List Int}, Tks rs r h ts → (∀ k : Nat, takerC cs (r + k) = ts[k]?) ∧ (∀ s, cs.getLast? = some s → s.z + 1 = r + ts.length) ∧ (cs = [] → ts = []) := by
  induction x with
  | done e =>
    intro ts y
    cases y with
    | done _ => exact ⟨fun k => by simp [takerC], fun s hs => by simp at hs, fun _ => rfl⟩
    | step e1 _ => rw [e] at e1; cases e1
  | @last r h a e e' =>
    intro ts y
    cases y with
    | done e1 => rw [e] at e1; cases e1
    | step e1 y2 =>
      rw [e] at e1
      cases e1
      cases y2 with
      | step e2 _ => rw [e'] at e2; cases e2
      | done _ =>
        refine ⟨fun k => ?_, fun s hs => by simp at hs; subst hs; simp, fun z => by cases z⟩
        unfold takerC
        cases k with
        | zero => simp
        | succ k =>
          rw [List.find?_cons_of_neg (by simp; omega)]
          simp
  | @more r h a b cs e1 e2 x ih =>
    intro ts y
    obtain ⟨a1, a2, a3⟩ := nx_some e1
    obtain ⟨b1, b2, b3⟩ := nx_some e2
    obtain ⟨f1, f2, f3⟩ := end_facts a2 b2
    obtain ⟨n, hn⟩ : ∃ n : Nat, endOf r a b + 1 = r + n := ⟨(endOf r a b + 1 - r).toNat, by omega⟩
    obtain ⟨ts', t1, t2⟩ := tks_split nd e1 e2 y n (by omega)
    rw [← hn, hold_end hn (by omega)] at t2
    obtain ⟨i1, i2, i3⟩ := ih t2
    refine ⟨fun k => ?_, fun s hs => ?_, fun z => by cases z⟩
    · by_cases c : r + k ≤ endOf r a b
      · unfold takerC
        rw [List.find?_cons_of_pos (by simpa using c)]
        have hk : k < n := by omega
        rw [t1, List.getElem?_append_left (by rw [alt_len]; exact hk)]
        simp only [alt, List.getElem?_map, List.getElem?_range hk, Option.map_some]
        by_cases c2 : k % 2 = 0
        · rw [if_pos (by omega), if_pos c2]
        · rw [if_neg (by omega), if_neg c2]
      · have := i1 (k - n)
        have e : endOf r a b + 1 + ((k - n : Nat) : Int) = r + k := by omega
        rw [e] at this
        rw [t1, List.getElem?_append_right (by rw [alt_len]; omega), alt_len, ← this]
        unfold takerC
        rw [List.find?_cons_of_neg (by simpa using c)]
    · cases cs with
      | nil =>
        have : ts' = [] := i3 rfl
        subst this
        simp at hs
        subst hs
        rw [t1, List.append_nil, alt_len]
        simpa using hn
      | cons c cs =>
        rw [List.getLast?_cons_cons] at hs
        have := i2 s hs
        rw [this, t1, List.length_append, alt_len]
        omega
theorem tks_ex (rs : List Rn) (B : Int) (hB : ∀ q ∈ rs, q.2 ≤ B) : ∀ (n : Nat) (r : Int) (h : Option Int), B + 1 - r ≤ n → ∃ ts, Tks rs r h ts ∧ (ts.length : Int) ≤ n
  | n, r, h, hn => by
    cases e : nx rs r h with
    | none => exact ⟨[], .done e, by simp⟩
    | some a =>
      obtain ⟨a1, a2, a3⟩ := nx_some e
      have := hB a a1
      cases n with
      | zero => omega
      | succ n =>
        obtain ⟨ts, t1, t2⟩ := tks_ex rs B hB n (r + 1) (some a.1) (by omega)
        exact ⟨_, .step e t1, by simp; omega⟩
/-- where the stretches lie -/
theorem crs_shape {rs : List Rn} {r : Int} {h : Option Int} {cs : List Sx} (x : Crs rs r h cs) : ∀ s ∈ cs, r ≤ s.a ∧ s.a ≤ s.z ∧ (s.oth = none ↔ s.a = s.z) ∧ (∃ q ∈ rs, q.1 = s.one) ∧ (∀ o, s.oth = some o → o ≠ s.one ∧ ∃ q ∈ rs, q.1 = o) ∧ (∃ q ∈ rs, s.z ≤ q.2) := by
  induction x with
  | done e => intro s hs; simp at hs
  | @last r h a e e' =>
    intro s hs
    simp at hs
    subst hs
    obtain ⟨a1, a2, a3⟩ := nx_some e
    exact ⟨Int.le_refl _, Int.le_refl _, by simp, ⟨a, a1, rfl⟩, by simp, a, a1, a2⟩
  | @more r h a b cs e1 e2 x ih =>
    intro s hs
    obtain ⟨a1, a2, a3⟩ := nx_some e1
    obtain ⟨b1, b2, b3⟩ := nx_some e2
    obtain ⟨f1, f2, f3⟩ := end_facts a2 b2
    rcases List.mem_cons.mp hs with rfl | hs
    · refine ⟨Int.le_refl _, by simp; omega, by simp; omega, ⟨a, a1, rfl⟩, fun o ho => ?_, ?_⟩
      · cases ho
        exact ⟨fun z => b3 (by rw [z]), b, b1, rfl⟩
      · by_cases c : (endOf r a b - r) % 2 = 0
        · exact ⟨a, a1, (f2 c).2.1⟩
        · exact ⟨b, b1, (f3 c).2.1⟩
    · obtain ⟨i1, i2⟩ := ih s hs
      exact ⟨by omega, i2⟩
end Mi
namespace Mi
open PySem PySem.Spec PyProof.Rows L2 Classical
/-! ### who runs, how far -/
def topO : D → Option Int
  | .int n => some n
  | _ => none
noncomputable def runs (l : Lad) (s : Int) (bs : Bids) : List Rn := bs.filterMap fun q => (topO (topD l s q.2)).map fun n => (q.1, n)
theorem topD_spec {l : Lad} {st b n : Int} (h : topD l st b = .int n) : 0 ≤ n ∧ rungAt l st n ≤ b ∧ b < rungAt l st (n + 1) := by
  unfold topD at h
  split at h
  · rename_i hx
    have := Classical.choose_spec hx
    cases h
    exact this
  · cases h
theorem topD_le {l : Lad} (g : GoodL l) {st b n : Int} (h1 : 0 ≤ st) (h : topD l st b = .int n) : 0 ≤ n ∧ st + n ≤ b := by
  obtain ⟨a0, a1, a2⟩ := topD_spec h
  have := rung_mono g h1 (a := 0) (by omega) n.toNat
  rw [rung0 g, show (0 : Int) + (n.toNat : Int) = n by omega] at this
  exact ⟨a0, by omega⟩
theorem runs_mem {l : Lad} {s : Int} {bs : Bids} {q : Rn} (h : q ∈ runs l s bs) : ∃ b ∈ bs, b.1 = q.1 ∧ topD l s b.2 = .int q.2 := by
  obtain ⟨b, hb, e⟩ := List.mem_filterMap.mp h
  cases ht : topD l s b.2 with
  | int n =>
    rw [ht] at e
    cases e
    exact ⟨b, hb, rfl, ht⟩
  | _ => rw [ht] at e; cases e
theorem runs_sub (l : Lad) (s : Int) : ∀ bs : Bids, List.Sublist ((runs l s bs).map (·.1)) (bs.map (·.1))
  | [] => .slnil
  | b :: bs => by
    have ih := runs_sub l s bs
    unfold runs at ih ⊢
    rw [List.filterMap_cons]
    cases ht : topO (topD l s b.2) with
    | none => exact .cons _ ih
    | some n => exact .cons_cons _ ih
theorem runs_nd {l : Lad} {s : Int} {bs : Bids} (g : GoodB bs) : ((runs l s bs).map (·.1)).Nodup := g.nd.sublist (runs_sub l s bs)
theorem runs_len (l : Lad) (s : Int) (bs : Bids) : (runs l s bs).length ≤ bs.length := by
  have := (runs_sub l s bs).length_le
  simpa using this
/-- what is known of the runners -/
structure GoodR (rs : List Rn) : Prop where
  nd : (rs.map (·.1)).Nodup
  len : rs.length ≤ 8
  who : ∀ q ∈ rs, 0 ≤ q.1 ∧ q.1 ≤ 7
  top : ∀ q ∈ rs, 0 ≤ q.2 ∧ q.2 ≤ 1000000
theorem goodR {l : Lad} {s : Int} {bs : Bids} (gl : GoodL l) (gb : GoodB bs) (hs : 1 ≤ s) : GoodR (runs l s bs) where
  nd := runs_nd gb
  len := Nat.le_trans (runs_len l s bs) gb.len
  who := fun q hq => by
    obtain ⟨b, hb, e1, _⟩ := runs_mem hq
    rw [← e1]
    exact gb.who b hb
  top := fun q hq => by
    obtain ⟨b, hb, _, e2⟩ := runs_mem hq
    have h1 := topD_le gl (by omega) e2
    have h2 := gb.bnd b hb
    exact ⟨h1.1, by omega⟩
theorem GoodR.inj {rs : List Rn} (g : GoodR rs) {x y : Rn} (hx : x ∈ rs) (hy : y ∈ rs) (h : x.1 = y.1) : x = y := by
  obtain ⟨i, hi, ei⟩ := List.getElem_of_mem hx
  obtain ⟨k, hk, ek⟩ := List.getElem_of_mem hy
  have : i = k := nd_ix g.nd (show (rs.map (·.1))[i]? = some y.1 by rw [List.getElem?_map, List.getElem?_eq_getElem hi, ei, ← h]; rfl) (by rw [List.getElem?_map, List.getElem?_eq_getElem hk, ek]; rfl)
  subst this
  rw [← ei, ← ek]
/-! ### dicts in the calculus -/
section
variable {Q : D → Mem → Prop} {QW : Wk → Mem → Prop} {m : Mem} {e : En}
theorem p_dc {fi : MI} {pt : Pat} {t : MT} {kx x : ME} {vs : List Nat} (q : (fi e m).post fun w m1 => (dcL w.gd pt t kx x (wipeM e vs) w.its [] m1).post fun ys m2 => Q (.ref m2.length) (m2 ++ [.dic ys])) : (mDc fi pt t kx x vs e m).post Q := by
  unfold mDc
  simp only [post_bind, post_ok]
  exact q
theorem p_seal {a : ME} (q : (a e m).post fun d m1 => Q d (sealM d m1)) : (mSeal a e m).post Q := by
  unfold mSeal
  simp only [post_bind, post_ok]
  exact q
theorem p_keyd {a : ME} (q : (a e m).post fun d m1 => (dKeys d m1).post QW) : (iKeyD a e m).post QW := by
  unfold iKeyD
  simp only [post_bind]
  exact q
theorem p_keysF {n : Nat} {kvs : List (Key × D)} (h : m[n]? = some (.fdic kvs)) (q : QW ⟨kvs.map fun kv => kD kv.1, fun _ => True⟩ m) : (dKeys (.ref n) m).post QW := by
  simp only [dKeys, h]
  exact q
theorem seal_new (m : Mem) (kvs : List (Key × D)) : sealM (.ref m.length) (m ++ [.dic kvs]) = m ++ [.fdic kvs] := by
  unfold sealM
  simp only [new_at]
  rw [List.set_append_right _ _ (Nat.le_refl _)]
  simp
theorem seal_f {n : Nat} {kvs : List (Key × D)} (h : m[n]? = some (.fdic kvs)) : sealM (.ref n) m = m := by
  unfold sealM
  simp only [h]
theorem seal_d {n : Nat} {kvs : List (Key × D)} (h : m[n]? = some (.dic kvs)) : sealM (.ref n) m = m.set n (.fdic kvs) := by
  unfold sealM
  simp only [h]
theorem p_getF {n : Nat} {kvs : List (Key × D)} {j : Int} {v : D} (h : m[n]? = some (.fdic kvs)) (hk : getK kvs (.inl j) = some v) (q : Q v m) : (dGet (.ref n) (.int j) m).post Q := by
  simp only [dGet, dictAt, h, keyD, hk]
  exact q
theorem p_getD {n : Nat} {kvs : List (Key × D)} {j : Int} {v : D} (h : m[n]? = some (.dic kvs)) (hk : getK kvs (.inl j) = some v) (q : Q v m) : (dGet (.ref n) (.int j) m).post Q := by
  simp only [dGet, dictAt, h, keyD, hk]
  exact q
theorem p_izipTL {as : MA} (q : (as e m).post fun d m1 => (dZipTL d m1).post QW) : (iZipTL as e m).post QW := by
  unfold iZipTL
  simp only [post_bind]
  exact q
theorem p_zipTL {b : Nat} {xs ys : List D} (h2 : m[b]? = some (.lst ys)) (q : QW ⟨zipD xs ys, fun m' => m'[b]? = some (.lst ys)⟩ m) : (dZipTL [.tup xs, .ref b] m).post QW := by
  simp only [dZipTL, h2]
  exact q
theorem p_rng2 {i j : Int} (h : -(2 ^ 62) ≤ i ∧ i < 2 ^ 62 ∧ -(2 ^ 62) ≤ j ∧ j < 2 ^ 62) (q : QW ⟨rgD i (j - i).toNat, fun _ => True⟩ m) : (dRng2 [.int i, .int j] m).post QW := by
  simp only [dRng2, h, and_self, if_true]
  exact q
theorem p_irng2 {as : MA} (q : (as e m).post fun d m1 => (dRng2 d m1).post QW) : (Mi.iRng2 as e m).post QW := by
  unfold Mi.iRng2
  simp only [post_bind]
  exact q
theorem p_sortP {n : Nat} {ps : List (Int × Int)} {rev : Bool} (h : m[n]? = some (.lst (ps.map prD))) (q : Q (.ref m.length) (m ++ [.lst ((if rev = true then (psort ps).reverse else psort ps).map prD)])) : (dSortedP rev [.ref n] m).post Q := by
  simp only [dSortedP, lstOf, h, pairsD_map]
  exact q
theorem p_min1R {n : Nat} {ns : List Int} (h : m[n]? = some (.lst (ns.map D.int))) (hne : ns ≠ []) (q : Q (.int (listMin ns)) m) : (dMin1 [.ref n] m).post Q := by
  simp only [dMin1, dInts, lstOf, h, intsOf_map, hne, if_false]
  exact q
theorem p_rev2R {n : Nat} {xs : List D} (h : m[n]? = some (.lst xs)) (q : Q (.ref m.length) (m ++ [.lst xs.reverse])) : (dRev2 (.ref n) m).post Q := by
  simp only [dRev2, dRev, h]
  exact q
theorem shaped_none : SeqAt.shaped PyData.none = true := by decide +kernel
theorem p_neO {b : Int} {h : Option Int} (q : Q (.bl (!decide (h = some b))) m) : (dNe (.int b) (oD h) m).post Q := by
  cases h with
  | none =>
    have : (dNe (.int b) (oD none) m) = .ok (.bl true) m := by
      simp [dNe, dEqB, oD, toPy, shaped_int, shaped_none, PyData.eqv]
    rw [this]
    simpa using q
  | some a =>
    refine p_neI ?_
    have : (b == a) = decide (some a = some b) := by
      by_cases c : b = a
      · subst c; simp
      · have c' : ¬ a = b := fun z => c z.symm
        simp [c, c']
    rw [this]
    exact q
end
theorem foldl_put : ∀ (ds : List (Key × D)) (acc : List (Key × D)), ((acc ++ ds).map (·.1)).Nodup → ds.foldl (fun a kv => putD a kv.1 kv.2) acc = acc ++ ds
  | [], acc, _ => by simp
  | (k, v) :: ds, acc, h => by
    have hk : k ∉ acc.map (·.1) := fun z => by
      rw [List.map_append, List.nodup_append] at h
      exact h.2.2 k z k (by simp) rfl
    have e : putD acc k v = acc ++ [(k, v)] := by
      unfold putD
      rw [if_neg]
      simp only [List.any_eq_true, decide_eq_true_eq, not_exists, not_and]
      intro kv hkv z
      exact hk (List.mem_map.mpr ⟨kv, hkv, z⟩)
    rw [List.foldl_cons, e, foldl_put ds _ (by simpa using h)]
    simp
/-- a dict comprehension whose parts leave the store but for new things -/
theorem dc_pure {gd : Mem → Prop} {pt : Pat} {t : MT} {kx x : ME} {e : En} {m : Mem} (B : D → Bool) (F : D → Key × D) (hgd : ∀ m', Gr m m' → gd m') : ∀ (ds : List D) (acc : List (Key × D)) (m0 : Mem), Gr m m0 → acc.length + ds.length ≤ 1000 →
    (∀ d ∈ ds, ∃ e1, patM pt d e = some e1 ∧ ∀ m', Gr m m' → (t e1 m').post fun b m1 => b = B d ∧ Gr m' m1 ∧ (b = true → (kx e1 m1).post fun y m2 => keyD y = some (F d).1 ∧ Gr m1 m2 ∧ (x e1 m2).post fun z m3 => z = (F d).2 ∧ Gr m2 m3)) →
    (dcL gd pt t kx x e ds acc m0).post fun kvs m' => kvs = ((ds.filter B).map F).foldl (fun a kv => putD a kv.1 kv.2) acc ∧ Gr m m'
  | [], acc, m0, g, _, _ => by
    simp only [dcL, hgd m0 g, if_true, post_ok, List.filter_nil, List.map_nil, List.foldl_nil]
    exact ⟨trivial, g⟩
  | d :: ds, acc, m0, g, hl, h => by
    rw [List.length_cons] at hl
    obtain ⟨e1, hp, q⟩ := h d (by simp)
    simp only [dcL, hgd m0 g, if_true, hp, post_bind, post_calm]
    refine (q m0 g).mono fun b m1 ⟨hb, g1, hx⟩ => ?_
    cases b with
    | false =>
      simp only [Bool.false_eq_true, if_false]
      rw [List.filter_cons_of_neg (by rw [← hb]; simp)]
      exact dc_pure B F hgd ds acc m1 (g.trans g1) (by omega) fun d hd => h d (by simp [hd])
    | true =>
      simp only [if_true, post_bind, post_calm]
      refine (hx rfl).mono fun y m2 ⟨hk, g2, hz⟩ => hz.mono fun z m3 ⟨ez, g3⟩ => ?_
      rw [hk]
      show (if acc.length < 1000000 then dcL gd pt t kx x e ds (putD acc (F d).1 z) m3 else R.bad).post _
      rw [if_pos (by omega), List.filter_cons_of_pos hb.symm, List.map_cons, List.foldl_cons, ez]
      refine dc_pure B F hgd ds _ m3 (((g.trans g1).trans g2).trans g3) ?_ fun d hd => h d (by simp [hd])
      have : (putD acc (F d).1 (F d).2).length ≤ acc.length + 1 := by
        unfold putD
        split <;> simp
      omega
theorem Gr.set {m m' : Mem} (g : Gr m m') {k : Nat} (hk : m.length ≤ k) (o : O) : Gr m (m'.set k o) := by
  obtain ⟨x, rfl⟩ := g
  rw [List.set_append_right _ _ hk]
  exact ⟨_, rfl⟩
theorem getK_map {rs : List Rn} {q : Rn} (nd : (rs.map (·.1)).Nodup) (hq : q ∈ rs) : getK (rs.map fun r => ((.inl r.1 : Key), D.int r.2)) (.inl q.1) = some (.int q.2) := by
  unfold getK
  induction rs with
  | nil => simp at hq
  | cons r rs ih =>
    rw [List.map_cons] at nd ⊢
    rw [List.nodup_cons] at nd
    by_cases c : r.1 = q.1
    · rw [List.find?_cons_of_pos (by simp [c])]
      rcases List.mem_cons.mp hq with rfl | hq
      · rfl
      · exact absurd (List.mem_map.mpr ⟨q, hq, c.symm⟩) nd.1
    · rw [List.find?_cons_of_neg (by simp [c])]
      rcases List.mem_cons.mp hq with rfl | hq
      · exact absurd rfl c
      · exact ih nd.2 hq
end Mi
namespace Mi
open PySem PySem.Spec PyProof.Rows L2 Classical
/-! ### new things, told by what stands behind -/
structure New (m m' : Mem) (k : Nat) (o : O) : Prop where
  e : m' = m ++ [o]
  k : k = m.length
theorem New.gr {m m' : Mem} {k : Nat} {o : O} (h : New m m' k o) : Gr m m' := by rw [h.e]; exact Gr.app m _
theorem New.here {m m' : Mem} {k : Nat} {o : O} (h : New m m' k o) : m'[k]? = some o := by rw [h.e, h.k]; exact new_at m o
theorem New.ge {m m' : Mem} {k : Nat} {o : O} (h : New m m' k o) : m.length ≤ k := Nat.le_of_eq h.k.symm
theorem New.mk' (m : Mem) (o : O) : New m (m ++ [o]) m.length o := ⟨rfl, rfl⟩
/-- one thing of the store is changed -/
structure Upd (m m' : Mem) (k : Nat) (o : O) : Prop where
  e : m' = m.set k o
  k : k < m.length
theorem Upd.here {m m' : Mem} {k : Nat} {o : O} (h : Upd m m' k o) : m'[k]? = some o := by rw [h.e, List.getElem?_set_self h.k]
theorem Upd.other {m m' : Mem} {k j : Nat} {o o' : O} (h : Upd m m' k o) (hj : j ≠ k) (z : m[j]? = some o') : m'[j]? = some o' := by rw [h.e, List.getElem?_set_ne (Ne.symm hj)]; exact z
theorem Upd.gr {m0 m m' : Mem} {k : Nat} {o : O} (h : Upd m m' k o) (g : Gr m0 m) (hk : m0.length ≤ k) : Gr m0 m' := by rw [h.e]; exact g.set hk o
theorem Upd.len {m m' : Mem} {k : Nat} {o : O} (h : Upd m m' k o) : m'.length = m.length := by rw [h.e, List.length_set]
/-- the pen's own things -/
structure Pd (n : Nat) (m m' : Mem) : Prop where
  pen : Pen n m'
  kept : Kept n m m'
  len : m.length ≤ m'.length
theorem Pd.trans {n : Nat} {m m1 m2 : Mem} (a : Pd n m m1) (b : Pd n m1 m2) : Pd n m m2 := ⟨b.pen, a.kept.trans b.kept, Nat.le_trans a.len b.len⟩
theorem Pd.gr {n : Nat} {m m' : Mem} (hp : Pen n m) (g : Gr m m') : Pd n m m' := ⟨g.pen hp, g.kept n, g.len⟩
theorem Pd.at {n : Nat} {m m' : Mem} (a : Pd n m m') {i : Nat} {o : O} (hi : i ≠ n) (h : m[i]? = some o) : m'[i]? = some o := a.kept i o hi h
theorem Pd.refl {n : Nat} {m : Mem} (hp : Pen n m) : Pd n m m := Pd.gr hp (Gr.refl m)
theorem Pd.upd {n k : Nat} {m0 m m' : Mem} {o : O} (a : Pd n m0 m) (h : Upd m m' k o) (hk : m0.length ≤ k) (hn : k ≠ n) : Pd n m0 m' := by
  refine ⟨?_, fun i o' hi ho => ?_, by rw [h.len]; exact a.len⟩
  · obtain ⟨c, f, hc, hf⟩ := a.pen.ex
    exact ⟨c, f, h.other (Ne.symm hn) hc, hf⟩
  · have := lt_of_at ho
    exact h.other (by omega) (a.kept i o' hi ho)
theorem pen_lt' {n : Nat} {m : Mem} (hp : Pen n m) : n < m.length := by
  obtain ⟨_, _, h, _⟩ := hp.ex
  exact lt_of_at h
section
variable {Q : D → Mem → Prop} {QB : Bool → Mem → Prop} {QW : Wk → Mem → Prop} {m : Mem} {e : En} {as : MA} {a : ME}
theorem n_lst (q : (as e m).post fun xs m1 => xs.length ≤ 1000000 ∧ ∀ k m', New m1 m' k (.lst xs) → Q (.ref k) m') : (mLst as e m).post Q :=
  p_lst (q.mono fun xs m1 h => ⟨h.1, h.2 _ _ (New.mk' m1 _)⟩)
theorem n_lc {fi : MI} {pt : Pat} {vs : List Nat} {ta : MT} (q : (fi e m).post fun w m1 => (lcL w.gd pt ta a (wipeM e vs) w.its [] m1).post fun ys m2 => ∀ k m', New m2 m' k (.lst ys) → Q (.ref k) m') : (mLc fi pt ta a vs e m).post Q :=
  p_lc (q.mono fun w m1 h => h.mono fun ys m2 h => h _ _ (New.mk' m2 _))
theorem n_cutR {n : Nat} {xs : List D} {lo hi : Option Int} (h : m[n]? = some (.lst xs)) (q : ∀ k m', New m m' k (.lst (Mi.cutD xs lo hi)) → Q (.ref k) m') : (dCut (.ref n) lo hi m).post Q := p_cutR h (q _ _ (New.mk' m _))
theorem n_cutF {xs : List D} {lo hi : Option Int} (q : ∀ k m', New m m' k (.lst (Mi.cutD xs lo hi)) → Q (.ref k) m') : (dCut (.fro xs) lo hi m).post Q := p_cutF (q _ _ (New.mk' m _))
theorem n_catR {a b : Nat} {xs ys : List D} (h : m[a]? = some (.lst xs)) (h2 : m[b]? = some (.lst ys)) (hl : xs.length + ys.length ≤ 1000000) (q : ∀ k m', New m m' k (.lst (xs ++ ys)) → Q (.ref k) m') : (dAdd (.ref a) (.ref b) m).post Q := p_catR h h2 hl (q _ _ (New.mk' m _))
theorem n_listR {k : Nat} {xs : List D} (h : m[k]? = some (.lst xs)) (q : ∀ k m', New m m' k (.lst xs) → Q (.ref k) m') : (dList [.ref k] m).post Q := p_listR h (q _ _ (New.mk' m _))
theorem n_listT {xs : List D} (q : ∀ k m', New m m' k (.lst xs) → Q (.ref k) m') : (dList [.tup xs] m).post Q := by
  simp only [dList, seqOf]
  exact q _ _ (New.mk' m _)
theorem n_listD {k : Nat} {kvs : List (Key × D)} (h : m[k]? = some (.dic kvs)) (q : ∀ k m', New m m' k (.lst (kvs.map fun kv => kD kv.1)) → Q (.ref k) m') : (dList [.ref k] m).post Q := by
  simp only [dList, seqOf, h]
  exact q _ _ (New.mk' m _)
theorem n_rg (q : (as e m).post fun ds m1 => ∃ j : Int, ds = [.int j] ∧ (0 ≤ j ∧ j ≤ 1000000) ∧ ∀ k m', New m1 m' k (.lst (rgD 0 j.toNat)) → Q (.ref k) m') : (mListRg as e m).post Q := by
  unfold mListRg
  rw [post_bind]
  refine q.mono ?_
  rintro ds m1 ⟨j, rfl, h, q⟩
  simp only [h, and_self, if_true]
  exact q _ _ (New.mk' m1 _)
theorem p_tupRg (q : (a e m).post fun d m1 => ∃ j : Int, d = .int j ∧ (0 ≤ j ∧ j ≤ 1000000) ∧ Q (.tup (rgD 0 j.toNat)) m1) : (mTupRg a e m).post Q := by
  unfold mTupRg
  rw [post_bind]
  refine q.mono ?_
  rintro ds m1 ⟨j, rfl, h, q⟩
  simp only [h, and_self, if_true]
  exact q
theorem n_dict0 (q : ∀ k m', New m m' k (.dic []) → Q (.ref k) m') : (mDict0 e m).post Q := q _ _ (New.mk' m _)
theorem n_dc {fi : MI} {pt : Pat} {t : MT} {kx x : ME} {vs : List Nat} (q : (fi e m).post fun w m1 => (dcL w.gd pt t kx x (wipeM e vs) w.its [] m1).post fun ys m2 => ∀ k m', New m2 m' k (.dic ys) → Q (.ref k) m') : (mDc fi pt t kx x vs e m).post Q :=
  p_dc (q.mono fun w m1 h => h.mono fun ys m2 h => h _ _ (New.mk' m2 _))
theorem n_dcS {fi : MI} {pt : Pat} {t : MT} {kx x : ME} {vs : List Nat} (q : (fi e m).post fun w m1 => (dcL w.gd pt t kx x (wipeM e vs) w.its [] m1).post fun ys m2 => ∀ k m', New m2 m' k (.fdic ys) → Q (.ref k) m') : (mSeal (mDc fi pt t kx x vs) e m).post Q :=
  p_seal (p_dc (q.mono fun w m1 h => h.mono fun ys m2 h => by rw [seal_new]; exact h _ _ (New.mk' m2 _)))
theorem p_sealF {k : Nat} {kvs : List (Key × D)} (q : (a e m).post fun d m1 => d = .ref k ∧ m1[k]? = some (.fdic kvs) ∧ Q d m1) : (mSeal a e m).post Q :=
  p_seal (q.mono fun d m1 h => by obtain ⟨rfl, h1, h2⟩ := h; rw [seal_f h1]; exact h2)
theorem n_sealD {k : Nat} {kvs : List (Key × D)} (q : (a e m).post fun d m1 => d = .ref k ∧ m1[k]? = some (.dic kvs) ∧ ∀ m', Upd m1 m' k (.fdic kvs) → Q d m') : (mSeal a e m).post Q :=
  p_seal (q.mono fun d m1 h => by obtain ⟨rfl, h1, h2⟩ := h; rw [seal_d h1]; exact h2 _ ⟨rfl, lt_of_at h1⟩)
theorem n_sortP {n : Nat} {ps : List (Int × Int)} {rev : Bool} (h : m[n]? = some (.lst (ps.map prD))) (q : ∀ k m', New m m' k (.lst ((if rev = true then (psort ps).reverse else psort ps).map prD)) → Q (.ref k) m') : (dSortedP rev [.ref n] m).post Q := p_sortP h (q _ _ (New.mk' m _))
theorem n_sortPr {n : Nat} {ps : List (Int × Int)} (h : m[n]? = some (.lst (ps.map prD))) (q : ∀ k m', New m m' k (.lst ((psort ps).reverse.map prD)) → Q (.ref k) m') : (dSortedP true [.ref n] m).post Q := n_sortP h fun k m' z => q k m' z
theorem n_sortPf {n : Nat} {ps : List (Int × Int)} (h : m[n]? = some (.lst (ps.map prD))) (q : ∀ k m', New m m' k (.lst ((psort ps).map prD)) → Q (.ref k) m') : (dSortedP false [.ref n] m).post Q := n_sortP h fun k m' z => q k m' z
theorem n_rev2R {n : Nat} {xs : List D} (h : m[n]? = some (.lst xs)) (q : ∀ k m', New m m' k (.lst xs.reverse) → Q (.ref k) m') : (dRev2 (.ref n) m).post Q := p_rev2R h (q _ _ (New.mk' m _))
theorem n_app {n : Nat} {xs : List D} {x : D} (h : m[n]? = some (.lst xs)) (hl : xs.length < 1000000) (q : ∀ m', Upd m m' n (.lst (xs ++ [x])) → Q .non m') : (dAppend (.ref n) [x] m).post Q := p_appR h hl (q _ ⟨rfl, lt_of_at h⟩)
theorem n_mtApp {n : Nat} {xs : List D} {ob : ME} (q : (ob e m).post fun d m1 => d = .ref n ∧ m1[n]? = some (.lst xs) ∧ (as e m1).post fun ds m2 => ∃ x, ds = [x] ∧ m2[n]? = some (.lst xs) ∧ xs.length < 1000000 ∧ ∀ m', Upd m2 m' n (.lst (xs ++ [x])) → Q .non m') : (mMtL dAppend ob as e m).post Q := by
  refine p_mtL (q.mono ?_)
  rintro d m1 ⟨rfl, h1, q⟩
  refine ⟨lAt h1, q.mono ?_⟩
  rintro ds m2 ⟨x, rfl, h2, hl, q⟩
  exact n_app h2 hl q
theorem n_setD {n : Nat} {kvs : List (Key × D)} {j : Int} {d : D} {QU : Unit → Mem → Prop} (h : m[n]? = some (.dic kvs)) (hl : kvs.length < 1000000) (q : ∀ m', Upd m m' n (.dic (putD kvs (.inl j) d)) → QU () m') : (dSetItem (.ref n) (.int j) d m).post QU := p_setD h hl (q _ ⟨rfl, lt_of_at h⟩)
theorem iteTr {c : Bool} {A B : Prop} (h : c = true) (q : A) : if c = true then A else B := by rw [if_pos h]; exact q
theorem iteFl {c : Bool} {A B : Prop} (h : c = false) (q : B) : if c = true then A else B := by rw [h, if_neg Bool.false_ne_true]; exact q
theorem iteBo {c : Bool} {A B : Prop} (h1 : c = true → A) (h2 : c = false → B) : if c = true then A else B := by
  cases c with
  | true => rw [if_pos rfl]; exact h1 rfl
  | false => rw [if_neg Bool.false_ne_true]; exact h2 rfl
end
section
variable {Q : D → Mem → Prop} {QB : Bool → Mem → Prop} {QW : Wk → Mem → Prop} {m : Mem} {e : En} {as : MA} {a : ME}
def RgK (d : D) (m : Mem) (Q : D → Mem → Prop) : Prop := ∃ j : Int, d = .int j ∧ (0 ≤ j ∧ j ≤ 1000000) ∧ ∀ k m', New m m' k (.lst (rgD 0 j.toNat)) → Q (.ref k) m'
def TgK (d : D) (m : Mem) (Q : D → Mem → Prop) : Prop := ∃ j : Int, d = .int j ∧ (0 ≤ j ∧ j ≤ 1000000) ∧ Q (.tup (rgD 0 j.toNat)) m
theorem n_rg1 (q : (a e m).post fun d m1 => RgK d m1 Q) : (mListRg (mCons a mNil) e m).post Q := n_rg (p_cons (q.mono fun d m1 h => by
  obtain ⟨j, rfl, h1, h2⟩ := h
  exact p_nil ⟨j, rfl, h1, h2⟩))
theorem rgk {j : Int} (h : 0 ≤ j ∧ j ≤ 1000000) (q : ∀ k m', New m m' k (.lst (rgD 0 j.toNat)) → Q (.ref k) m') : RgK (.int j) m Q := ⟨j, rfl, h, q⟩
theorem p_tg1 (q : (a e m).post fun d m1 => TgK d m1 Q) : (mTupRg a e m).post Q := p_tupRg q
theorem tgk {j : Int} (h : 0 ≤ j ∧ j ≤ 1000000) (q : Q (.tup (rgD 0 j.toNat)) m) : TgK (.int j) m Q := ⟨j, rfl, h, q⟩
theorem p_sealV {i k : Nat} {kvs : List (Key × D)} (hv : e[i]? = some (some (.ref k))) (h : m[k]? = some (.fdic kvs)) (q : Q (.ref k) m) : (mSeal (mVar i) e m).post Q := p_sealF (p_var hv ⟨rfl, h, q⟩)
theorem n_sealV {i k : Nat} {kvs : List (Key × D)} (hv : e[i]? = some (some (.ref k))) (h : m[k]? = some (.dic kvs)) (q : ∀ m', Upd m m' k (.fdic kvs) → Q (.ref k) m') : (mSeal (mVar i) e m).post Q := n_sealD (p_var hv ⟨rfl, h, q⟩)
theorem iteNnonA {A B : Prop} (h : B) : if (!isNon D.non) = true then A else B := iteFl rfl h
theorem iteNintA {A B : Prop} {i : Int} (h : A) : if (!isNon (D.int i)) = true then A else B := iteTr rfl h
theorem iteNtupA {A B : Prop} {ds : List D} (h : A) : if (!isNon (D.tup ds)) = true then A else B := iteTr rfl h
theorem iteInonA {A B : Prop} (h : A) : if (isNon D.non) = true then A else B := iteTr rfl h
theorem iteIintA {A B : Prop} {i : Int} (h : B) : if (isNon (D.int i)) = true then A else B := iteFl rfl h
theorem iteItupA {A B : Prop} {ds : List D} (h : B) : if (isNon (D.tup ds)) = true then A else B := iteFl rfl h
theorem p_eqNN (q : Q (.bl true) m) : (dEq .non .non m).post Q := by
  have h : SeqAt.shaped PyData.none = true := by decide +kernel
  simpa [dEq, dEqB, toPy, h, PyData.eqv] using q
theorem p_mulI {i j : Int} (h : CMul i j) (q : Q (.int (i * j)) m) : (dMul (.int i) (.int j) m).post Q := p_mul h q
end
/-! ### comprehensions and loops over things of one kind -/
theorem lc_on {α : Type} {gd : Mem → Prop} {pt : Pat} {t : MT} {x : ME} {e : En} {m : Mem} (f : α → D) (B : α → Bool) (Y : α → D) (as : List α) (hgd : ∀ m', Gr m m' → gd m') (hl : as.length ≤ 1000)
    (h : ∀ a ∈ as, ∃ e1, patM pt (f a) e = some e1 ∧ ∀ m', Gr m m' → (t e1 m').post fun b m1 => b = B a ∧ Gr m' m1 ∧ (b = true → (x e1 m1).post fun y m2 => y = Y a ∧ Gr m1 m2)) :
    (lcL gd pt t x e (as.map f) [] m).post fun ys m' => ys = (as.filter B).map Y ∧ Gr m m' := by
  refine lcL_inv (fun rest acc m' => Gr m m' ∧ ∃ pr rs, as = pr ++ rs ∧ rest = rs.map f ∧ acc = (pr.filter B).map Y) _ [] m ⟨Gr.refl m, [], as, rfl, rfl, rfl⟩ ?_ ?_
  · rintro acc m' ⟨g, pr, rs, e1, e2, e3⟩
    cases rs with
    | nil =>
      rw [List.append_nil] at e1
      subst e1
      exact ⟨hgd m' g, e3, g⟩
    | cons => simp at e2
  · rintro d rest acc m' ⟨g, pr, rs, e1, e2, e3⟩
    cases rs with
    | nil => simp at e2
    | cons a rs =>
      simp only [List.map_cons, List.cons.injEq] at e2
      obtain ⟨rfl, rfl⟩ := e2
      obtain ⟨en, hp, hq⟩ := h a (by rw [e1]; simp)
      refine ⟨hgd m' g, en, hp, (hq m' g).mono fun b m1 ⟨hb, g1, hx⟩ => ?_⟩
      have hlen : pr.length < 1000 := by
        have h2 := congrArg List.length e1
        simp at h2
        omega
      cases b with
      | true =>
        simp only [if_true]
        refine (hx rfl).mono fun y m2 ⟨hy, g2⟩ => ⟨?_, (g.trans g1).trans g2, pr ++ [a], rs, by rw [e1]; simp, rfl, ?_⟩
        · rw [e3, List.length_map]
          have h1 := List.length_filter_le B pr
          omega
        · rw [e3, List.filter_append, List.map_append, hy]
          simp [← hb]
      | false =>
        simp only [Bool.false_eq_true, if_false]
        refine ⟨g.trans g1, pr ++ [a], rs, by rw [e1]; simp, rfl, ?_⟩
        rw [e3, List.filter_append, List.map_append]
        simp [← hb]
theorem lc_map {α : Type} {gd : Mem → Prop} {pt : Pat} {x : ME} {e : En} {m : Mem} (f : α → D) (Y : α → D) (as : List α) (hgd : ∀ m', Gr m m' → gd m') (hl : as.length ≤ 1000)
    (h : ∀ a ∈ as, ∃ e1, patM pt (f a) e = some e1 ∧ ∀ m', Gr m m' → (x e1 m').post fun y m2 => y = Y a ∧ Gr m' m2) :
    (lcL gd pt mYes x e (as.map f) [] m).post fun ys m' => ys = as.map Y ∧ Gr m m' := by
  refine (lc_on f (fun _ => true) Y as hgd hl fun a ha => ?_).mono ?_
  · obtain ⟨e1, h1, h2⟩ := h a ha
    exact ⟨e1, h1, fun m' g => ⟨rfl, Gr.refl _, fun _ => h2 m' g⟩⟩
  · rintro ys m' ⟨rfl, g⟩
    exact ⟨by rw [List.filter_eq_self.mpr (by simp)], g⟩
theorem forL_on {α : Type} {gd : Mem → Prop} {t : MG} {b : MS} {N : En → Mem → Prop} {T : D → Mem → Prop} {e : En} {m : Mem} (f : α → D) (Iv : List α → List α → En → Mem → Prop) (as : List α) (h0 : Iv [] as e m) (hN : ∀ e m, Iv as [] e m → gd m ∧ N e m)
    (hs : ∀ pr a rs e m, as = pr ++ a :: rs → Iv pr (a :: rs) e m → gd m ∧ (t (f a) e m).post fun e1 m1 => (b e1 m1).post (fun e2 m2 => Iv (pr ++ [a]) rs e2 m2) T) : (forL gd t b (as.map f) e m).post N T := by
  refine forL_inv (fun rest e m => ∃ pr rs, as = pr ++ rs ∧ rest = rs.map f ∧ Iv pr rs e m) _ e m ⟨[], as, rfl, rfl, h0⟩ ?_ ?_
  · rintro e m ⟨pr, rs, e1, e2, h⟩
    cases rs with
    | nil =>
      rw [List.append_nil] at e1
      subst e1
      exact hN e m h
    | cons => simp at e2
  · rintro d rest e m ⟨pr, rs, e1, e2, h⟩
    cases rs with
    | nil => simp at e2
    | cons a rs =>
      simp only [List.map_cons, List.cons.injEq] at e2
      obtain ⟨rfl, rfl⟩ := e2
      obtain ⟨g, q⟩ := hs pr a rs e m e1 h
      exact ⟨g, q.mono fun e1' m1 q => q.mono (fun e2 m2 q => ⟨pr ++ [a], rs, by rw [e1]; simp, rfl, q⟩) fun _ _ q => q⟩
theorem rgD_map (lo : Int) (n : Nat) : rgD lo n = (List.range n).map fun i => D.int (lo + (i : Nat)) := rfl
/-- texts -/
theorem p_eqS {x y : Str} {Q : D → Mem → Prop} {m : Mem} (q : Q (.bl (x == y)) m) : (dEq (.str x) (.str y) m).post Q := by
  simpa [dEq, dEqB, PyData.eqv] using q
theorem p_neS {x y : Str} {Q : D → Mem → Prop} {m : Mem} (q : Q (.bl (!(x == y))) m) : (dNe (.str x) (.str y) m).post Q := by
  simpa [dNe, dEqB, PyData.eqv] using q
end Mi
namespace Mi
open PySem PySem.Spec PyProof.Rows L2 Classical
/-! ### the takers of a course, each one's last rung -/
def tkS (s : Sx) : List Int := alt s.one (s.oth.getD s.one) (s.z - s.a + 1).toNat
def tkL (cs : List Sx) : List Int := cs.flatMap tkS
inductive Cont : Int → List Sx → Prop
  | nil {r : Int} : Cont r []
  | cons {s : Sx} {cs : List Sx} : 0 ≤ s.a → s.a ≤ s.z → (s.oth = none ↔ s.a = s.z) → s.oth ≠ some s.one → Cont (s.z + 1) cs → Cont s.a (s :: cs)
theorem crs_cont {rs : List Rn} {r : Int} {h : Option Int} {cs : List Sx} (x : Crs rs r h cs) (hr : 0 ≤ r) : Cont r cs := by
  induction x with
  | done e => exact .nil
  | @last r h a e e' => exact .cons (s := ⟨r, r, a.1, none⟩) hr (Int.le_refl _) (by simp) (by simp) .nil
  | @more r h a b cs e1 e2 x ih =>
    obtain ⟨a1, a2, a3⟩ := nx_some e1
    obtain ⟨b1, b2, b3⟩ := nx_some e2
    obtain ⟨f1, f2, f3⟩ := end_facts a2 b2
    exact .cons (s := ⟨r, endOf r a b, a.1, some b.1⟩) hr (by simp; omega) (by simp; omega) (fun z => b3 (by simpa using z.symm)) (ih (by omega))
theorem crs_tkL {rs : List Rn} (nd : (rs.map (·.1)).Nodup) {r : Int} {h : Option Int} {cs : List Sx} (x : Crs rs r h cs) : ∀ {ts : List Int}, Tks rs r h ts → ts = tkL cs := by
  induction x with
  | done e =>
    intro ts y
    cases y with
    | done _ => rfl
    | step e1 _ => rw [e] at e1; cases e1
  | @last r h a e e' =>
    intro ts y
    cases y with
    | done e1 => rw [e] at e1; cases e1
    | step e1 y2 =>
      rw [e] at e1
      cases e1
      cases y2 with
      | step e2 _ => rw [e'] at e2; cases e2
      | done _ =>
        have : (r - r + 1).toNat = 1 := by omega
        simp [tkL, tkS, alt, this]
  | @more r h a b cs e1 e2 x ih =>
    intro ts y
    obtain ⟨a1, a2, a3⟩ := nx_some e1
    obtain ⟨b1, b2, b3⟩ := nx_some e2
    obtain ⟨f1, f2, f3⟩ := end_facts a2 b2
    obtain ⟨n, hn⟩ : ∃ n : Nat, endOf r a b + 1 = r + n := ⟨(endOf r a b + 1 - r).toNat, by omega⟩
    obtain ⟨ts', t1, t2⟩ := tks_split nd e1 e2 y n (by omega)
    rw [← hn, hold_end hn (by omega)] at t2
    rw [t1, ih t2]
    have : (endOf r a b - r + 1).toNat = n := by omega
    simp [tkL, tkS, this]
theorem tkS_len {s : Sx} (h : s.a ≤ s.z) : ((tkS s).length : Int) = s.z - s.a + 1 := by
  unfold tkS
  rw [alt_len]
  omega
def LastAt (ts : List Int) (b : Int) (r : Nat) : Prop := ts[r]? = some b ∧ ∀ j, r < j → ts[j]? ≠ some b
def Lst (ts : List Int) (as : List (Int × Int)) : Prop := (as.map (·.1)).Nodup ∧ ∀ (b r : Int), (b, r) ∈ as ↔ 0 ≤ r ∧ LastAt ts b r.toNat
def putR (as : List (Int × Int)) (b r : Int) : List (Int × Int) := if as.any (fun p => decide (p.1 = b)) then as.map (fun p => if p.1 = b then (p.1, r) else p) else as ++ [(b, r)]
theorem any_keys (as : List (Int × Int)) (b : Int) : as.any (fun p => decide (p.1 = b)) = true ↔ b ∈ as.map (·.1) := by
  rw [List.any_eq_true]
  constructor
  · rintro ⟨x, hx, e⟩
    exact List.mem_map.mpr ⟨x, hx, by simpa using e⟩
  · intro h
    obtain ⟨x, hx, e⟩ := List.mem_map.mp h
    exact ⟨x, hx, by simpa using e⟩
theorem mem_putR (as : List (Int × Int)) (b r b' r' : Int) : (b', r') ∈ putR as b r ↔ (b' = b ∧ r' = r) ∨ (b' ≠ b ∧ (b', r') ∈ as) := by
  unfold putR
  split
  · rename_i h
    obtain ⟨p, hp, hpb⟩ := List.any_eq_true.mp h
    simp at hpb
    rw [List.mem_map]
    constructor
    · rintro ⟨q, hq, e⟩
      split at e
      · rename_i hb
        cases e
        exact .inl ⟨hb, rfl⟩
      · rename_i hb
        subst e
        exact .inr ⟨hb, hq⟩
    · rintro (⟨rfl, rfl⟩ | ⟨hb, hm⟩)
      · exact ⟨p, hp, by rw [if_pos hpb, hpb]⟩
      · exact ⟨_, hm, by rw [if_neg hb]⟩
  · rename_i h
    have hn : ∀ r'', (b, r'') ∉ as := fun r'' z => h (List.any_eq_true.mpr ⟨_, z, by simp⟩)
    rw [List.mem_append]
    constructor
    · rintro (z | z)
      · exact .inr ⟨fun e => hn r' (e ▸ z), z⟩
      · simp at z
        exact .inl z
    · rintro (⟨rfl, rfl⟩ | ⟨hb, hm⟩)
      · exact .inr (by simp)
      · exact .inl hm
theorem nd_putR {as : List (Int × Int)} (h : (as.map (·.1)).Nodup) (b r : Int) : ((putR as b r).map (·.1)).Nodup := by
  unfold putR
  split
  · have : (as.map (fun p => if p.1 = b then (p.1, r) else p)).map (·.1) = as.map (·.1) := by
      rw [List.map_map]
      refine List.map_congr_left fun p _ => ?_
      simp only [Function.comp]
      split <;> rfl
    rw [this]
    exact h
  · rename_i hn
    rw [List.map_append, List.nodup_append]
    refine ⟨h, by simp, fun x hx y hy e => ?_⟩
    simp at hy
    subst hy
    subst e
    exact hn ((any_keys as x).mpr hx)
theorem len_putR (as : List (Int × Int)) (b r : Int) : (putR as b r).length ≤ as.length + 1 := by
  unfold putR
  split <;> simp
def dicI (rs : List (Int × Int)) : List (Key × D) := rs.map fun r => ((.inl r.1 : Key), D.int r.2)
theorem dicI_put (as : List (Int × Int)) (b r : Int) : putD (dicI as) (.inl b) (.int r) = dicI (putR as b r) := by
  have ha : ((dicI as).any fun kv => decide (kv.1 = (.inl b : Key))) = as.any (fun p => decide (p.1 = b)) := by
    unfold dicI
    rw [List.any_map]
    congr 1
    funext p
    simp
  unfold putD putR
  rw [ha]
  split
  · unfold dicI
    rw [List.map_map, List.map_map]
    refine List.map_congr_left fun p _ => ?_
    simp only [Function.comp]
    by_cases c : p.1 = b
    · simp [c]
    · simp [c]
  · unfold dicI
    simp
theorem last_uniq {ts : List Int} {b : Int} {r r' : Nat} (h : LastAt ts b r) (h' : LastAt ts b r') : r = r' := by
  rcases Nat.lt_trichotomy r r' with z | z | z
  · exact absurd h'.1 (h.2 r' z)
  · exact z
  · exact absurd h.1 (h'.2 r z)
/-- behind: all of u are x or y, the last one is y, x stands at p and not behind -/
theorem last_app_out {ts u : List Int} {b : Int} {r : Nat} (h : b ∉ u) : LastAt (ts ++ u) b r ↔ LastAt ts b r := by
  have hu : ∀ j, (ts ++ u)[j]? = some b ↔ ts[j]? = some b := fun j => by
    by_cases c : j < ts.length
    · rw [List.getElem?_append_left c]
    · rw [List.getElem?_append_right (by omega), List.getElem?_eq_none (l := ts) (by omega)]
      constructor
      · intro z
        exact absurd (List.mem_of_getElem? z) h
      · intro z
        cases z
  unfold LastAt
  rw [hu]
  constructor
  · rintro ⟨a, k⟩
    exact ⟨a, fun j hj z => k j hj ((hu j).mpr z)⟩
  · rintro ⟨a, k⟩
    exact ⟨a, fun j hj z => k j hj ((hu j).mp z)⟩
theorem last_app_in {ts u : List Int} {b : Int} {p r : Nat} (h : LastAt u b p) : LastAt (ts ++ u) b r ↔ r = ts.length + p := by
  have h2 : LastAt (ts ++ u) b (ts.length + p) := by
    refine ⟨?_, fun j hj => ?_⟩
    · rw [List.getElem?_append_right (by omega), show ts.length + p - ts.length = p by omega]
      exact h.1
    · rw [List.getElem?_append_right (by omega)]
      exact h.2 _ (by omega)
  constructor
  · intro z
    exact last_uniq z h2
  · rintro rfl
    exact h2
/-- one put: y's last place -/
theorem lst_put {ts u : List Int} {as : List (Int × Int)} (L : Lst ts as) {bs' : List (Int × Int)} (nd : (bs'.map (·.1)).Nodup) (hin : ∀ b r, (b, r) ∈ bs' ↔ (∃ p : Nat, LastAt u b p ∧ r = ts.length + p) ∨ (b ∉ u ∧ (b, r) ∈ as)) : Lst (ts ++ u) bs' := by
  refine ⟨nd, fun b r => ?_⟩
  rw [hin]
  constructor
  · rintro (⟨p, hp, rfl⟩ | ⟨hb, hm⟩)
    · refine ⟨by omega, (last_app_in hp).mpr (by omega)⟩
    · obtain ⟨h0, hl⟩ := (L.2 b r).mp hm
      exact ⟨h0, (last_app_out hb).mpr hl⟩
  · rintro ⟨h0, hl⟩
    by_cases hb : b ∈ u
    · -- the last place in u
      have : ∃ p, LastAt u b p := by
        by_cases c : r.toNat < ts.length
        · obtain ⟨i, hi, e⟩ := List.getElem_of_mem hb
          refine absurd ?_ (hl.2 (ts.length + i) (by omega))
          rw [List.getElem?_append_right (by omega), show ts.length + i - ts.length = i by omega, List.getElem?_eq_getElem hi, e]
        · refine ⟨r.toNat - ts.length, ?_, fun j hj => ?_⟩
          · have := hl.1
            rwa [List.getElem?_append_right (by omega)] at this
          · have := hl.2 (ts.length + j) (by omega)
            rwa [List.getElem?_append_right (by omega), show ts.length + j - ts.length = j by omega] at this
      obtain ⟨p, hp⟩ := this
      exact .inl ⟨p, hp, by have := (last_app_in hp).mp hl; omega⟩
    · exact .inr ⟨hb, (L.2 b r).mpr ⟨h0, (last_app_out hb).mp hl⟩⟩
theorem alt_get (a b : Int) (n i : Nat) (h : i < n) : (alt a b n)[i]? = some (if i % 2 = 0 then a else b) := by
  simp [alt, List.getElem?_map, List.getElem?_range h]
theorem alt_mem {a b x : Int} {n : Nat} (h : x ∈ alt a b n) : x = a ∨ x = b := by
  unfold alt at h
  obtain ⟨j, _, e⟩ := List.mem_map.mp h
  split at e
  · exact .inl e.symm
  · exact .inr e.symm
/-- the last places in two who take turns -/
theorem alt_last1 {a b : Int} (hab : a ≠ b) {n : Nat} (h : 1 ≤ n) : LastAt (alt a b n) (if (n - 1) % 2 = 0 then a else b) (n - 1) := by
  refine ⟨alt_get a b n (n - 1) (by omega), fun j hj => ?_⟩
  rw [List.getElem?_eq_none (by rw [alt_len]; omega)]
  simp
theorem alt_last2 {a b : Int} (hab : a ≠ b) {n : Nat} (h : 2 ≤ n) : LastAt (alt a b n) (if (n - 2) % 2 = 0 then a else b) (n - 2) := by
  refine ⟨alt_get a b n (n - 2) (by omega), fun j hj => ?_⟩
  by_cases c : j < n
  · rw [alt_get a b n j c]
    have : j = n - 1 := by omega
    subst this
    by_cases p : (n - 2) % 2 = 0
    · rw [if_pos p, if_neg (by omega)]
      simpa using fun z => hab z.symm
    · rw [if_neg p, if_pos (by omega)]
      simpa using hab
  · rw [List.getElem?_eq_none (by rw [alt_len]; omega)]
    simp
theorem one_last (a b : Int) : LastAt (alt a b 1) a 0 := by
  refine ⟨by simp [alt], fun j hj => ?_⟩
  rw [List.getElem?_eq_none (by rw [alt_len]; omega)]
  simp
theorem lst_two {ts : List Int} {as : List (Int × Int)} (L : Lst ts as) {a b : Int} (hab : a ≠ b) {n : Nat} (h : 2 ≤ n) {x y : Int} (hx : x = if (n - 2) % 2 = 0 then a else b) (hy : y = if (n - 1) % 2 = 0 then a else b) {bs' : List (Int × Int)} (nd : (bs'.map (·.1)).Nodup)
    (hin : ∀ p q : Int, (p, q) ∈ bs' ↔ (p = y ∧ q = ts.length + (n - 1 : Nat)) ∨ (p ≠ y ∧ ((p = x ∧ q = ts.length + (n - 2 : Nat)) ∨ (p ≠ x ∧ (p, q) ∈ as)))) : Lst (ts ++ alt a b n) bs' := by
  have hl1 := alt_last1 hab (n := n) (by omega)
  have hl2 := alt_last2 hab h
  rw [← hy] at hl1
  rw [← hx] at hl2
  have hxy : x ≠ y := by
    rw [hx, hy]
    by_cases p : (n - 2) % 2 = 0
    · rw [if_pos p, if_neg (by omega)]
      exact hab
    · rw [if_neg p, if_pos (by omega)]
      exact fun z => hab z.symm
  have hmem : ∀ c, c ∈ alt a b n ↔ c = x ∨ c = y := fun c => by
    constructor
    · intro hc
      have := alt_mem hc
      rw [hx, hy]
      by_cases p : (n - 2) % 2 = 0
      · rw [if_pos p, if_neg (by omega)]
        exact this
      · rw [if_neg p, if_pos (by omega)]
        exact this.symm
    · rintro (rfl | rfl)
      · exact List.mem_of_getElem? hl2.1
      · exact List.mem_of_getElem? hl1.1
  refine lst_put L nd fun p q => ?_
  rw [hin]
  constructor
  · rintro (⟨rfl, rfl⟩ | ⟨c1, ⟨rfl, rfl⟩ | ⟨c2, c3⟩⟩)
    · exact .inl ⟨_, hl1, rfl⟩
    · exact .inl ⟨_, hl2, rfl⟩
    · exact .inr ⟨fun z => ((hmem p).mp z).elim c2 c1, c3⟩
  · rintro (⟨k, hk, rfl⟩ | ⟨c1, c2⟩)
    · rcases (hmem p).mp (List.mem_of_getElem? hk.1) with rfl | rfl
      · exact .inr ⟨hxy, .inl ⟨rfl, by rw [last_uniq hk hl2]⟩⟩
      · exact .inl ⟨rfl, by rw [last_uniq hk hl1]⟩
    · have : p ≠ x ∧ p ≠ y := ⟨fun z => c1 ((hmem p).mpr (.inl z)), fun z => c1 ((hmem p).mpr (.inr z))⟩
      exact .inr ⟨this.2, .inr ⟨this.1, c2⟩⟩
theorem lst_one {ts : List Int} {as : List (Int × Int)} (L : Lst ts as) (a b : Int) {bs' : List (Int × Int)} (nd : (bs'.map (·.1)).Nodup)
    (hin : ∀ p q : Int, (p, q) ∈ bs' ↔ (p = a ∧ q = ts.length) ∨ (p ≠ a ∧ (p, q) ∈ as)) : Lst (ts ++ alt a b 1) bs' := by
  have hm : ∀ c, c ∈ alt a b 1 ↔ c = a := fun c => by simp [alt]
  refine lst_put L nd fun p q => ?_
  rw [hin]
  constructor
  · rintro (⟨rfl, rfl⟩ | ⟨c1, c2⟩)
    · exact .inl ⟨0, one_last p b, by simp⟩
    · exact .inr ⟨fun z => c1 ((hm p).mp z), c2⟩
  · rintro (⟨k, hk, rfl⟩ | ⟨c1, c2⟩)
    · have := (hm p).mp (List.mem_of_getElem? hk.1)
      subst this
      exact .inl ⟨rfl, by rw [last_uniq hk (one_last p b)]; simp⟩
    · exact .inr ⟨fun z => c1 ((hm p).mpr z), c2⟩
theorem lst_nil : Lst [] [] := ⟨List.nodup_nil, fun b r => by simp [LastAt]⟩
theorem nd_of_map {α β : Type} {f : α → β} {l : List α} (h : (l.map f).Nodup) : l.Nodup := List.Pairwise.of_map f (fun a b hne e => hne (by rw [e])) h
theorem lst_perm {ts : List Int} {as bs : List (Int × Int)} (h : Lst ts as) (h' : Lst ts bs) : as.Perm bs := by
  have nda : as.Nodup := nd_of_map h.1
  have ndb : bs.Nodup := nd_of_map h'.1
  refine (List.perm_ext_iff_of_nodup nda ndb).mpr fun p => ?_
  rw [h.2 p.1 p.2, h'.2 p.1 p.2]
theorem lst_ex : ∀ (n : Nat) (ts : List Int), ts.length = n → ∃ as, Lst ts as
  | 0, ts, h => by
    have : ts = [] := List.length_eq_zero_iff.mp h
    subst this
    exact ⟨[], lst_nil⟩
  | n + 1, ts, h => by
    rcases List.eq_nil_or_concat ts with e | ⟨us, y, e⟩
    · subst e
      simp at h
    · rw [List.concat_eq_append] at e
      subst e
      obtain ⟨as, L⟩ := lst_ex n us (by simpa using h)
      refine ⟨putR as y us.length, ?_⟩
      have := lst_one L y y (nd_putR L.1 y us.length) fun p q => mem_putR as y us.length p q
      simpa [alt] using this
def swp (p : Int × Int) : Int × Int := (p.2, p.1)
noncomputable def chainOf (ts : List Int) : List (Int × Int) := (psort ((Classical.choose (lst_ex _ ts rfl)).map swp)).reverse
theorem chainOf_eq {ts : List Int} {as : List (Int × Int)} (L : Lst ts as) : (psort (as.map swp)).reverse = chainOf ts := by
  unfold chainOf
  have L' := Classical.choose_spec (lst_ex _ ts rfl)
  congr 1
  refine psort_uniq ((psort_perm _).trans ?_) (psort_sorted _)
  exact (lst_perm L L').map swp
theorem chain_mem {ts : List Int} (r b : Int) : (r, b) ∈ chainOf ts ↔ 0 ≤ r ∧ LastAt ts b r.toNat := by
  have L' := Classical.choose_spec (lst_ex _ ts rfl)
  unfold chainOf
  rw [List.mem_reverse, (psort_perm _).mem_iff, List.mem_map, ← L'.2 b r]
  constructor
  · rintro ⟨p, hp, e⟩
    unfold swp at e
    cases e
    exact hp
  · intro h
    exact ⟨(b, r), h, rfl⟩
theorem chain_sorted (ts : List Int) : (chainOf ts).Pairwise (fun p q => q.1 < p.1) := by
  have L' := Classical.choose_spec (lst_ex _ ts rfl)
  have hm := @chain_mem ts
  have nd : (chainOf ts).Nodup := by
    unfold chainOf
    rw [(List.reverse_perm _).nodup_iff, (psort_perm _).nodup_iff]
    have := nd_of_map L'.1
    exact List.pairwise_map.mpr (this.imp fun {a b} h z => h (by
      unfold swp at z
      have h1 := congrArg Prod.fst z
      have h2 := congrArg Prod.snd z
      simp at h1 h2
      exact Prod.ext h2 h1))
  have hs : (chainOf ts).Pairwise (fun p q => lexLe q p = true) := by
    unfold chainOf
    rw [List.pairwise_reverse]
    exact psort_sorted _
  have hboth := hs.and nd
  refine hboth.imp_of_mem fun {p q} hp hq h => ?_
  obtain ⟨h1, h2⟩ := h
  rcases lexLe_iff.mp h1 with z | ⟨z1, z2⟩
  · exact z
  · exfalso
    have a1 := ((hm p.1 p.2).mp hp).2.1
    have a2 := ((hm q.1 q.2).mp hq).2.1
    rw [z1] at a2
    rw [a1] at a2
    exact h2 (Prod.ext z1.symm (Option.some.inj a2))
theorem head_of {L : List (Int × Int)} (hs : L.Pairwise (fun p q => q.1 < p.1)) {x : Int × Int} (hx : x ∈ L) (hb : ∀ y ∈ L, y.1 ≤ x.1) : ∃ L', L = x :: L' := by
  cases L with
  | nil => simp at hx
  | cons y L' =>
    rcases List.mem_cons.mp hx with rfl | h
    · exact ⟨L', rfl⟩
    · have h1 := (List.pairwise_cons.mp hs).1 x h
      have h2 := hb y (by simp)
      omega
theorem chain_lt {ts : List Int} {p : Int × Int} (h : p ∈ chainOf ts) : 0 ≤ p.1 ∧ p.1 < ts.length ∧ ts[p.1.toNat]? = some p.2 := by
  obtain ⟨h0, h1, _⟩ := (chain_mem p.1 p.2).mp h
  have := (List.getElem?_eq_some_iff.mp h1).1
  exact ⟨h0, by omega, h1⟩
theorem chain_nil : chainOf [] = [] := by
  cases h : chainOf [] with
  | nil => rfl
  | cons p L =>
    have := chain_lt (ts := []) (p := p) (by rw [h]; simp)
    simp at this
theorem chain_head (us : List Int) (y : Int) : ∃ L, chainOf (us ++ [y]) = ((us.length : Int), y) :: L := by
  refine head_of (chain_sorted _) ((chain_mem _ _).mpr ⟨by omega, ?_, fun j hj => ?_⟩) fun p hp => ?_
  · simp
  · rw [List.getElem?_eq_none (by simp; omega)]
    simp
  · have := chain_lt hp
    simp at this
    omega
theorem chain_head2 (us : List Int) (x y : Int) (hxy : x ≠ y) : ∃ L, chainOf (us ++ [x, y]) = ((us.length + 1 : Int), y) :: ((us.length : Int), x) :: L := by
  obtain ⟨L, e⟩ := chain_head (us ++ [x]) y
  rw [List.append_assoc] at e
  simp only [List.cons_append, List.nil_append, List.length_append, List.length_cons, List.length_nil] at e
  have hs := chain_sorted (us ++ [x, y])
  have hm : ((us.length : Int), x) ∈ chainOf (us ++ [x, y]) := by
    refine (chain_mem _ _).mpr ⟨by omega, by simp, fun j hj => ?_⟩
    by_cases c : j = us.length + 1
    · subst c
      rw [List.getElem?_append_right (by omega), show us.length + 1 - us.length = 1 by omega]
      simpa using fun z => hxy z.symm
    · rw [List.getElem?_eq_none (by simp; omega)]
      simp
  rw [e] at hs hm
  rcases List.mem_cons.mp hm with z | z
  · have := congrArg Prod.fst z
    simp at this
    omega
  · obtain ⟨L', e'⟩ := head_of (List.pairwise_cons.mp hs).2 z fun p hp => by
      have := (List.pairwise_cons.mp hs).1 p hp
      simp at this ⊢
      omega
    refine ⟨L', ?_⟩
    rw [e, e']
    simp
/-- how many rungs -/
theorem cont_len : ∀ {r : Int} {cs : List Sx}, Cont r cs → cs ≠ [] → ((tkL cs).length : Int) = rungsC cs - r
  | _, _, .nil, h => absurd rfl h
  | _, _, .cons (s := s) (cs := cs) h0 h1 h2 h3 h4, _ => by
    have e : tkL (s :: cs) = tkS s ++ tkL cs := by simp [tkL]
    rw [e, List.length_append]
    have hs := tkS_len h1
    cases cs with
    | nil =>
      simp only [tkL, List.flatMap_nil, List.length_nil, rungsC]
      simp
      omega
    | cons c cs =>
      have ih := cont_len h4 (by simp)
      have : rungsC (s :: c :: cs) = rungsC (c :: cs) := by simp [rungsC, List.getLast?_cons_cons]
      rw [this]
      omega
theorem cont_len0 {cs : List Sx} (h : Cont 0 cs) : ((tkL cs).length : Int) = rungsC cs := by
  cases cs with
  | nil => simp [tkL, rungsC]
  | cons c cs =>
    have := cont_len h (by simp)
    omega
theorem rungsC_le {rs : List Rn} (g : GoodR rs) {r : Int} {h : Option Int} {cs : List Sx} (x : Crs rs r h cs) : rungsC cs ≤ 1000001 := by
  unfold rungsC
  cases e : cs.getLast? with
  | none => simp
  | some s =>
    obtain ⟨q, hq, hz⟩ := (crs_shape x s (List.mem_of_getLast? e)).2.2.2.2.2
    have := g.top q hq
    simp
    omega
/-- loops over what is written out -/
theorem p_forC {gd : Mem → Prop} {t : MG} {b : MS} {d : D} {ds : List D} {e : En} {m : Mem} {N : En → Mem → Prop} {T : D → Mem → Prop} (hg : gd m) (q : (t d e m).post fun e1 m1 => (b e1 m1).post (fun e2 m2 => (forL gd t b ds e2 m2).post N T) T) : (forL gd t b (d :: ds) e m).post N T := by
  refine (w_forL_cons gd t b d ds).mpr ⟨hg, q.mono fun e1 m1 q1 => ?_⟩
  cases h2 : b e1 m1 with
  | nx e2 m2 => rw [h2] at q1; exact q1
  | rt d2 m2 => rw [h2] at q1; exact q1
  | ct e2 m2 => rw [h2] at q1; exact q1.elim
  | bk e2 m2 => rw [h2] at q1; exact q1.elim
  | exc c e2 m2 => rw [h2] at q1; exact q1.elim
  | bad => rw [h2] at q1; exact q1.elim
theorem p_forN {gd : Mem → Prop} {t : MG} {b : MS} {e : En} {m : Mem} {N : En → Mem → Prop} {T : D → Mem → Prop} (hg : gd m) (q : N e m) : (forL gd t b [] e m).post N T := (w_forL_nil gd t b).mpr ⟨hg, q⟩
end Mi
namespace Mi
open PySem PySem.Spec PyProof.Rows L2 Classical
/-! ### what repr shows -/
def Rp (d B : Nat) (y : PyData) : Prop := y.showable = true ∧ y.hasDict = false ∧ y.depth ≤ d ∧ y.shown.length ≤ B
theorem Rp.mono {d B d' B' : Nat} {y : PyData} (h : Rp d B y) (h1 : d ≤ d') (h2 : B ≤ B') : Rp d' B' y := ⟨h.1, h.2.1, Nat.le_trans h.2.2.1 h1, Nat.le_trans h.2.2.2 h2⟩
theorem log_small {n : Nat} (h : n < 2 ^ 200) : n.log2 < 1920 := by
  by_cases c : n = 0
  · subst c
    decide
  · have := (Nat.log2_lt c).mpr h
    omega
theorem rp_int {i : Int} (h : -(10 ^ 50) ≤ i ∧ i ≤ 10 ^ 50) : Rp 1 1921 (.int i) := by
  have h1 : i.natAbs.log2 < 1920 := log_small (by
    have : (i.natAbs : Int) ≤ 10 ^ 50 := by omega
    have h2 : i.natAbs ≤ 10 ^ 50 := by exact_mod_cast this
    exact Nat.lt_of_le_of_lt h2 (by decide))
  refine ⟨by simp [PyData.showable, h1], by simp [PyData.hasDict], by simp [PyData.depth], ?_⟩
  have := int_text_len_1921 h1
  simpa [PyData.shown] using this
theorem rp_non : Rp 1 1921 .none := ⟨by simp [PyData.showable], by simp [PyData.hasDict], by simp [PyData.depth], by simp only [PyData.shown]; decide⟩
theorem rp_bool (b : Bool) : Rp 1 1921 (.bool b) := ⟨by simp [PyData.showable], by simp [PyData.hasDict], by simp [PyData.depth], by cases b <;> (simp only [PyData.shown]; decide)⟩
theorem rp_all {d B : Nat} : ∀ {xs : List PyData}, (∀ x ∈ xs, Rp d B x) → PyData.showableAll xs = true ∧ PyData.hasDictAll xs = false ∧ PyData.depthAll xs ≤ d ∧ piled (PyData.shownAll xs) ≤ xs.length * (B + 2) ∧ (PyData.shownAll xs).length = xs.length
  | [], _ => ⟨rfl, rfl, by simp [PyData.depthAll], by simp [PyData.shownAll, piled], rfl⟩
  | x :: xs, h => by
    obtain ⟨h1, h2, h3, h4⟩ := h x (by simp)
    obtain ⟨i1, i2, i3, i4, i5⟩ := rp_all (xs := xs) fun y hy => h y (by simp [hy])
    refine ⟨by simp [PyData.showableAll, h1, i1], by simp [PyData.hasDictAll, h2, i2], by simp only [PyData.depthAll]; omega, ?_, by simp [PyData.shownAll, i5]⟩
    rw [PyData.shownAll, piled_cons, List.length_cons, Nat.succ_mul]
    omega
theorem rp_tup {d B n : Nat} {xs : List PyData} (h : ∀ x ∈ xs, Rp d B x) (hl : xs.length ≤ n) : Rp (d + 1) (n * (B + 2) + 4) (.tuple xs) := by
  obtain ⟨h1, h2, h3, h4, h5⟩ := rp_all h
  have hn : xs.length * (B + 2) ≤ n * (B + 2) := Nat.mul_le_mul_right _ hl
  refine ⟨by simp [PyData.showable, h1], by simp [PyData.hasDict, h2], by simp only [PyData.depth]; omega, ?_⟩
  simp only [PyData.shown, tupleText]
  rw [PySem.Str.length_append, PySem.Str.length_append]
  have e1 : ((("(" : String) : Str)).length = 1 := rfl
  have e2 : (((if (PyData.shownAll xs).length == 1 then ",)" else ")" : String) : Str)).length ≤ 2 := by
    split
    · decide
    · decide
  have e3 : (Str.join ", " (PyData.shownAll xs)).length ≤ n * (B + 2) := by
    cases xs with
    | nil => exact Nat.zero_le _
    | cons x xs =>
      have := join_length_add (PyData.shownAll (x :: xs)) (by simp [PyData.shownAll])
      omega
  omega
def ppP (p : Int × Int) : PyData := .tuple [.int p.1, .int p.2]
theorem toPy_pr (m : Mem) (n : Nat) (p : Int × Int) : toPy m (n + 2) (prD p) = some (ppP p) := rfl
theorem toPy_map' {α : Type} {m : Mem} {f : α → D} {g : α → PyData} {n : Nat} : ∀ as : List α, (∀ a ∈ as, toPy m n (f a) = some (g a)) → (as.map f).mapM (toPy m n) = some (as.map g)
  | [], _ => rfl
  | a :: as, h => by
    rw [List.map_cons, List.mapM_cons, h a (by simp), toPy_map' as fun b hb => h b (by simp [hb])]
    rfl
theorem toPy_tupm {α : Type} {m : Mem} {f : α → D} {g : α → PyData} {n : Nat} {as : List α} (h : ∀ a ∈ as, toPy m n (f a) = some (g a)) : toPy m (n + 1) (.tup (as.map f)) = some (.tuple (as.map g)) := by
  show ((as.map f).mapM (toPy m n)).map PyData.tuple = _
  rw [toPy_map' as h]
  rfl
theorem p_repr {d : D} {m : Mem} {y : PyData} {B : Nat} {Q : D → Mem → Prop} (hs : ∃ ds, seqOf d m = some ds) (hy : toPy m 12 d = some y) (hr : Rp 60 B y) (hB : B ≤ 1000000) (q : Q (.str y.shown) m) : (dRepr [d] m).post Q := by
  obtain ⟨ds, hs⟩ := hs
  simp only [dRepr, hs, hy]
  rw [if_pos ⟨hr.1, hr.2.1, hr.2.2.1, Nat.le_trans hr.2.2.2 hB⟩]
  exact q
/-- ladder, lot, bids -/
def scP (l : Lad) (s t : Int) (bs : Bids) : PyData := .tuple [.tuple (l.map ppP), .tuple [.int s, .int t], .tuple (bs.map ppP)]
theorem rp_pp {p : Int × Int} (h1 : -(10 ^ 50) ≤ p.1 ∧ p.1 ≤ 10 ^ 50) (h2 : -(10 ^ 50) ≤ p.2 ∧ p.2 ≤ 10 ^ 50) : Rp 2 4000 (ppP p) := by
  refine (rp_tup (d := 1) (B := 1921) (n := 2) (xs := [.int p.1, .int p.2]) ?_ (by simp)).mono (by omega) (by omega)
  intro x hx
  simp at hx
  rcases hx with rfl | rfl
  · exact rp_int h1
  · exact rp_int h2
theorem rp_lad {l : Lad} (g : GoodL l) : Rp 3 40000 (.tuple (l.map ppP)) := by
  refine (rp_tup (d := 2) (B := 4000) (n := 4) ?_ (by have := g.len; simpa using this)).mono (by omega) (by omega)
  intro x hx
  obtain ⟨p, hp, rfl⟩ := List.mem_map.mp hx
  have := g.st p hp
  have := g.fl p hp
  exact rp_pp ⟨by omega, by omega⟩ ⟨by omega, by omega⟩
theorem rp_bids {bs : Bids} (g : GoodB bs) : Rp 3 40000 (.tuple (bs.map ppP)) := by
  refine (rp_tup (d := 2) (B := 4000) (n := 8) ?_ (by have := g.len; simpa using this)).mono (by omega) (by omega)
  intro x hx
  obtain ⟨p, hp, rfl⟩ := List.mem_map.mp hx
  have := g.who p hp
  have := g.bnd p hp
  exact rp_pp ⟨by omega, by omega⟩ ⟨by omega, by omega⟩
theorem p_repr3 {l : Lad} {bs : Bids} {s t : Int} {m : Mem} {Q : D → Mem → Prop} (gl : GoodL l) (gb : GoodB bs) (h1 : 1 ≤ s ∧ s ≤ 1000000) (h2 : s ≤ t ∧ t ≤ 1000000) (q : Q (.str (scP l s t bs).shown) m) : (dRepr [.tup [ladD l, .tup [.int s, .int t], .tup (bs.map prD)]] m).post Q := by
  refine p_repr (y := scP l s t bs) (B := 200000) ⟨_, rfl⟩ ?_ ?_ (by omega) q
  · have e1 : toPy m 11 (ladD l) = some (.tuple (l.map ppP)) := toPy_tupm fun a _ => toPy_pr m 8 a
    have e2 : toPy m 11 (.tup (bs.map prD)) = some (.tuple (bs.map ppP)) := toPy_tupm fun a _ => toPy_pr m 8 a
    show (([ladD l, .tup [.int s, .int t], .tup (bs.map prD)] : List D).mapM (toPy m 11)).map PyData.tuple = _
    rw [List.mapM_cons, e1, List.mapM_cons, show toPy m 11 (.tup [.int s, .int t]) = some (ppP (s, t)) from rfl, List.mapM_cons, e2]
    rfl
  · refine (rp_tup (d := 3) (B := 40000) (n := 3) ?_ (by simp)).mono (by omega) (by omega)
    intro x hx
    simp at hx
    rcases hx with rfl | rfl | rfl
    · exact rp_lad gl
    · exact (rp_pp (p := (s, t)) ⟨by simp; omega, by simp; omega⟩ ⟨by simp; omega, by simp; omega⟩).mono (by omega) (by omega)
    · exact rp_bids gb
theorem p_eqE {α : Type} {m : Mem} {f : α → D} {g : α → PyData} {as : List α} {k k2 : Nat} {Q : D → Mem → Prop} (h : ∀ a, toPy m 11 (f a) = some (g a)) (hc : ∀ a, (g a).canLay0 = true) (hd : ∀ a, (g a).depth ≤ 5) (hk : m[k]? = some (.lst (as.map f))) (hk2 : m[k2]? = some (.lst [])) (q : Q (.bl as.isEmpty) m) : (dEq (.ref k) (.ref k2) m).post Q := by
  have e1 : toPy m 12 (.ref k) = some (.list (as.map g)) := by
    show (match m[k]? with | some (.lst xs) => ((xs.mapM (toPy m 11)).map PyData.list) | _ => none) = _
    rw [hk]
    show ((as.map f).mapM (toPy m 11)).map PyData.list = _
    rw [toPy_map h as]
    rfl
  have e2 : toPy m 12 (.ref k2) = some (.list []) := by
    show (match m[k2]? with | some (.lst xs) => ((xs.mapM (toPy m 11)).map PyData.list) | _ => none) = _
    rw [hk2]
    rfl
  have s1 : SeqAt.shaped (.list (as.map g)) = true := by
    have h1 := lay_map hc as
    have h2 := deep_map hd as
    simp only [SeqAt.shaped, PyData.canLay0, h1, PyData.depth, Bool.true_and, decide_eq_true_eq]
    simp
    omega
  have s2 : SeqAt.shaped (.list []) = true := by decide +kernel
  have e3 : PyData.eqv (.list (as.map g)) (.list []) = as.isEmpty := by cases as <;> simp [PyData.eqv, PyData.eqvAll]
  simp only [dEq, dEqB, e1, e2, s1, s2, and_self, if_true, e3]
  exact q
end Mi
namespace Mi
open PySem PySem.Spec PyProof.Rows L2 Classical
inductive All2 {α β : Type} (P : α → β → Prop) : List α → List β → Prop
  | nil : All2 P [] []
  | cons {a : α} {b : β} {as : List α} {bs : List β} : P a b → All2 P as bs → All2 P (a :: as) (b :: bs)
theorem All2.length {α β : Type} {P : α → β → Prop} {as : List α} {bs : List β} (h : All2 P as bs) : as.length = bs.length := by
  induction h with
  | nil => rfl
  | cons _ _ ih => simp [ih]
theorem All2.app {α β : Type} {P : α → β → Prop} {as as' : List α} {bs bs' : List β} (h : All2 P as bs) (h' : All2 P as' bs') : All2 P (as ++ as') (bs ++ bs') := by
  induction h with
  | nil => exact h'
  | cons p _ ih => exact .cons p ih
theorem All2.eq {α β : Type} {Y : α → β} {as : List α} {bs : List β} (h : All2 (fun a b => b = Y a) as bs) : bs = as.map Y := by
  induction h with
  | nil => rfl
  | cons p _ ih => rw [p, ih]; rfl
theorem All2.ex {α β γ : Type} {P : α → β → Prop} {g : γ → β} {Q : γ → Prop} {as : List α} {bs : List β} (h : All2 P as bs) (k : ∀ a b, a ∈ as → P a b → ∃ c, b = g c ∧ Q c) : ∃ cs : List γ, bs = cs.map g ∧ (∀ c ∈ cs, Q c) ∧ cs.length = as.length := by
  induction h with
  | nil => exact ⟨[], rfl, by simp, rfl⟩
  | @cons a b as bs p _ ih =>
    obtain ⟨c, e, q⟩ := k a b (by simp) p
    obtain ⟨cs, e2, q2, l2⟩ := ih fun a b ha => k a b (by simp [ha])
    exact ⟨c :: cs, by rw [e, e2]; rfl, by
      intro x hx
      rcases List.mem_cons.mp hx with rfl | hx
      · exact q
      · exact q2 x hx, by simp [l2]⟩
/-- a comprehension whose parts move the store by a relation -/
theorem lc_rel {α : Type} {Rl : Mem → Mem → Prop} (rt : ∀ {a b c : Mem}, Rl a b → Rl b c → Rl a c) {gd : Mem → Prop} {pt : Pat} {x : ME} {e : En} {m : Mem} (f : α → D) (P : α → D → Prop) (as : List α) (h0 : Rl m m) (hgd : ∀ m', Rl m m' → gd m') (hl : as.length ≤ 1000)
    (h : ∀ a ∈ as, ∃ e1, patM pt (f a) e = some e1 ∧ ∀ m', Rl m m' → (x e1 m').post fun y m2 => P a y ∧ Rl m' m2) :
    (lcL gd pt mYes x e (as.map f) [] m).post fun ys m' => All2 P as ys ∧ Rl m m' := by
  refine lcL_inv (fun rest acc m' => Rl m m' ∧ ∃ pr rs, as = pr ++ rs ∧ rest = rs.map f ∧ All2 P pr acc) _ [] m ⟨h0, [], as, rfl, rfl, .nil⟩ ?_ ?_
  · rintro acc m' ⟨g, pr, rs, e1, e2, e3⟩
    cases rs with
    | nil =>
      rw [List.append_nil] at e1
      subst e1
      exact ⟨hgd m' g, e3, g⟩
    | cons => simp at e2
  · rintro d rest acc m' ⟨g, pr, rs, e1, e2, e3⟩
    cases rs with
    | nil => simp at e2
    | cons a rs =>
      simp only [List.map_cons, List.cons.injEq] at e2
      obtain ⟨rfl, rfl⟩ := e2
      obtain ⟨en, hp, hq⟩ := h a (by rw [e1]; simp)
      refine ⟨hgd m' g, en, hp, p_yes ?_⟩
      simp only [if_true]
      refine (hq m' g).mono fun y m2 ⟨hy, g2⟩ => ⟨?_, rt g g2, pr ++ [a], rs, by rw [e1]; simp, rfl, e3.app (.cons hy .nil)⟩
      have h2 := congrArg List.length e1
      have h3 := e3.length
      simp at h2
      omega
theorem lc_pd {α : Type} {n : Nat} {gd : Mem → Prop} {pt : Pat} {x : ME} {e : En} {m : Mem} (f : α → D) (P : α → D → Prop) (as : List α) (hp : Pen n m) (hgd : ∀ m', Pd n m m' → gd m') (hl : as.length ≤ 1000)
    (h : ∀ a ∈ as, ∃ e1, patM pt (f a) e = some e1 ∧ ∀ m', Pd n m m' → (x e1 m').post fun y m2 => P a y ∧ Pd n m' m2) :
    (lcL gd pt mYes x e (as.map f) [] m).post fun ys m' => All2 P as ys ∧ Pd n m m' :=
  lc_rel (Rl := Pd n) (fun a b => a.trans b) f P as (Pd.refl hp) hgd hl h
/-- who takes a rung of a stretch -/
theorem takerC_in : ∀ {r0 : Int} {cs : List Sx}, Cont r0 cs → ∀ {c : Sx}, c ∈ cs → r0 ≤ c.a ∧ ∀ {r : Int}, c.a ≤ r → r ≤ c.z → takerC cs r = if (r - c.a) % 2 = 0 then some c.one else c.oth
  | _, _, .nil, c, h => by simp at h
  | _, _, .cons (s := s) (cs := cs) h0 h1 h2 h3 h4, c, hc => by
    rcases List.mem_cons.mp hc with rfl | hc
    · refine ⟨Int.le_refl _, fun {r} _ hr => ?_⟩
      unfold takerC
      rw [List.find?_cons_of_pos (by simpa using hr)]
    · obtain ⟨i1, i2⟩ := takerC_in h4 hc
      refine ⟨by omega, fun {r} ha hr => ?_⟩
      have := i2 ha hr
      rw [← this]
      unfold takerC
      rw [List.find?_cons_of_neg (by simp; omega)]
theorem all_bl {ys : List D} {as : List α} {n : Nat} {m : Mem} {Q : D → Mem → Prop} (h : m[n]? = some (.lst ys)) (ht : All2 (fun _ y => y = .bl true) as ys) (q : Q (.bl true) m) : (dAll [.ref n] m).post Q :=
  all_true h (fun y hy => by
    have := ht.eq (Y := fun _ => D.bl true)
    rw [this] at hy
    obtain ⟨_, _, e⟩ := List.mem_map.mp hy
    exact e.symm) q
theorem ite_mono {b : Bool} {α : Type} {r1 r2 : R α} {K : α → Mem → Prop} (P : α → Mem → Prop) (h : if b = true then r1.post P else r2.post P) (k : ∀ d m, P d m → K d m) : if b = true then r1.post K else r2.post K := by
  cases b with
  | true => exact h.mono k
  | false => exact h.mono k
theorem ite_monoS {b : Bool} {r1 r2 : RS} {N : En → Mem → Prop} {T : D → Mem → Prop} (P : En → Mem → Prop) (h : if b = true then r1.post P T else r2.post P T) (k : ∀ d m, P d m → N d m) : if b = true then r1.post N T else r2.post N T := by
  cases b with
  | true => exact RS.post.mono h k fun _ _ z => z
  | false => exact RS.post.mono h k fun _ _ z => z
theorem p_okv {α : Type} {a : α} {m : Mem} {Q : α → Mem → Prop} (q : Q a m) : (R.ok a m).post Q := q
end Mi
namespace Mi
open PySem PySem.Spec PyProof.Rows L2 Classical
/-! ### in, not in; sorted numbers -/
theorem flat_ints (gs : List Int) : (gs.map D.int).all flatD = true := by
  rw [List.all_map]
  simp [Function.comp_def, flatD]
theorem any_ints (gs : List Int) (b : Int) : ((gs.map D.int).any fun x => eqF x (.int b)) = decide (b ∈ gs) := by
  rw [List.any_map]
  have : ((fun x => eqF x (D.int b)) ∘ D.int) = fun g : Int => g == b := by
    funext g
    rfl
  rw [this, Bool.eq_iff_iff]
  simp
section
variable {Q : D → Mem → Prop} {m : Mem}
theorem p_inTI {b : Int} {gs : List Int} (q : Q (.bl (decide (b ∈ gs))) m) : (dIn (.int b) (.tup (gs.map D.int)) m).post Q := by
  unfold dIn dInB
  simp only [seqOf, flat_ints, any_ints]
  simpa [flatD] using q
theorem p_notinTI {b : Int} {gs : List Int} (q : Q (.bl (!decide (b ∈ gs))) m) : (dNotIn (.int b) (.tup (gs.map D.int)) m).post Q := by
  unfold dNotIn dInB
  simp only [seqOf, flat_ints, any_ints]
  simpa [flatD] using q
theorem p_inRI {k : Nat} {b : Int} {gs : List Int} (h : m[k]? = some (.lst (gs.map D.int))) (q : Q (.bl (decide (b ∈ gs))) m) : (dIn (.int b) (.ref k) m).post Q := by
  unfold dIn dInB
  simp only [seqOf, h, flat_ints, any_ints]
  simpa [flatD] using q
theorem p_notinRI {k : Nat} {b : Int} {gs : List Int} (h : m[k]? = some (.lst (gs.map D.int))) (q : Q (.bl (!decide (b ∈ gs))) m) : (dNotIn (.int b) (.ref k) m).post Q := by
  unfold dNotIn dInB
  simp only [seqOf, h, flat_ints, any_ints]
  simpa [flatD] using q
theorem n_sortI {n : Nat} {ns : List Int} (h : m[n]? = some (.lst (ns.map D.int))) (hl : ns.length < 64) (q : ∀ k m', New m m' k (.lst ((isort ns).map D.int)) → Q (.ref k) m') : (dSorted [.ref n] m).post Q := by
  simp only [dSorted, lstOf, h, intsOf_map, hl, if_true]
  exact q _ _ (New.mk' m _)
end
theorem isort_up {ns : List Int} (h : ns.Nodup) : (isort ns).Pairwise (· < ·) := by
  have h1 := isort_sorted ns
  have h2 : (isort ns).Nodup := (isort_perm ns).nodup_iff.mpr h
  exact (h1.and h2).imp fun {a b} ⟨x, y⟩ => by omega
/-- buyers who are gone -/
def GoodG (gs : List Int) : Prop := gs.Pairwise (· < ·) ∧ (∀ g ∈ gs, 0 ≤ g ∧ g ≤ 7) ∧ gs.length ≤ 8
theorem nd_len : ∀ {gs l : List Int}, gs.Nodup → (∀ g ∈ gs, g ∈ l) → gs.length ≤ l.length
  | [], l, _, _ => Nat.zero_le _
  | g :: gs, l, hnd, hs => by
    have hg := hs g (by simp)
    have hn := List.nodup_cons.mp hnd
    have ih := nd_len (gs := gs) (l := l.erase g) hn.2 fun x hx => by
      have hne : x ≠ g := fun e => hn.1 (e ▸ hx)
      exact (List.mem_erase_of_ne hne).mpr (hs x (by simp [hx]))
    have := List.length_erase_of_mem hg
    have := List.length_pos_of_mem hg
    simp only [List.length_cons]
    omega
theorem goodG_len {gs : List Int} (hnd : gs.Nodup) (h : ∀ g ∈ gs, 0 ≤ g ∧ g ≤ 7) : gs.length ≤ 8 := by
  have := nd_len (l := [0, 1, 2, 3, 4, 5, 6, 7]) hnd fun g hg => by
    have := h g hg
    simp
    omega
  simpa using this
theorem goodG_sort {gs : List Int} (hnd : gs.Nodup) (h : ∀ g ∈ gs, 0 ≤ g ∧ g ≤ 7) : GoodG (isort gs) := by
  refine ⟨isort_up hnd, fun g hg => h g ((isort_perm gs).mem_iff.mp hg), ?_⟩
  rw [(isort_perm gs).length_eq]
  exact goodG_len hnd h
noncomputable def falD (ts : List Int) (P : Int → Int) (t : Int) (gs : List Int) : D := match (chainOf ts).filter (fun p => !decide (p.2 ∈ gs)) with
  | [] => .non
  | p :: _ => if P p.1 < t then .non else prD (p.2, P p.1)
theorem chain_buyers (ts : List Int) : ((chainOf ts).map (·.2)).Nodup := by
  refine List.pairwise_map.mpr (((chain_sorted ts)).imp_of_mem fun {p q} hp hq h z => ?_)
  have h1 := ((chain_mem p.1 p.2).mp hp)
  have h2 := ((chain_mem q.1 q.2).mp hq)
  rw [z] at h1
  have := last_uniq h1.2 h2.2
  omega
theorem crs_who {rs : List Rn} (g : GoodR rs) {r : Int} {h : Option Int} {cs : List Sx} (x : Crs rs r h cs) : ∀ b ∈ tkL cs, 0 ≤ b ∧ b ≤ 7 := by
  intro b hb
  unfold tkL at hb
  obtain ⟨c, hc, hb⟩ := List.mem_flatMap.mp hb
  obtain ⟨_, _, _, ⟨q, hq, e1⟩, h5, _⟩ := crs_shape x c hc
  unfold tkS at hb
  rcases alt_mem hb with z | z
  · rw [z, ← e1]; exact g.who q hq
  · cases ho : c.oth with
    | none =>
      rw [ho] at z
      simp at z
      rw [z, ← e1]; exact g.who q hq
    | some o =>
      rw [ho] at z
      simp at z
      obtain ⟨_, q', hq', e2⟩ := h5 o ho
      rw [z, ← e2]; exact g.who q' hq'
theorem pairsKV_map : ∀ (ps : List (Int × D)), pairsKV (ps.map fun p => D.tup [.int p.1, p.2]) = some (ps.map fun p => ((.inl p.1 : Key), p.2))
  | [] => rfl
  | p :: ps => by simp only [List.map_cons, pairsKV, keyD, pairsKV_map ps]
theorem n_dictP {n : Nat} {m : Mem} {Q : D → Mem → Prop} {ps : List (Int × D)} (h : m[n]? = some (.lst (ps.map fun p => D.tup [.int p.1, p.2]))) (hnd : (ps.map (·.1)).Nodup) (q : ∀ k m', New m m' k (.dic (ps.map fun p => ((.inl p.1 : Key), p.2))) → Q (.ref k) m') : (dDict [.ref n] m).post Q := by
  simp only [dDict, lstOf, h, pairsKV_map]
  have e : mergeD [] (ps.map fun p => ((.inl p.1 : Key), p.2)) = ps.map fun p => ((.inl p.1 : Key), p.2) := by
    unfold mergeD
    rw [foldl_put]
    · rfl
    · rw [List.nil_append, List.map_map]
      refine List.pairwise_map.mpr ((List.pairwise_map.mp hnd).imp fun {a b} h z => h ?_)
      exact Sum.inl.inj z
  rw [e]
  exact q _ _ (New.mk' m _)
theorem getK_mapD {ps : List (Int × D)} {q : Int × D} (nd : (ps.map (·.1)).Nodup) (hq : q ∈ ps) : getK (ps.map fun r => ((.inl r.1 : Key), r.2)) (.inl q.1) = some q.2 := by
  unfold getK
  induction ps with
  | nil => simp at hq
  | cons r rs ih =>
    rw [List.map_cons] at nd ⊢
    rw [List.nodup_cons] at nd
    by_cases c : r.1 = q.1
    · rw [List.find?_cons_of_pos (by simp [c])]
      rcases List.mem_cons.mp hq with rfl | hq
      · rfl
      · exact absurd (List.mem_map.mpr ⟨q, hq, c.symm⟩) nd.1
    · rw [List.find?_cons_of_neg (by simp [c])]
      rcases List.mem_cons.mp hq with rfl | hq
      · exact absurd rfl c
      · exact ih nd.2 hq
end Mi
namespace Mi
open PySem PySem.Spec PyProof.Rows L2 Classical
theorem tks_nx {rs : List Rn} {r : Int} {h : Option Int} {ts : List Int} (x : Tks rs r h ts) : ∀ k : Nat, k ≤ ts.length → (nx rs (r + k) (if k = 0 then h else ts[k - 1]?)).map (·.1) = ts[k]? := by
  induction x with
  | done e =>
    intro k hk
    have : k = 0 := by simpa using hk
    subst this
    simp [e]
  | @step r h a ts e y ih =>
    intro k hk
    cases k with
    | zero => simp [e]
    | succ k =>
      have := ih k (by simpa using hk)
      rw [show r + ((k + 1 : Nat) : Int) = r + 1 + (k : Int) by omega, if_neg (by omega)]
      rw [List.getElem?_cons_succ, ← this]
      congr 2
      cases k with
      | zero => simp
      | succ k => simp
def turnC (c : Sx) : Option Int := if (c.z - c.a) % 2 = 0 then c.oth else some c.one
theorem crs_turn {rs : List Rn} {r : Int} {h : Option Int} {cs : List Sx} (x : Crs rs r h cs) : ∀ c ∈ cs, ∀ o, turnC c = some o → ∃ q ∈ rs, q.1 = o ∧ q.2 < c.z + 1 := by
  induction x with
  | done e => intro c hc; simp at hc
  | @last r h a e e' =>
    intro c hc o ho
    simp at hc
    subst hc
    simp [turnC] at ho
  | @more r h a b cs e1 e2 x ih =>
    intro c hc o ho
    obtain ⟨a1, a2, a3⟩ := nx_some e1
    obtain ⟨b1, b2, b3⟩ := nx_some e2
    obtain ⟨f1, f2, f3⟩ := end_facts a2 b2
    rcases List.mem_cons.mp hc with rfl | hc
    · unfold turnC at ho
      by_cases p : (endOf r a b - r) % 2 = 0
      · rw [if_pos (by simpa using p)] at ho
        cases ho
        exact ⟨b, b1, rfl, (f2 p).1⟩
      · rw [if_neg (by simpa using p)] at ho
        cases ho
        exact ⟨a, a1, rfl, (f3 p).1⟩
    · exact ih c hc o ho
noncomputable def elig (l : Lad) (s r : Int) (h : Option Int) (q : Int × Int) : Bool := match topO (topD l s q.2) with
  | some n => decide (r ≤ n) && !decide (h = some q.1)
  | none => false
theorem nx_elig (l : Lad) (s r : Int) (h : Option Int) : ∀ bs : Bids, (nx (runs l s bs) r h).map (·.1) = (bs.find? (elig l s r h)).map (·.1)
  | [] => rfl
  | q :: bs => by
    have ih := nx_elig l s r h bs
    unfold nx runs at ih ⊢
    rw [List.filterMap_cons]
    cases ht : topO (topD l s q.2) with
    | none =>
      rw [List.find?_cons_of_neg (by simp [elig, ht])]
      exact ih
    | some n =>
      simp only [Option.map_some]
      by_cases c : (decide (r ≤ n) && !decide (h = some q.1)) = true
      · rw [List.find?_cons_of_pos (by simpa using c), List.find?_cons_of_pos (by simpa [elig, ht] using c)]
        rfl
      · rw [List.find?_cons_of_neg (by simpa using c), List.find?_cons_of_neg (by simpa [elig, ht] using c)]
        exact ih
section
variable {Q : D → Mem → Prop} {m : Mem}
theorem p_neOO {a b : Option Int} (q : Q (.bl (!decide (a = b))) m) : (dNe (oD a) (oD b) m).post Q := by
  cases a with
  | none =>
    cases b with
    | none =>
      have : (dNe (oD none) (oD none) m) = .ok (.bl false) m := by simp [dNe, dEqB, oD, toPy, shaped_none, PyData.eqv]
      rw [this]
      simpa using q
    | some b =>
      have : (dNe (oD none) (oD (some b)) m) = .ok (.bl true) m := by simp [dNe, dEqB, oD, toPy, shaped_none, shaped_int, PyData.eqv]
      rw [this]
      simpa using q
  | some a =>
    refine p_neO (b := a) (h := b) ?_
    have : decide (b = some a) = decide (some a = b) := by
      by_cases c : b = some a
      · rw [decide_eq_true c, decide_eq_true c.symm]
      · rw [decide_eq_false c, decide_eq_false fun z => c z.symm]
    rw [this]
    exact q
def oP : Option Int → PyData
  | none => .none
  | some a => .int a
def stP (c : Sx) : PyData := .tuple [.int c.a, .int c.z, .int c.one, oP c.oth]
theorem toPy_st (m : Mem) (n : Nat) (c : Sx) : toPy m (n + 2) (stD c) = some (stP c) := by
  cases h : c.oth <;> (unfold stD stP; rw [h]; rfl)
theorem eqv_st (c d : Sx) : PyData.eqv (stP c) (stP d) = decide (c = d) := by
  obtain ⟨a, z, one, oth⟩ := c
  obtain ⟨a', z', one', oth'⟩ := d
  rw [Bool.eq_iff_iff]
  cases oth <;> cases oth' <;> simp [stP, oP, PyData.eqv, PyData.eqvAll, Bool.and_eq_true]
theorem shaped_st (c : Sx) : SeqAt.shaped (stP c) = true := by
  cases h : c.oth <;> simp [SeqAt.shaped, stP, oP, h, PyData.canLay0, PyData.canLayAll0, PyData.depth, PyData.depthAll]
theorem p_eqSt {c d : Sx} (q : Q (.bl (decide (c = d))) m) : (dEq (stD c) (stD d) m).post Q := by
  have e1 : toPy m 12 (stD c) = some (stP c) := toPy_st m 10 c
  have e2 : toPy m 12 (stD d) = some (stP d) := toPy_st m 10 d
  unfold dEq dEqB
  simp only [e1, e2, shaped_st, and_self, if_true, eqv_st]
  exact q
end
end Mi
namespace Mi
open PySem PySem.Spec PyProof.Rows L2 Classical
/-! ### rings -/
def thOf (bs : Bids) (R : List Int) : Bids := bs.filter (fun q => decide (q.1 ∈ R))
def jn (th : Bids) : Int × Int := (listMin (th.map (·.1)), listMax (th.map (·.2)))
noncomputable def asOne (bs : Bids) (R : List Int) : Bids := match thOf bs R with
  | t0 :: t1 :: ts => (bs.filter (fun q => decide (q = t0) || !decide (q.1 ∈ R))).map (fun q => if q = t0 then jn (t0 :: t1 :: ts) else q)
  | _ => bs
noncomputable def gOf (R : List Int) (t0 J q : Int × Int) : Option (Int × Int) := if q.1 ∈ R then (if q = t0 then some J else none) else some q
noncomputable def fOf (bs : Bids) (R : List Int) : Int × Int → Option (Int × Int) := match thOf bs R with
  | [] => some
  | t0 :: ts => gOf R t0 (jn (t0 :: ts))
theorem th_mem {bs : Bids} {R : List Int} {q : Int × Int} : q ∈ thOf bs R ↔ q ∈ bs ∧ q.1 ∈ R := by simp [thOf, List.mem_filter]
theorem fm_some {α : Type} : ∀ (l : List α) (f : α → Option α), (∀ q ∈ l, f q = some q) → l.filterMap f = l
  | [], _, _ => rfl
  | q :: l, f, h => by
    rw [List.filterMap_cons, h q (by simp), fm_some l f fun x hx => h x (by simp [hx])]
theorem fm_filter_map {α : Type} (p : α → Bool) (f : α → α) : ∀ (l : List α) (g : α → Option α), (∀ q ∈ l, g q = if p q = true then some (f q) else none) → (l.filter p).map f = l.filterMap g
  | [], _, _ => rfl
  | q :: l, g, h => by
    have ih := fm_filter_map p f l g fun x hx => h x (by simp [hx])
    rw [List.filterMap_cons, h q (by simp)]
    by_cases c : p q = true
    · rw [List.filter_cons_of_pos c, List.map_cons, ih, if_pos c]
    · rw [List.filter_cons_of_neg c, ih, if_neg c]
theorem asOne_fm (bs : Bids) (R : List Int) : asOne bs R = bs.filterMap (fOf bs R) := by
  unfold asOne fOf
  cases e : thOf bs R with
  | nil => exact (fm_some bs _ fun _ _ => rfl).symm
  | cons t0 ts =>
    have ht0 : t0 ∈ bs ∧ t0.1 ∈ R := th_mem.mp (by rw [e]; simp)
    cases ts with
    | nil =>
      dsimp only
      refine (fm_some bs _ fun q hq => ?_).symm
      unfold gOf
      by_cases c : q.1 ∈ R
      · have : q ∈ thOf bs R := th_mem.mpr ⟨hq, c⟩
        rw [e] at this
        simp at this
        subst this
        rw [if_pos c, if_pos rfl]
        simp [jn, listMin, listMax]
      · rw [if_neg c]
    | cons t1 ts =>
      dsimp only
      refine fm_filter_map _ _ bs _ fun q hq => ?_
      unfold gOf
      by_cases c : q.1 ∈ R
      · rw [if_pos c]
        by_cases d : q = t0
        · simp [d]
        · simp [d, c]
      · have d : q ≠ t0 := fun z => c (z ▸ ht0.2)
        rw [if_neg c]
        simp [c, d]
theorem jn_in {bs : Bids} {R : List Int} {t0 : Int × Int} {ts : Bids} (e : thOf bs R = t0 :: ts) : (jn (t0 :: ts)).1 ∈ R ∧ (∃ q ∈ bs, q.1 = (jn (t0 :: ts)).1) ∧ ∃ q ∈ bs, q.2 = (jn (t0 :: ts)).2 := by
  have h1 := listMin_mem ((t0 :: ts).map (·.1)) (by simp)
  have h2 := listMax_mem ((t0 :: ts).map (·.2)) (by simp)
  obtain ⟨q1, hq1, e1⟩ := List.mem_map.mp h1
  obtain ⟨q2, hq2, e2⟩ := List.mem_map.mp h2
  rw [← e] at hq1 hq2
  have a1 := th_mem.mp hq1
  have a2 := th_mem.mp hq2
  refine ⟨?_, ⟨q1, a1.1, e1⟩, q2, a2.1, e2⟩
  show listMin _ ∈ R
  rw [← e1]
  exact a1.2
/-- what comes of a bid -/
theorem fOf_cases (bs : Bids) (R : List Int) {q y : Int × Int} (hq : q ∈ bs) (h : fOf bs R q = some y) : (q.1 ∉ R ∧ y = q) ∨ (q.1 ∈ R ∧ y.1 ∈ R ∧ ∃ t0 ts, thOf bs R = t0 :: ts ∧ q = t0 ∧ y = jn (t0 :: ts)) := by
  unfold fOf at h
  cases e : thOf bs R with
  | nil =>
    rw [e] at h
    cases h
    left
    refine ⟨fun z => ?_, rfl⟩
    have : q ∈ thOf bs R := th_mem.mpr ⟨hq, z⟩
    rw [e] at this
    simp at this
  | cons t0 ts =>
    rw [e] at h
    dsimp only [gOf] at h
    by_cases c : q.1 ∈ R
    · rw [if_pos c] at h
      by_cases d : q = t0
      · rw [if_pos d] at h
        cases h
        exact .inr ⟨c, (jn_in e).1, t0, ts, rfl, d, rfl⟩
      · rw [if_neg d] at h
        cases h
    · rw [if_neg c] at h
      cases h
      exact .inl ⟨c, rfl⟩
theorem fOf_out (bs : Bids) (R : List Int) {q : Int × Int} (h : q.1 ∉ R) : fOf bs R q = some q := by
  unfold fOf
  cases e : thOf bs R with
  | nil => rfl
  | cons t0 ts => simp [gOf, h]
theorem asOne_few {bs : Bids} {R : List Int} (h : (thOf bs R).length ≤ 1) : asOne bs R = bs := by
  unfold asOne
  cases e : thOf bs R with
  | nil => rfl
  | cons t0 ts =>
    cases ts with
    | nil => rfl
    | cons t1 ts =>
      rw [e] at h
      simp at h
theorem asOne_good {bs : Bids} (g : GoodB bs) (R : List Int) : GoodB (asOne bs R) := by
  have hm : ∀ y ∈ asOne bs R, (∃ q ∈ bs, q.1 = y.1) ∧ ∃ q ∈ bs, q.2 = y.2 := fun y hy => by
    rw [asOne_fm] at hy
    obtain ⟨q, hq, e⟩ := List.mem_filterMap.mp hy
    rcases fOf_cases bs R hq e with ⟨_, rfl⟩ | ⟨_, _, t0, ts, et, _, rfl⟩
    · exact ⟨⟨y, hq, rfl⟩, y, hq, rfl⟩
    · exact (jn_in et).2
  refine ⟨?_, fun y hy => ?_, fun y hy => ?_, ?_⟩
  · rw [asOne_fm]
    exact Nat.le_trans (List.length_filterMap_le _ _) g.len
  · obtain ⟨⟨q, hq, e⟩, _⟩ := hm y hy
    rw [← e]
    exact g.who q hq
  · obtain ⟨_, q, hq, e⟩ := hm y hy
    rw [← e]
    exact g.bnd q hq
  · rw [asOne_fm]
    refine List.pairwise_map.mpr (List.pairwise_filterMap.mpr ?_)
    refine (List.pairwise_map.mp g.nd).imp_of_mem fun {a b} ha hb hab x hx y hy z => ?_
    rcases fOf_cases bs R ha hx with ⟨c1, rfl⟩ | ⟨c1, d1, t0, ts, et, rfl, rfl⟩
    · rcases fOf_cases bs R hb hy with ⟨c2, rfl⟩ | ⟨c2, d2, t0, ts, et, rfl, rfl⟩
      · exact hab z
      · exact c1 (z ▸ d2)
    · rcases fOf_cases bs R hb hy with ⟨c2, rfl⟩ | ⟨c2, d2, t0', ts', et', rfl, rfl⟩
      · exact c2 (z ▸ d1)
      · rw [et] at et'
        cases et'
        exact hab rfl
theorem asOne_twice {bs : Bids} (g : GoodB bs) (R : List Int) : asOne (asOne bs R) R = asOne bs R := by
  have hg := asOne_good g R
  have hall : ∀ y ∈ thOf (asOne bs R) R, ∃ t0 ts, thOf bs R = t0 :: ts ∧ y = jn (t0 :: ts) := fun y hy => by
    obtain ⟨h1, h2⟩ := th_mem.mp hy
    rw [asOne_fm] at h1
    obtain ⟨q, hq, e⟩ := List.mem_filterMap.mp h1
    rcases fOf_cases bs R hq e with ⟨c, rfl⟩ | ⟨_, _, t0, ts, et, _, rfl⟩
    · exact absurd h2 c
    · exact ⟨t0, ts, et, rfl⟩
  have hnd : (thOf (asOne bs R) R).Nodup := by
    have : (asOne bs R).Nodup := nd_of_map hg.nd
    exact this.sublist List.filter_sublist
  refine asOne_few ?_
  cases e : thOf (asOne bs R) R with
  | nil => simp
  | cons t0 ts =>
    cases ts with
    | nil => simp
    | cons t1 ts =>
      exfalso
      obtain ⟨a, as, ea, e1⟩ := hall t0 (by rw [e]; simp)
      obtain ⟨b, bs', eb, e2⟩ := hall t1 (by rw [e]; simp)
      rw [ea] at eb
      cases eb
      rw [e] at hnd
      have := (List.nodup_cons.mp hnd).1
      exact this (by rw [e1, e2]; simp)
theorem th_asOne {bs : Bids} {R S : List Int} (hd : ∀ x ∈ R, x ∉ S) : thOf (asOne bs R) S = thOf bs S := by
  rw [asOne_fm]
  have gen : ∀ l : Bids, (∀ q ∈ l, q ∈ bs) → (l.filterMap (fOf bs R)).filter (fun q => decide (q.1 ∈ S)) = l.filter (fun q => decide (q.1 ∈ S)) := by
    intro l
    induction l with
    | nil => intro _; rfl
    | cons q l ih =>
      intro hl
      have ih := ih fun x hx => hl x (by simp [hx])
      rw [List.filterMap_cons]
      cases h : fOf bs R q with
      | none =>
        dsimp only
        rw [ih, List.filter_cons_of_neg]
        intro z
        have : q.1 ∉ R := fun w => hd _ w (by simpa using z)
        rw [fOf_out bs R this] at h
        cases h
      | some y =>
        dsimp only
        rcases fOf_cases bs R (hl q (by simp)) h with ⟨_, rfl⟩ | ⟨c, d, _⟩
        · by_cases z : y.1 ∈ S
          · rw [List.filter_cons_of_pos (by simpa using z), List.filter_cons_of_pos (by simpa using z), ih]
          · rw [List.filter_cons_of_neg (by simpa using z), List.filter_cons_of_neg (by simpa using z), ih]
        · rw [List.filter_cons_of_neg (by simpa using hd _ d), List.filter_cons_of_neg (by simpa using hd _ c), ih]
  exact gen bs fun _ h => h
theorem asOne_comm {bs : Bids} {R S : List Int} (hd : ∀ x ∈ R, x ∉ S) : asOne (asOne bs R) S = asOne (asOne bs S) R := by
  have hd' : ∀ x ∈ S, x ∉ R := fun x hx z => hd x z hx
  have e1 : fOf (asOne bs R) S = fOf bs S := by unfold fOf; rw [th_asOne hd]
  have e2 : fOf (asOne bs S) R = fOf bs R := by unfold fOf; rw [th_asOne hd']
  rw [asOne_fm (asOne bs R) S, asOne_fm (asOne bs S) R, e1, e2, asOne_fm bs R, asOne_fm bs S, List.filterMap_filterMap, List.filterMap_filterMap]
  have gen : ∀ l : Bids, (∀ q ∈ l, q ∈ bs) → l.filterMap (fun q => (fOf bs R q).bind (fOf bs S)) = l.filterMap (fun q => (fOf bs S q).bind (fOf bs R)) := by
    intro l
    induction l with
    | nil => intro _; rfl
    | cons q l ih =>
      intro hl
      have ih := ih fun x hx => hl x (by simp [hx])
      have hq := hl q (by simp)
      have : (fOf bs R q).bind (fOf bs S) = (fOf bs S q).bind (fOf bs R) := by
        by_cases c : q.1 ∈ R
        · rw [fOf_out bs S (hd _ c)]
          cases h : fOf bs R q with
          | none => simp [h]
          | some y =>
            rcases fOf_cases bs R hq h with ⟨z, _⟩ | ⟨_, d, _⟩
            · exact absurd c z
            · simp [fOf_out bs S (hd _ d), h]
        · rw [fOf_out bs R c]
          simp only [Option.bind_some]
          cases h : fOf bs S q with
          | none => rfl
          | some y =>
            rcases fOf_cases bs S hq h with ⟨_, rfl⟩ | ⟨_, d, _⟩
            · simp [fOf_out bs R c]
            · simp [fOf_out bs R (hd' _ d)]
      rw [List.filterMap_cons, List.filterMap_cons, this, ih]
  exact gen bs fun _ h => h
section
variable {Q : D → Mem → Prop} {m : Mem}
theorem eqv_pp (p q : Int × Int) : PyData.eqv (ppP p) (ppP q) = decide (p = q) := by
  obtain ⟨a, b⟩ := p
  obtain ⟨c, d⟩ := q
  rw [Bool.eq_iff_iff]
  simp [ppP, PyData.eqv, PyData.eqvAll]
theorem shaped_pp (p : Int × Int) : SeqAt.shaped (ppP p) = true := by simp [SeqAt.shaped, ppP, PyData.canLay0, PyData.canLayAll0, PyData.depth, PyData.depthAll]
theorem p_eqPr {p q : Int × Int} (k : Q (.bl (decide (p = q))) m) : (dEq (prD p) (prD q) m).post Q := by
  unfold dEq dEqB
  simp only [toPy_pr m 10, shaped_pp, and_self, if_true, eqv_pp]
  exact k
theorem p_nePr {p q : Int × Int} (k : Q (.bl (!decide (p = q))) m) : (dNe (prD p) (prD q) m).post Q := by
  unfold dNe dEqB
  simp only [toPy_pr m 10, shaped_pp, and_self, if_true, eqv_pp]
  exact k
theorem eqv_pps : ∀ (xs ys : List (Int × Int)), PyData.eqvAll (xs.map ppP) (ys.map ppP) = decide (xs = ys)
  | [], [] => by simp [PyData.eqvAll]
  | [], _ :: _ => by simp [PyData.eqvAll]
  | _ :: _, [] => by simp [PyData.eqvAll]
  | x :: xs, y :: ys => by
    simp only [List.map_cons, PyData.eqvAll, eqv_pp, eqv_pps xs ys]
    rw [Bool.eq_iff_iff]
    simp
theorem shaped_pps (xs : List (Int × Int)) : SeqAt.shaped (.tuple (xs.map ppP)) = true := by
  have h1 := lay_map (g := ppP) (fun a => by simp [ppP, PyData.canLay0, PyData.canLayAll0]) xs
  have h2 := deep_map (g := ppP) (fun a => by simp [ppP, PyData.depth, PyData.depthAll]) xs
  simp only [SeqAt.shaped, PyData.canLay0, h1, PyData.depth, Bool.true_and, decide_eq_true_eq]
  simp
  omega
theorem p_neBd {xs ys : List (Int × Int)} (k : Q (.bl (!decide (xs = ys))) m) : (dNe (.tup (xs.map prD)) (.tup (ys.map prD)) m).post Q := by
  have e : ∀ zs : List (Int × Int), toPy m 12 (.tup (zs.map prD)) = some (.tuple (zs.map ppP)) := fun zs => toPy_tupm fun a _ => toPy_pr m 9 a
  unfold dNe dEqB
  simp only [e, shaped_pps, and_self, if_true, PyData.eqv, eqv_pps]
  exact k
theorem p_trT {ds : List D} {QB : Bool → Mem → Prop} (q : QB (!ds.isEmpty) m) : (dTruth (.tup ds) m).post QB := q
theorem rp_ints {gs : List Int} (hl : gs.length ≤ 8) (h : ∀ g ∈ gs, 0 ≤ g ∧ g ≤ 7) : Rp 2 20000 (.tuple (gs.map PyData.int)) := by
  refine (rp_tup (d := 1) (B := 1921) (n := 8) ?_ (by simpa using hl)).mono (by omega) (by omega)
  intro x hx
  obtain ⟨p, hp, rfl⟩ := List.mem_map.mp hx
  have := h p hp
  exact rp_int ⟨by omega, by omega⟩
def brP (bs : Bids) (R : List Int) : PyData := .tuple [.tuple (bs.map ppP), .tuple (R.map PyData.int)]
theorem p_repr2 {bs : Bids} {R : List Int} (gb : GoodB bs) (gg : GoodG R) (q : Q (.str (brP bs R).shown) m) : (dRepr [.tup [.tup (bs.map prD), .tup (R.map D.int)]] m).post Q := by
  refine p_repr (y := brP bs R) (B := 200000) ⟨_, rfl⟩ ?_ ?_ (by omega) q
  · have e1 : toPy m 11 (.tup (bs.map prD)) = some (.tuple (bs.map ppP)) := toPy_tupm fun a _ => toPy_pr m 8 a
    have e2 : toPy m 11 (.tup (R.map D.int)) = some (.tuple (R.map PyData.int)) := toPy_tupm fun a _ => rfl
    show (([.tup (bs.map prD), .tup (R.map D.int)] : List D).mapM (toPy m 11)).map PyData.tuple = _
    rw [List.mapM_cons, e1, List.mapM_cons, e2]
    rfl
  · refine (rp_tup (d := 3) (B := 40000) (n := 2) ?_ (by simp)).mono (by omega) (by omega)
    intro x hx
    simp at hx
    rcases hx with rfl | rfl
    · exact rp_bids gb
    · exact (rp_ints gg.2.2 gg.2.1).mono (by omega) (by omega)
end
end Mi
namespace Mi
open PySem PySem.Spec PyProof.Rows L2 Classical
/-! ### things of any kind -/
def Kn (d : D) (m : Mem) : Prop := ∃ t, tyD d m = some t
theorem ty_ref (n : Nat) (m : Mem) : tyD (.ref n) m = match m[n]? with | some (.lst _) => some "list" | some (.dic _) => some "dict" | _ => none := rfl
theorem Kn.gr {d : D} {m m' : Mem} (g : Gr m m') (h : Kn d m) : Kn d m' := by
  obtain ⟨t, h⟩ := h
  refine ⟨t, ?_⟩
  cases d with
  | ref n =>
    rw [ty_ref] at h ⊢
    cases e : m[n]? with
    | none => rw [e] at h; cases h
    | some o => rw [e] at h; rw [g.at e]; exact h
  | _ => exact h
theorem Kn.ref {n : Nat} {m : Mem} (h : Kn (.ref n) m) : tyD (.ref n) m = some "list" ∨ tyD (.ref n) m = some "dict" := by
  obtain ⟨t, h⟩ := h
  rw [ty_ref] at h ⊢
  cases e : m[n]? with
  | none => rw [e] at h; cases h
  | some o =>
    rw [e] at h
    cases o with
    | lst _ => exact .inl rfl
    | dic _ => exact .inr rfl
    | fdic _ => cases h
    | ins _ _ => cases h
    | dT _ => cases h
def KnN : Nat → D → Mem → Prop
  | 0, _, _ => True
  | n + 1, d, m => Kn d m ∧ ∀ ds, d = .tup ds → ∀ x ∈ ds, KnN n x m
theorem KnN.gr {m m' : Mem} (g : Gr m m') : ∀ {n : Nat} {d : D}, KnN n d m → KnN n d m'
  | 0, _, _ => trivial
  | n + 1, _, h => ⟨h.1.gr g, fun ds e x hx => KnN.gr g (h.2 ds e x hx)⟩
def isI : D → Bool
  | .int _ => true
  | _ => false
def witB (d : D) (lo hi : Int) : Bool := match d with
  | .int i => decide (lo ≤ i ∧ i ≤ hi)
  | _ => false
def tupB (d : D) (lo hi : Int) : Bool := match d with
  | .tup ds => decide (lo ≤ (ds.length : Int) ∧ (ds.length : Int) ≤ hi)
  | _ => false
section
variable {Q : D → Mem → Prop} {m : Mem}
theorem p_isiAny {cs : List String} {n : Nat} {b : Bool} (h : Kn (.ref n) m) (h1 : (cs.any fun c => isiB "list" c) = b) (h2 : (cs.any fun c => isiB "dict" c) = b) (q : Q (.bl b) m) : (dIsi cs (.ref n) m).post Q := by
  rcases h.ref with e | e
  · exact p_isiD e (h1 ▸ q)
  · exact p_isiD e (h2 ▸ q)
theorem p_isiA_int {n : Nat} (h : Kn (.ref n) m) (q : Q (.bl false) m) : (dIsi ["int"] (.ref n) m).post Q := p_isiAny h (by decide +kernel) (by decide +kernel) q
theorem p_isiA_bool {n : Nat} (h : Kn (.ref n) m) (q : Q (.bl false) m) : (dIsi ["bool"] (.ref n) m).post Q := p_isiAny h (by decide +kernel) (by decide +kernel) q
theorem p_isiA_tuple {n : Nat} (h : Kn (.ref n) m) (q : Q (.bl false) m) : (dIsi ["tuple"] (.ref n) m).post Q := p_isiAny h (by decide +kernel) (by decide +kernel) q
theorem p_isiA_str {n : Nat} (h : Kn (.ref n) m) (q : Q (.bl false) m) : (dIsi ["str"] (.ref n) m).post Q := p_isiAny h (by decide +kernel) (by decide +kernel) q
end
def IsFl (d : D) : Prop := ∃ p : Int × Int, d = prD p ∧ (0 ≤ p.1 ∧ p.1 ≤ 1000000) ∧ (1 ≤ p.2 ∧ p.2 ≤ 100000)
def IsBid (d : D) : Prop := ∃ p : Int × Int, d = prD p ∧ (0 ≤ p.1 ∧ p.1 ≤ 7) ∧ (1 ≤ p.2 ∧ p.2 ≤ 1000000)
def IsLad (d : D) : Prop := ∃ l : Lad, d = ladD l ∧ GoodL l
def IsLot (d : D) : Prop := ∃ s t : Int, d = .tup [.int s, .int t] ∧ (1 ≤ s ∧ s ≤ 1000000) ∧ (s ≤ t ∧ t ≤ 1000000)
def IsBids (d : D) : Prop := ∃ bs : Bids, d = .tup (bs.map prD) ∧ GoodB bs
theorem all_decide {ys : List Bool} {n : Nat} {m : Mem} {Q : D → Mem → Prop} (h : m[n]? = some (.lst (ys.map D.bl))) (q : Q (.bl (ys.all id)) m) : (dAll [.ref n] m).post Q := p_allR h q
theorem map_of_all {α : Type} {f : α → D} {P : α → Prop} : ∀ (ds : List D), (∀ d ∈ ds, ∃ a, d = f a ∧ P a) → ∃ as : List α, ds = as.map f ∧ ∀ a ∈ as, P a
  | [], _ => ⟨[], rfl, by simp⟩
  | d :: ds, h => by
    obtain ⟨a, e, p⟩ := h d (by simp)
    obtain ⟨as, e2, p2⟩ := map_of_all ds fun x hx => h x (by simp [hx])
    exact ⟨a :: as, by rw [e, e2]; rfl, by
      intro x hx
      rcases List.mem_cons.mp hx with rfl | hx
      · exact p
      · exact p2 x hx⟩
theorem prD_inj {l l' : List (Int × Int)} (h : l.map prD = l'.map prD) : l = l' := by
  induction l generalizing l' with
  | nil => cases l' with
    | nil => rfl
    | cons => simp at h
  | cons p l ih => cases l' with
    | nil => simp at h
    | cons q l' =>
      simp only [List.map_cons, List.cons.injEq, D.tup.injEq, D.int.injEq] at h
      rw [ih h.2, Prod.ext h.1.1 h.1.2.1]
/-- where two neighbours don't rise -/
theorem zip_rise : ∀ (ns : List Int), ((zipD (ns.map D.int) ((ns.map D.int).drop 1)).map fun d => match d with | .tup [.int a, .int b] => decide (a < b) | _ => true).all id = decide (ns.Pairwise (· < ·))
  | [] => by simp [zipD]
  | [a] => by simp [zipD]
  | a :: b :: ns => by
    have ih := zip_rise (b :: ns)
    simp only [List.map_cons, List.drop_succ_cons, List.drop_zero, zipD, List.map_cons, List.all_cons] at ih ⊢
    rw [ih, Bool.eq_iff_iff]
    simp only [Bool.and_eq_true, id, decide_eq_true_eq, List.pairwise_cons, List.mem_cons]
    constructor
    · rintro ⟨h1, h2, h3⟩
      refine ⟨fun x hx => ?_, h2, h3⟩
      rcases hx with rfl | hx
      · exact h1
      · have := h2 x hx
        omega
    · rintro ⟨h1, h2, h3⟩
      exact ⟨h1 b (.inl rfl), h2, h3⟩
theorem zip_two : ∀ (ns ms : List Int), ∃ ps : List (Int × Int), zipD (ns.map D.int) (ms.map D.int) = ps.map prD ∧ ps.length ≤ ns.length
  | [], _ => ⟨[], rfl, by simp⟩
  | _ :: _, [] => ⟨[], rfl, by simp⟩
  | a :: ns, b :: ms => by
    obtain ⟨ps, e, h⟩ := zip_two ns ms
    exact ⟨(a, b) :: ps, by simp only [List.map_cons, zipD, e], by simp; omega⟩
theorem lc_mapI {gd : Mem → Prop} {pt : Pat} {x : ME} {e : En} {m : Mem} (Y : D → D) (ds : List D) (hgd : ∀ m', Gr m m' → gd m') (hl : ds.length ≤ 1000)
    (h : ∀ a ∈ ds, ∃ e1, patM pt a e = some e1 ∧ ∀ m', Gr m m' → (x e1 m').post fun y m2 => y = Y a ∧ Gr m' m2) :
    (lcL gd pt mYes x e ds [] m).post fun ys m' => ys = ds.map Y ∧ Gr m m' := by
  have := lc_map (gd := gd) (pt := pt) (x := x) (e := e) (m := m) (fun d => d) Y ds hgd hl h
  rwa [List.map_id'] at this
theorem forL_onI {gd : Mem → Prop} {t : MG} {b : MS} {N : En → Mem → Prop} {T : D → Mem → Prop} {e : En} {m : Mem} (Iv : List D → List D → En → Mem → Prop) (as : List D) (h0 : Iv [] as e m) (hN : ∀ e m, Iv as [] e m → gd m ∧ N e m)
    (hs : ∀ pr a rs e m, as = pr ++ a :: rs → Iv pr (a :: rs) e m → gd m ∧ (t a e m).post fun e1 m1 => (b e1 m1).post (fun e2 m2 => Iv (pr ++ [a]) rs e2 m2) T) : (forL gd t b as e m).post N T := by
  have := forL_on (gd := gd) (t := t) (b := b) (N := N) (T := T) (e := e) (m := m) (fun d : D => d) Iv as h0 hN hs
  rwa [List.map_id'] at this
theorem dedI_len : ∀ (n : Nat) (ns : List Int), ns.length = n → (dedI ns).length = ns.length → ns.Nodup
  | 0, ns, h, _ => by
    rw [List.length_eq_zero_iff.mp h]
    exact List.nodup_nil
  | n + 1, ns, h, hl => by
    rcases List.eq_nil_or_concat ns with e | ⟨us, k, e⟩
    · rw [e]; exact List.nodup_nil
    · rw [List.concat_eq_append] at e
      subst e
      rw [dedI_snoc] at hl
      have hle := dedI_le us
      split at hl
      · rw [List.length_append] at hl
        simp at hl
        omega
      · rename_i hk
        rw [List.length_append, List.length_append] at hl
        have ih := dedI_len n us (by simpa using h) (by simpa using hl)
        rw [List.nodup_append]
        refine ⟨ih, by simp, fun a ha b hb => ?_⟩
        simp at hb
        subst hb
        rintro rfl
        exact hk ((dedI_mem us a).mpr ha)
end Mi
namespace Mi
open PySem PySem.Spec PyProof.Rows L2 Classical
/-! ### what is shown of things of any kind -/
def Rx (d B : Nat) (y : PyData) : Prop := y.showable = true ∧ y.depth ≤ d ∧ y.shown.length ≤ B
theorem Rp.rx {d B : Nat} {y : PyData} (h : Rp d B y) : Rx d B y := ⟨h.1, h.2.2.1, h.2.2.2⟩
theorem Rx.mono {d B d' B' : Nat} {y : PyData} (h : Rx d B y) (h1 : d ≤ d') (h2 : B ≤ B') : Rx d' B' y := ⟨h.1, Nat.le_trans h.2.1 h1, Nat.le_trans h.2.2 h2⟩
theorem rx_all {d B : Nat} : ∀ {xs : List PyData}, (∀ x ∈ xs, Rx d B x) → PyData.showableAll xs = true ∧ PyData.depthAll xs ≤ d ∧ piled (PyData.shownAll xs) ≤ xs.length * (B + 2) ∧ (PyData.shownAll xs).length = xs.length
  | [], _ => ⟨rfl, by simp [PyData.depthAll], by simp [PyData.shownAll, piled], rfl⟩
  | x :: xs, h => by
    obtain ⟨h1, h3, h4⟩ := h x (by simp)
    obtain ⟨i1, i3, i4, i5⟩ := rx_all (xs := xs) fun y hy => h y (by simp [hy])
    refine ⟨by simp [PyData.showableAll, h1, i1], by simp only [PyData.depthAll]; omega, ?_, by simp [PyData.shownAll, i5]⟩
    rw [PyData.shownAll, piled_cons, List.length_cons, Nat.succ_mul]
    omega
theorem rx_tup {d B n : Nat} {xs : List PyData} (h : ∀ x ∈ xs, Rx d B x) (hl : xs.length ≤ n) : Rx (d + 1) (n * (B + 2) + 4) (.tuple xs) := by
  obtain ⟨h1, h3, h4, h5⟩ := rx_all h
  have hn : xs.length * (B + 2) ≤ n * (B + 2) := Nat.mul_le_mul_right _ hl
  refine ⟨by simp [PyData.showable, h1], by simp only [PyData.depth]; omega, ?_⟩
  simp only [PyData.shown, tupleText]
  rw [PySem.Str.length_append, PySem.Str.length_append]
  have e1 : ((("(" : String) : Str)).length = 1 := rfl
  have e2 : (((if (PyData.shownAll xs).length == 1 then ",)" else ")" : String) : Str)).length ≤ 2 := by
    split
    · decide
    · decide
  have e3 : (Str.join ", " (PyData.shownAll xs)).length ≤ n * (B + 2) := by
    cases xs with
    | nil => exact Nat.zero_le _
    | cons x xs =>
      have := join_length_add (PyData.shownAll (x :: xs)) (by simp [PyData.shownAll])
      omega
  omega
theorem piled_sum (ts : List Str) : piled ts = (ts.map (·.length)).sum + 2 * ts.length := by
  induction ts with
  | nil => rfl
  | cons t ts ih =>
    rw [piled_cons, ih]
    simp
    omega
theorem rp_lst {d B n : Nat} {xs : List PyData} (h : ∀ x ∈ xs, Rp d B x) (hl : xs.length ≤ n) : Rp (d + 1) (n * (B + 2) + 4) (.list xs) := by
  obtain ⟨h1, h2, h3, h4, h5⟩ := rp_all h
  have hn : xs.length * (B + 2) ≤ n * (B + 2) := Nat.mul_le_mul_right _ hl
  refine ⟨by simp [PyData.showable, h1], by simp [PyData.hasDict, h2], by simp only [PyData.depth]; omega, ?_⟩
  simp only [PyData.shown]
  have := listText_len_le (PyData.shownAll xs)
  have h6 := piled_sum (PyData.shownAll xs)
  omega
/-- the same data, however the store grows -/
def Py (pn k : Nat) (m : Mem) (d : D) (y : PyData) : Prop := ∀ m' n, Kept pn m m' → k ≤ n → toPy m' n d = some y
def PX (pn k : Nat) (m : Mem) (d : D) (y : PyData) : Prop := ∀ m' n, Kept pn m m' → k ≤ n → toPyX m' n d = some y
theorem Py.gr {pn : Nat} {k : Nat} {m m1 : Mem} {d : D} {y : PyData} (h : Py pn k m d y) (g : Kept pn m m1) : Py pn k m1 d y := fun m' n g' hn => h m' n (g.trans g') hn
theorem PX.gr {pn : Nat} {k : Nat} {m m1 : Mem} {d : D} {y : PyData} (h : PX pn k m d y) (g : Kept pn m m1) : PX pn k m1 d y := fun m' n g' hn => h m' n (g.trans g') hn
theorem Py.mono {pn : Nat} {k k' : Nat} {m : Mem} {d : D} {y : PyData} (h : Py pn k m d y) (hk : k ≤ k') : Py pn k' m d y := fun m' n g' hn => h m' n g' (Nat.le_trans hk hn)
theorem PX.mono {pn : Nat} {k k' : Nat} {m : Mem} {d : D} {y : PyData} (h : PX pn k m d y) (hk : k ≤ k') : PX pn k' m d y := fun m' n g' hn => h m' n g' (Nat.le_trans hk hn)
theorem mapM_all2 {f : D → Option PyData} {P : D → PyData → Prop} (hP : ∀ a y, P a y → f a = some y) : ∀ {ds : List D} {ys : List PyData}, All2 P ds ys → ds.mapM f = some ys
  | _, _, .nil => rfl
  | _, _, .cons p t => by rw [List.mapM_cons, hP _ _ p, mapM_all2 hP t]; rfl
theorem all2_ex {P : D → PyData → Prop} : ∀ {ds : List D}, (∀ a ∈ ds, ∃ y, P a y) → ∃ ys, All2 P ds ys
  | [], _ => ⟨[], .nil⟩
  | a :: ds, h => by
    obtain ⟨y, hy⟩ := h a (by simp)
    obtain ⟨ys, hys⟩ := all2_ex (ds := ds) fun b hb => h b (by simp [hb])
    exact ⟨y :: ys, .cons hy hys⟩
theorem All2.right {α β : Type} {P : α → β → Prop} {as : List α} {bs : List β} (h : All2 P as bs) {Q : β → Prop} (k : ∀ a b, P a b → Q b) : ∀ b ∈ bs, Q b := by
  induction h with
  | nil => simp
  | cons p _ ih =>
    intro b hb
    rcases List.mem_cons.mp hb with rfl | hb
    · exact k _ _ p
    · exact ih b hb
theorem tup_py {pn : Nat} {k d B n : Nat} {m : Mem} {ds : List D} (h : ∀ a ∈ ds, ∃ y, Py pn k m a y ∧ Rp d B y) (hl : ds.length ≤ n) : ∃ y, Py pn (k + 1) m (.tup ds) y ∧ Rp (d + 1) (n * (B + 2) + 4) y := by
  obtain ⟨ys, hy⟩ := all2_ex h
  refine ⟨.tuple ys, fun m' j g hj => ?_, rp_tup (hy.right fun _ _ p => p.2) (by rw [← hy.length]; exact hl)⟩
  obtain ⟨j, rfl⟩ : ∃ i, j = i + 1 := ⟨j - 1, by omega⟩
  show (ds.mapM (toPy m' j)).map PyData.tuple = _
  rw [mapM_all2 (fun a y (p : Py pn k m a y ∧ Rp d B y) => p.1 m' j g (by omega)) hy]
  rfl
theorem tup_px {pn : Nat} {k d B n : Nat} {m : Mem} {ds : List D} (h : ∀ a ∈ ds, ∃ y, PX pn k m a y ∧ Rx d B y) (hl : ds.length ≤ n) : ∃ y, PX pn (k + 1) m (.tup ds) y ∧ Rx (d + 1) (n * (B + 2) + 4) y := by
  obtain ⟨ys, hy⟩ := all2_ex h
  refine ⟨.tuple ys, fun m' j g hj => ?_, rx_tup (hy.right fun _ _ p => p.2) (by rw [← hy.length]; exact hl)⟩
  obtain ⟨j, rfl⟩ : ∃ i, j = i + 1 := ⟨j - 1, by omega⟩
  show (ds.mapM (toPyX m' j)).map PyData.tuple = _
  rw [mapM_all2 (fun a y (p : PX pn k m a y ∧ Rx d B y) => p.1 m' j g (by omega)) hy]
  rfl
theorem lst_py {pn : Nat} {k d B n a : Nat} {m : Mem} {ds : List D} (ha : m[a]? = some (.lst ds)) (hne : a ≠ pn) (h : ∀ a ∈ ds, ∃ y, Py pn k m a y ∧ Rp d B y) (hl : ds.length ≤ n) : ∃ y, Py pn (k + 1) m (.ref a) y ∧ Rp (d + 1) (n * (B + 2) + 4) y := by
  obtain ⟨ys, hy⟩ := all2_ex h
  refine ⟨.list ys, fun m' j g hj => ?_, rp_lst (hy.right fun _ _ p => p.2) (by rw [← hy.length]; exact hl)⟩
  obtain ⟨j, rfl⟩ : ∃ i, j = i + 1 := ⟨j - 1, by omega⟩
  show (match m'[a]? with | some (.lst xs) => ((xs.mapM (toPy m' j)).map PyData.list) | _ => none) = _
  rw [g a _ hne ha]
  show (ds.mapM (toPy m' j)).map PyData.list = _
  rw [mapM_all2 (fun a y (p : Py pn k m a y ∧ Rp d B y) => p.1 m' j g (by omega)) hy]
  rfl
/-- both ways -/
def Bo (pn : Nat) (m : Mem) (d : D) : Prop := ∃ y, Py pn 3 m d y ∧ PX pn 3 m d y ∧ Rp 2 4000 y
def Th0 (pn : Nat) (m : Mem) (d : D) : Prop := (∃ y, Py pn 5 m d y ∧ Rp 5 40000 y) ∨ ∃ y, PX pn 5 m d y ∧ Rx 5 40000 y
def Th1 (pn : Nat) (m : Mem) (d : D) : Prop := (∃ y, Py pn 8 m d y ∧ Rp 9 900000 y) ∨ ∃ y, PX pn 8 m d y ∧ Rx 9 900000 y
theorem Bo.gr {pn : Nat} {m m1 : Mem} {d : D} (h : Bo pn m d) (g : Kept pn m m1) : Bo pn m1 d := by
  obtain ⟨y, a, b, c⟩ := h
  exact ⟨y, a.gr g, b.gr g, c⟩
theorem Bo.th {pn : Nat} {m : Mem} {d : D} (h : Bo pn m d) : Th0 pn m d := by
  obtain ⟨y, a, b, c⟩ := h
  exact .inl ⟨y, a.mono (by omega), c.mono (by omega) (by omega)⟩
theorem Th0.gr {pn : Nat} {m m1 : Mem} {d : D} (h : Th0 pn m d) (g : Kept pn m m1) : Th0 pn m1 d := by
  rcases h with ⟨y, a, b⟩ | ⟨y, a, b⟩
  · exact .inl ⟨y, a.gr g, b⟩
  · exact .inr ⟨y, a.gr g, b⟩
theorem Th1.gr {pn : Nat} {m m1 : Mem} {d : D} (h : Th1 pn m d) (g : Kept pn m m1) : Th1 pn m1 d := by
  rcases h with ⟨y, a, b⟩ | ⟨y, a, b⟩
  · exact .inl ⟨y, a.gr g, b⟩
  · exact .inr ⟨y, a.gr g, b⟩
theorem Th0.th {pn : Nat} {m : Mem} {d : D} (h : Th0 pn m d) : Th1 pn m d := by
  rcases h with ⟨y, a, b⟩ | ⟨y, a, b⟩
  · exact .inl ⟨y, a.mono (by omega), b.mono (by omega) (by omega)⟩
  · exact .inr ⟨y, a.mono (by omega), b.mono (by omega) (by omega)⟩
theorem bo_int {pn : Nat} {i : Int} (m : Mem) (h : -(10 ^ 50) ≤ i ∧ i ≤ 10 ^ 50) : Bo pn m (.int i) := by
  refine ⟨.int i, fun m' n g hn => ?_, fun m' n g hn => ?_, (rp_int h).mono (by omega) (by omega)⟩
  · obtain ⟨j, rfl⟩ : ∃ j, n = j + 1 := ⟨n - 1, by omega⟩
    rfl
  · obtain ⟨j, rfl⟩ : ∃ j, n = j + 1 := ⟨n - 1, by omega⟩
    rfl
theorem bo_non {pn : Nat} (m : Mem) : Bo pn m .non := by
  refine ⟨.none, fun m' n g hn => ?_, fun m' n g hn => ?_, rp_non.mono (by omega) (by omega)⟩
  · obtain ⟨j, rfl⟩ : ∃ j, n = j + 1 := ⟨n - 1, by omega⟩
    rfl
  · obtain ⟨j, rfl⟩ : ∃ j, n = j + 1 := ⟨n - 1, by omega⟩
    rfl
theorem bo_bl {pn : Nat} (m : Mem) (b : Bool) : Bo pn m (.bl b) := by
  refine ⟨.bool b, fun m' n g hn => ?_, fun m' n g hn => ?_, (rp_bool b).mono (by omega) (by omega)⟩
  · obtain ⟨j, rfl⟩ : ∃ j, n = j + 1 := ⟨n - 1, by omega⟩
    rfl
  · obtain ⟨j, rfl⟩ : ∃ j, n = j + 1 := ⟨n - 1, by omega⟩
    rfl
theorem bo_str {pn : Nat} (m : Mem) {x : Str} (h : (reprText x).length ≤ 4000) : Bo pn m (.str x) := by
  refine ⟨.str x, fun m' n g hn => ?_, fun m' n g hn => ?_, ⟨by simp [PyData.showable], by simp [PyData.hasDict], by simp [PyData.depth], by simpa [PyData.shown] using h⟩⟩
  · obtain ⟨j, rfl⟩ : ∃ j, n = j + 1 := ⟨n - 1, by omega⟩
    rfl
  · obtain ⟨j, rfl⟩ : ∃ j, n = j + 1 := ⟨n - 1, by omega⟩
    rfl
theorem bo_pr {pn : Nat} {p : Int × Int} (m : Mem) (h1 : -(10 ^ 50) ≤ p.1 ∧ p.1 ≤ 10 ^ 50) (h2 : -(10 ^ 50) ≤ p.2 ∧ p.2 ≤ 10 ^ 50) : Bo pn m (prD p) := by
  refine ⟨ppP p, fun m' n g hn => ?_, fun m' n g hn => ?_, rp_pp h1 h2⟩
  · obtain ⟨j, rfl⟩ : ∃ j, n = j + 2 := ⟨n - 2, by omega⟩
    rfl
  · obtain ⟨j, rfl⟩ : ∃ j, n = j + 2 := ⟨n - 2, by omega⟩
    rfl
/-- a tuple of good ones and one odd one -/
theorem th_mid {pn : Nat} {m : Mem} {as bs : List D} {o : D} (ha : ∀ a ∈ as, Bo pn m a) (hb : ∀ a ∈ bs, Bo pn m a) (ho : Th0 pn m o) (hl : as.length + bs.length ≤ 18) : Th1 pn m (.tup (as ++ o :: bs)) := by
  rcases ho with ⟨y, h1, h2⟩ | ⟨y, h1, h2⟩
  · obtain ⟨z, z1, z2⟩ := tup_py (k := 5) (d := 5) (B := 40000) (n := 20) (m := m) (ds := as ++ o :: bs) (fun a h => by
      rcases List.mem_append.mp h with h | h
      · obtain ⟨y, a1, _, a3⟩ := ha a h
        exact ⟨y, a1.mono (by omega), a3.mono (by omega) (by omega)⟩
      · rcases List.mem_cons.mp h with rfl | h
        · exact ⟨y, h1, h2⟩
        · obtain ⟨y, a1, _, a3⟩ := hb a h
          exact ⟨y, a1.mono (by omega), a3.mono (by omega) (by omega)⟩) (by simp; omega)
    exact .inl ⟨z, z1.mono (by omega), z2.mono (by omega) (by omega)⟩
  · obtain ⟨z, z1, z2⟩ := tup_px (k := 5) (d := 5) (B := 40000) (n := 20) (m := m) (ds := as ++ o :: bs) (fun a h => by
      rcases List.mem_append.mp h with h | h
      · obtain ⟨y, _, a2, a3⟩ := ha a h
        exact ⟨y, a2.mono (by omega), a3.rx.mono (by omega) (by omega)⟩
      · rcases List.mem_cons.mp h with rfl | h
        · exact ⟨y, h1, h2⟩
        · obtain ⟨y, _, a2, a3⟩ := hb a h
          exact ⟨y, a2.mono (by omega), a3.rx.mono (by omega) (by omega)⟩) (by simp; omega)
    exact .inr ⟨z, z1.mono (by omega), z2.mono (by omega) (by omega)⟩
theorem th_all {pn : Nat} {m : Mem} {ds : List D} (h : ∀ a ∈ ds, Th0 pn m a ∧ ∃ y, Py pn 5 m a y ∧ Rp 5 40000 y) (hl : ds.length ≤ 20) : Th1 pn m (.tup ds) := by
  obtain ⟨z, z1, z2⟩ := tup_py (k := 5) (d := 5) (B := 40000) (n := 20) (m := m) (ds := ds) (fun a ha => (h a ha).2) hl
  exact .inl ⟨z, z1.mono (by omega), z2.mono (by omega) (by omega)⟩
theorem th_bos {pn : Nat} {m : Mem} {ds : List D} (h : ∀ a ∈ ds, Bo pn m a) (hl : ds.length ≤ 20) : Th1 pn m (.tup ds) := by
  refine th_all (fun a ha => ⟨(h a ha).th, ?_⟩) hl
  obtain ⟨y, a1, _, a3⟩ := h a ha
  exact ⟨y, a1.mono (by omega), a3.mono (by omega) (by omega)⟩
theorem th_lst {pn : Nat} {m : Mem} {k : Nat} {ds : List D} (hk : m[k]? = some (.lst ds)) (hne : k ≠ pn) (h : ∀ a ∈ ds, Bo pn m a) (hl : ds.length ≤ 20) : Th1 pn m (.ref k) := by
  obtain ⟨z, z1, z2⟩ := lst_py (k := 3) (d := 2) (B := 4000) (n := 20) hk hne (fun a ha => by
    obtain ⟨y, a1, _, a3⟩ := h a ha
    exact ⟨y, a1, a3⟩) hl
  exact .inl ⟨z, z1.mono (by omega), z2.mono (by omega) (by omega)⟩
theorem th_dic {pn : Nat} {m : Mem} {k : Nat} {kvs : List (Key × D)} (hk : m[k]? = some (.dic kvs)) (hne : k ≠ pn) (h : kvs = [] ∨ kvs = [(.inl 0, .int 0)]) : Th0 pn m (.ref k) := by
  right
  rcases h with rfl | rfl
  · refine ⟨.dict [], fun m' n g hn => ?_, ⟨by simp [PyData.showable, PyData.showableKv], by simp [PyData.depth, PyData.depthKv], by decide +kernel⟩⟩
    obtain ⟨j, rfl⟩ : ∃ j, n = j + 1 := ⟨n - 1, by omega⟩
    simp [toPyX, g k _ hne hk]
  · refine ⟨.dict [(.int 0, .int 0)], fun m' n g hn => ?_, ⟨by decide +kernel, by decide +kernel, by decide +kernel⟩⟩
    obtain ⟨j, rfl⟩ : ∃ j, n = j + 2 := ⟨n - 2, by omega⟩
    simp [toPyX, g k _ hne hk, keyP]
theorem th_lst0 {pn : Nat} {m : Mem} {k : Nat} {ds : List D} (hk : m[k]? = some (.lst ds)) (hne : k ≠ pn) (h : ∀ a ∈ ds, Bo pn m a) (hl : ds.length ≤ 5) : Th0 pn m (.ref k) := by
  obtain ⟨z, z1, z2⟩ := lst_py (k := 3) (d := 2) (B := 4000) (n := 5) hk hne (fun a ha => by
    obtain ⟨y, a1, _, a3⟩ := h a ha
    exact ⟨y, a1, a3⟩) hl
  exact .inl ⟨z, z1.mono (by omega), z2.mono (by omega) (by omega)⟩
theorem th_tup0 {pn : Nat} {m : Mem} {ds : List D} (h : ∀ a ∈ ds, Bo pn m a) (hl : ds.length ≤ 5) : Th0 pn m (.tup ds) := by
  obtain ⟨z, z1, z2⟩ := tup_py (k := 3) (d := 2) (B := 4000) (n := 5) (m := m) (ds := ds) (fun a ha => by
    obtain ⟨y, a1, _, a3⟩ := h a ha
    exact ⟨y, a1, a3⟩) hl
  exact .inl ⟨z, z1.mono (by omega), z2.mono (by omega) (by omega)⟩
theorem bo_unit {pn : Nat} (m : Mem) : Bo pn m (.tup []) := by
  refine ⟨.tuple [], fun m' n g hn => ?_, fun m' n g hn => ?_, ⟨by decide +kernel, by decide +kernel, by decide +kernel, by decide +kernel⟩⟩
  · obtain ⟨j, rfl⟩ : ∃ j, n = j + 1 := ⟨n - 1, by omega⟩
    rfl
  · obtain ⟨j, rfl⟩ : ∃ j, n = j + 1 := ⟨n - 1, by omega⟩
    rfl
/-! ### its repr -/
theorem py_agree (m : Mem) : ∀ (n : Nat) (d : D) (y y' : PyData), toPy m n d = some y' → toPyX m n d = some y → y = y'
  | 0, _, _, _, h, _ => by cases h
  | n + 1, d, y, y', h, h' => by
    cases d with
    | non => cases h; cases h'; rfl
    | bl b => cases h; cases h'; rfl
    | int i => cases h; cases h'; rfl
    | str x => cases h; cases h'; rfl
    | tup ds =>
      have all : ∀ (ds : List D) (ys ys' : List PyData), ds.mapM (toPy m n) = some ys' → ds.mapM (toPyX m n) = some ys → ys = ys' := by
        intro ds
        induction ds with
        | nil => intro ys ys' h h'; simp at h h'; rw [h, h']
        | cons d ds ih =>
          intro ys ys' h h'
          rw [List.mapM_cons] at h h'
          cases a1 : toPy m n d with
          | none => rw [a1] at h; simp at h
          | some z =>
            cases a2 : toPyX m n d with
            | none => rw [a2] at h'; simp at h'
            | some w =>
              cases b1 : ds.mapM (toPy m n) with
              | none => rw [a1, b1] at h; simp at h
              | some zs =>
                cases b2 : ds.mapM (toPyX m n) with
                | none => rw [a2, b2] at h'; simp at h'
                | some ws =>
                  rw [a1, b1] at h
                  rw [a2, b2] at h'
                  simp at h h'
                  rw [← h, ← h', py_agree m n d w z a1 a2, ih _ _ b1 b2]
      simp only [toPy] at h
      simp only [toPyX] at h'
      cases b1 : ds.mapM (toPy m n) with
      | none => rw [b1] at h; cases h
      | some zs =>
        cases b2 : ds.mapM (toPyX m n) with
        | none => rw [b2] at h'; cases h'
        | some ws =>
          rw [b1] at h
          rw [b2] at h'
          cases h
          cases h'
          rw [all _ _ _ b1 b2]
    | ref a =>
      simp only [toPy] at h
      simp only [toPyX] at h'
      cases e : m[a]? with
      | none => rw [e] at h; cases h
      | some o =>
        rw [e] at h h'
        cases o with
        | lst _ => cases h'
        | dic _ => cases h
        | fdic _ => cases h
        | ins _ _ => cases h
        | dT _ => cases h
    | fn x => cases h
    | fro ds => cases h'
    | hot _ => cases h
def Sh (pn : Nat) (m : Mem) (d : D) (x : Str) : Prop := ∀ m', Kept pn m m' → dReprX [d] m' = .ok (.str x) m'
theorem sh_of {pn : Nat} {m : Mem} {d : D} (h : Th1 pn m d) (hd : Kn d m) : ∃ x, Sh pn m d x := by
  have big : ∀ (d : D), ((∃ ds, d = .tup ds) ∨ ∃ n, d = .ref n) → Kn d m → Th1 pn m d → ∃ x, Sh pn m d x := by
    intro d hs hk h
    have heq : ∀ m', dReprX [d] m' = (match dRepr [d] m' with
      | .ok v m' => .ok v m'
      | _ => match toPyX m' 12 d with
        | some y => if y.showable = true ∧ y.depth ≤ 60 ∧ y.shown.length ≤ 1000000 then .ok (.str y.shown) m' else .bad
        | none => .bad) := fun m' => by
      rcases hs with ⟨ds, rfl⟩ | ⟨n, rfl⟩ <;> rfl
    rcases h with ⟨y, a, b⟩ | ⟨y, a, b⟩
    · refine ⟨y.shown, fun m' g => ?_⟩
      have e := a m' 12 g (by omega)
      have hsq : ∃ ds, seqOf d m' = some ds := by
        rcases hs with ⟨ds, rfl⟩ | ⟨n, rfl⟩
        · exact ⟨ds, rfl⟩
        · simp only [toPy] at e
          simp only [seqOf]
          cases e2 : m'[n]? with
          | none => rw [e2] at e; cases e
          | some o =>
            rw [e2] at e
            cases o with
            | lst xs => exact ⟨xs, rfl⟩
            | dic _ => cases e
            | fdic _ => cases e
            | ins _ _ => cases e
            | dT _ => cases e
      obtain ⟨ds, hsq⟩ := hsq
      rw [heq]
      have : dRepr [d] m' = .ok (.str y.shown) m' := by
        simp only [dRepr, hsq, e]
        rw [if_pos ⟨b.1, b.2.1, by have := b.2.2.1; omega, by have := b.2.2.2; omega⟩]
      rw [this]
    · refine ⟨y.shown, fun m' g => ?_⟩
      have e := a m' 12 g (by omega)
      rw [heq]
      cases hr : dRepr [d] m' with
      | ok v m'' =>
        have : v = .str y.shown ∧ m'' = m' := by
          unfold dRepr at hr
          simp only at hr
          cases h1 : seqOf d m' with
          | none => rw [h1] at hr; cases hr
          | some ds =>
            cases h2 : toPy m' 12 d with
            | none => rw [h1, h2] at hr; cases hr
            | some y' =>
              rw [h1, h2] at hr
              simp only at hr
              split at hr
              · cases hr
                rw [py_agree m' 12 d y y' h2 e]
                exact ⟨rfl, rfl⟩
              · cases hr
        rw [this.1, this.2]
      | _ =>
        simp only [e]
        rw [if_pos ⟨b.1, by have := b.2.1; omega, by have := b.2.2; omega⟩]
  have ful : ∀ (y : PyData), (toPy m 12 d = some y ∧ Rp 9 900000 y) ∨ (toPyX m 12 d = some y ∧ Rx 9 900000 y) → Rx 9 900000 y := fun y hy => by
    rcases hy with ⟨_, b⟩ | ⟨_, b⟩
    · exact b.rx
    · exact b
  cases d with
  | tup ds => exact big _ (.inl ⟨ds, rfl⟩) hd h
  | ref n => exact big _ (.inr ⟨n, rfl⟩) hd h
  | non => exact ⟨"None", fun m' g => rfl⟩
  | bl b => exact ⟨_, fun m' g => rfl⟩
  | int i =>
    obtain ⟨y, e, b⟩ : ∃ y, y = PyData.int i ∧ Rx 9 900000 y := by
      rcases h with ⟨y, a, b⟩ | ⟨y, a, b⟩
      · exact ⟨y, (Option.some.inj (a m 12 (Kept.refl pn m) (by omega))).symm, b.rx⟩
      · exact ⟨y, (Option.some.inj (a m 12 (Kept.refl pn m) (by omega))).symm, b⟩
    subst e
    have hb : i.natAbs.log2 < 1920 := by simpa [PyData.showable] using b.1
    exact ⟨toString i, fun m' g => by simp only [dReprX, hb, if_true]⟩
  | str x =>
    obtain ⟨y, e, b⟩ : ∃ y, y = PyData.str x ∧ Rx 9 900000 y := by
      rcases h with ⟨y, a, b⟩ | ⟨y, a, b⟩
      · exact ⟨y, (Option.some.inj (a m 12 (Kept.refl pn m) (by omega))).symm, b.rx⟩
      · exact ⟨y, (Option.some.inj (a m 12 (Kept.refl pn m) (by omega))).symm, b⟩
    subst e
    have hb : (reprText x).length ≤ 1000000 := by
      have := b.2.2
      simp only [PyData.shown] at this
      omega
    exact ⟨reprText x, fun m' g => by simp only [dReprX, hb, if_true]⟩
  | fn x => obtain ⟨t, hd⟩ := hd; cases hd
  | hot _ => obtain ⟨t, hd⟩ := hd; cases hd
  | fro ds =>
    rcases h with ⟨y, a, b⟩ | ⟨y, a, b⟩
    · refine ⟨y.shown, fun m' g => ?_⟩
      have e := a m' 12 g (by omega)
      have : dRepr [D.fro ds] m' = .ok (.str y.shown) m' := by
        simp only [dRepr, seqOf, e]
        rw [if_pos ⟨b.1, b.2.1, by have := b.2.2.1; omega, by have := b.2.2.2; omega⟩]
      simp only [dReprX, this]
    · have := a m 12 (Kept.refl pn m) (by omega)
      cases this
theorem p_sh {pn : Nat} {m m' : Mem} {d : D} {x : Str} {Q : D → Mem → Prop} (h : Sh pn m d x) (g : Kept pn m m') (q : Q (.str x) m') : (dReprX [d] m').post Q := by
  rw [h m' g]
  exact q
/-- known, and not the pen -/
def KnP (pn : Nat) : Nat → D → Mem → Prop
  | 0, _, _ => True
  | n + 1, d, m => Kn d m ∧ d ≠ .ref pn ∧ ∀ ds, d = .tup ds → ∀ x ∈ ds, KnP pn n x m
theorem Kn.kept {pn : Nat} {d : D} {m m' : Mem} (g : Kept pn m m') (hne : d ≠ .ref pn) (h : Kn d m) : Kn d m' := by
  obtain ⟨t, h⟩ := h
  refine ⟨t, ?_⟩
  cases d with
  | ref n =>
    rw [ty_ref] at h ⊢
    cases e : m[n]? with
    | none => rw [e] at h; cases h
    | some o => rw [e] at h; rw [g n o (fun z => hne (by rw [z])) e]; exact h
  | _ => exact h
theorem KnP.kept {pn : Nat} {m m' : Mem} (g : Kept pn m m') : ∀ {n : Nat} {d : D}, KnP pn n d m → KnP pn n d m'
  | 0, _, _ => trivial
  | n + 1, _, h => ⟨h.1.kept g h.2.1, h.2.1, fun ds e x hx => KnP.kept g (h.2.2 ds e x hx)⟩
theorem KnP.kn {pn : Nat} {m : Mem} : ∀ {n : Nat} {d : D}, KnP pn n d m → KnN n d m
  | 0, _, _ => trivial
  | n + 1, _, h => ⟨h.1, fun ds e x hx => KnP.kn (h.2.2 ds e x hx)⟩
theorem KnP.low {pn : Nat} {m : Mem} : ∀ {n : Nat} {d : D}, KnP pn (n + 1) d m → KnP pn n d m
  | 0, _, _ => trivial
  | n + 1, _, h => ⟨h.1, h.2.1, fun ds e x hx => KnP.low (h.2.2 ds e x hx)⟩
theorem knP_tup {pn n : Nat} {m : Mem} {ds : List D} (h : ∀ x ∈ ds, KnP pn n x m) : KnP pn (n + 1) (.tup ds) m := ⟨⟨_, rfl⟩, (fun z => by cases z), fun ds' e x hx => by cases e; exact h x hx⟩
theorem knP_non {pn n : Nat} {m : Mem} : KnP pn n .non m := by
  cases n with
  | zero => trivial
  | succ n => exact ⟨⟨_, rfl⟩, (fun z => by cases z), fun ds e => by cases e⟩
theorem knP_bl {pn n : Nat} {m : Mem} (b : Bool) : KnP pn n (.bl b) m := by
  cases n with
  | zero => trivial
  | succ n => exact ⟨⟨_, rfl⟩, (fun z => by cases z), fun ds e => by cases e⟩
theorem knP_int {pn n : Nat} {m : Mem} (i : Int) : KnP pn n (.int i) m := by
  cases n with
  | zero => trivial
  | succ n => exact ⟨⟨_, rfl⟩, (fun z => by cases z), fun ds e => by cases e⟩
theorem knP_str {pn n : Nat} {m : Mem} (x : Str) : KnP pn n (.str x) m := by
  cases n with
  | zero => trivial
  | succ n => exact ⟨⟨_, rfl⟩, (fun z => by cases z), fun ds e => by cases e⟩
theorem knP_lst {pn n k : Nat} {m : Mem} {xs : List D} (h : m[k]? = some (.lst xs)) (hne : k ≠ pn) : KnP pn n (.ref k) m := by
  cases n with
  | zero => trivial
  | succ n => exact ⟨⟨_, by rw [ty_ref, h]⟩, (fun z => by cases z; exact hne rfl), fun ds e => by cases e⟩
theorem knP_dic {pn n k : Nat} {m : Mem} {xs : List (Key × D)} (h : m[k]? = some (.dic xs)) (hne : k ≠ pn) : KnP pn n (.ref k) m := by
  cases n with
  | zero => trivial
  | succ n => exact ⟨⟨_, by rw [ty_ref, h]⟩, (fun z => by cases z; exact hne rfl), fun ds e => by cases e⟩
/-- odd things, whole things, good things -/
def Od (pn : Nat) (m : Mem) (d : D) : Prop := Th0 pn m d ∧ KnP pn 3 d m
def Tg (pn : Nat) (m : Mem) (d : D) : Prop := Th1 pn m d ∧ KnP pn 4 d m
def Gd (pn : Nat) (m : Mem) (d : D) : Prop := Bo pn m d ∧ KnP pn 3 d m
theorem Od.kept {pn : Nat} {m m' : Mem} {d : D} (h : Od pn m d) (g : Kept pn m m') : Od pn m' d := ⟨h.1.gr g, h.2.kept g⟩
theorem Tg.kept {pn : Nat} {m m' : Mem} {d : D} (h : Tg pn m d) (g : Kept pn m m') : Tg pn m' d := ⟨h.1.gr g, h.2.kept g⟩
theorem Gd.kept {pn : Nat} {m m' : Mem} {d : D} (h : Gd pn m d) (g : Kept pn m m') : Gd pn m' d := ⟨h.1.gr g, h.2.kept g⟩
theorem Gd.od {pn : Nat} {m : Mem} {d : D} (h : Gd pn m d) : Od pn m d := ⟨h.1.th, h.2⟩
theorem gd_int {pn : Nat} {m : Mem} {i : Int} (h : -(10 ^ 50) ≤ i ∧ i ≤ 10 ^ 50) : Gd pn m (.int i) := ⟨bo_int m h, knP_int i⟩
theorem gd_pr {pn : Nat} {m : Mem} {p : Int × Int} (h1 : -(10 ^ 50) ≤ p.1 ∧ p.1 ≤ 10 ^ 50) (h2 : -(10 ^ 50) ≤ p.2 ∧ p.2 ≤ 10 ^ 50) : Gd pn m (prD p) := ⟨bo_pr m h1 h2, knP_tup fun x hx => by
  simp at hx
  rcases hx with rfl | rfl
  · exact knP_int _
  · exact knP_int _⟩
theorem tg_mid {pn : Nat} {m : Mem} {as bs : List D} {o : D} (ha : ∀ a ∈ as, Gd pn m a) (hb : ∀ a ∈ bs, Gd pn m a) (ho : Od pn m o) (hl : as.length + bs.length ≤ 18) : Tg pn m (.tup (as ++ o :: bs)) :=
  ⟨th_mid (fun a h => (ha a h).1) (fun a h => (hb a h).1) ho.1 hl, knP_tup fun x hx => by
    rcases List.mem_append.mp hx with h | h
    · exact (ha x h).2
    · rcases List.mem_cons.mp h with rfl | h
      · exact ho.2
      · exact (hb x h).2⟩
theorem tg_all {pn : Nat} {m : Mem} {ds : List D} (h : ∀ a ∈ ds, Gd pn m a) (hl : ds.length ≤ 20) : Tg pn m (.tup ds) := ⟨th_bos (fun a ha => (h a ha).1) hl, knP_tup fun x hx => (h x hx).2⟩
end Mi
namespace Mi
open PySem PySem.Spec PyProof.Rows L2 Classical
/-! ### what comes out, errors too -/
def R.pst {α : Type} (r : R α) (Q : α → Mem → Prop) (E : Str → Mem → Prop) : Prop := match r with
  | .ok a m => Q a m
  | .exc c m => E c m
  | .bad => False
def RS.pst (r : RS) (N : En → Mem → Prop) (T : D → Mem → Prop) (E : Str → En → Mem → Prop) : Prop := match r with
  | .nx e m => N e m
  | .rt d m => T d m
  | .exc c e m => E c e m
  | _ => False
theorem R.pst.mono {α : Type} {r : R α} {Q Q' : α → Mem → Prop} {E E' : Str → Mem → Prop} (h : r.pst Q E) (k : ∀ a m, Q a m → Q' a m) (k2 : ∀ c m, E c m → E' c m) : r.pst Q' E' := by
  cases r with
  | ok a m => exact k a m h
  | exc c m => exact k2 c m h
  | bad => exact h
theorem RS.pst.mono {r : RS} {N N' : En → Mem → Prop} {T T' : D → Mem → Prop} {E E' : Str → En → Mem → Prop} (h : r.pst N T E) (k : ∀ a m, N a m → N' a m) (k2 : ∀ a m, T a m → T' a m) (k3 : ∀ c e m, E c e m → E' c e m) : r.pst N' T' E' := by
  cases r with
  | nx a m => exact k a m h
  | rt a m => exact k2 a m h
  | bk a m => exact h
  | ct a m => exact h
  | exc c e m => exact k3 c e m h
  | bad => exact h
theorem R.post.pst {α : Type} {r : R α} {Q : α → Mem → Prop} {E : Str → Mem → Prop} (h : r.post Q) : r.pst Q E := by
  cases r with
  | ok a m => exact h
  | exc c m => exact h.elim
  | bad => exact h
theorem RS.post.pst {r : RS} {N : En → Mem → Prop} {T : D → Mem → Prop} {E : Str → En → Mem → Prop} (h : r.post N T) : r.pst N T E := by
  cases r with
  | nx a m => exact h
  | rt a m => exact h
  | bk a m => exact h
  | ct a m => exact h
  | exc c e m => exact h.elim
  | bad => exact h
theorem R.pst.post {α : Type} {r : R α} {Q : α → Mem → Prop} (h : r.pst Q fun _ _ => False) : r.post Q := by
  cases r with
  | ok a m => exact h
  | exc c m => exact h.elim
  | bad => exact h
section
variable {Q : D → Mem → Prop} {QL : List D → Mem → Prop} {E : Str → Mem → Prop} {N : En → Mem → Prop} {T : D → Mem → Prop} {X : Str → En → Mem → Prop} {e : En} {m : Mem}
theorem y_run {n : Nat} {b : MS} {ds : List D} (h : (b (ds.map some ++ List.replicate (n - ds.length) none) m).pst (fun _ m' => Q .non m') Q fun c _ m' => E c m') : (runM n b ds m).pst Q E := by
  unfold runM
  cases h1 : b (ds.map some ++ List.replicate (n - ds.length) none) m with
  | nx e m => rw [h1] at h; exact h
  | rt d m => rw [h1] at h; exact h
  | exc c e m => rw [h1] at h; exact h
  | bk e m => rw [h1] at h; exact h
  | ct e m => rw [h1] at h; exact h
  | bad => rw [h1] at h; exact h
theorem y_seq {a b : MS} (h : (a e m).pst (fun e' m' => (b e' m').pst N T X) T X) : (sSeq a b e m).pst N T X := by
  unfold sSeq
  cases h1 : a e m with
  | nx e m => rw [h1] at h; exact h
  | rt d m => rw [h1] at h; exact h
  | exc c e m => rw [h1] at h; exact h
  | bk e m => rw [h1] at h; exact h
  | ct e m => rw [h1] at h; exact h
  | bad => rw [h1] at h; exact h
theorem y_go {α : Type} {r : R α} {f : α → Mem → RS} (h : r.pst (fun a m1 => (f a m1).pst N T X) fun c m1 => X c e m1) : (r.go e f).pst N T X := by
  cases r with
  | ok a m => exact h
  | exc c m => exact h
  | bad => exact h
theorem y_bind {α β : Type} {r : R α} {f : α → Mem → R β} {Q : β → Mem → Prop} (h : r.pst (fun a m1 => (f a m1).pst Q E) E) : (r.bind f).pst Q E := by
  cases r with
  | ok a m => exact h
  | exc c m => exact h
  | bad => exact h
theorem y_drop {a : ME} (h : (a e m).pst (fun _ m1 => N e m1) fun c m1 => X c e m1) : (sDrop a e m).pst N T X := y_go h
theorem y_ret {a : ME} (h : (a e m).pst (fun d m1 => T d m1) fun c m1 => X c e m1) : (sRet a e m).pst N T X := y_go h
theorem y_if {t : MT} {a b : MS} (h : (t e m).pst (fun c m1 => if c = true then (a e m1).pst N T X else (b e m1).pst N T X) fun c m1 => X c e m1) : (sIf t a b e m).pst N T X := y_go (h.mono (fun c m1 q => by
  split
  · rename_i hc
    rw [if_pos hc] at q
    exact q
  · rename_i hc
    rw [if_neg hc] at q
    exact q) fun _ _ q => q)
theorem y_set {a : ME} {i : Nat} (h : (a e m).pst (fun d m1 => N (e.set i (some d)) m1) fun c m1 => X c e m1) : (sAsg a (gSet i) e m).pst N T X := y_go h
theorem y_call {n : Nat} {f : List D → M D} {a : MA} (h : (a e m).pst (fun xs m1 => xs.length = n ∧ (f xs m1).pst Q E) E) : (mCall n f a e m).pst Q E := y_bind (h.mono (fun xs m1 q => by
  rw [if_pos q.1]
  exact q.2) fun _ _ q => q)
theorem y_raise {c : Str} {a : ME} (h : (a e m).post fun _ m1 => X c e m1) : (sRaise c a e m).pst N T X := y_go h.pst
theorem y_next (h : N e m) : (sNext e m).pst N T X := h
theorem p_try {i : Nat} {cs : List Str} {b : MS} {h : Addr → Str → MS} (q : (b e m).pst N T fun c e' m' => c ∈ cs ∧ ∃ r : RS, (∀ a, h a c (e'.set i (some (.hot a))) m' = r) ∧ (r.unset i).post N T) : (sTry i cs b h e m).post N T := by
  unfold sTry
  cases h1 : b e m with
  | nx e m => rw [h1] at q; exact q
  | rt d m => rw [h1] at q; exact q
  | bk e m => rw [h1] at q; exact q.elim
  | ct e m => rw [h1] at q; exact q.elim
  | bad => rw [h1] at q; exact q.elim
  | exc c e1 m1 =>
    rw [h1] at q
    obtain ⟨hc, r, hr, q⟩ := q
    dsimp only
    rw [if_pos hc, tryR_eq fun a => by rw [hr a]]
    exact q
theorem y_try {i : Nat} {cs : List Str} {b : MS} {h : Addr → Str → MS} (q : (b e m).pst N T fun c e' m' => c ∈ cs ∧ ∃ r : RS, (∀ a, h a c (e'.set i (some (.hot a))) m' = r) ∧ (r.unset i).post N T) : (sTry i cs b h e m).pst N T X := (p_try q).pst
theorem p_isE {i : Nat} {a : Addr} {b : Bool} (h : e[i]? = some (some (.hot a))) (q : Q (.bl b) m) : (mIsE i a b e m).post Q := by
  unfold mIsE
  rw [h]
  simp only [if_true]
  exact q
theorem isE_eq {i : Nat} {a : Addr} {b : Bool} (h : e[i]? = some (some (.hot a))) : mIsE i a b e m = .ok (.bl b) m := by
  unfold mIsE
  rw [h]
  simp only [if_true]
theorem p_fmtI {i : Int} (h : i.natAbs.log2 < 1920) (q : Q (.str (toString i)) m) : (dFmt (.int i) m).post Q := by
  simp only [dFmt, h, if_true]
  exact q
theorem p_js0 {acc : Str} (q : Q (.str acc) m) : (mJs [] acc e m).post Q := q
theorem p_jsC {a : ME} {as : List ME} {acc : Str} (q : (a e m).post fun d m1 => ∃ y, d = .str y ∧ (acc ++ y).length ≤ 1000000 ∧ (mJs as (acc ++ y) e m1).post Q) : (mJs (a :: as) acc e m).post Q := by
  simp only [mJs, post_bind]
  refine q.mono ?_
  rintro d m1 ⟨y, rfl, h, q⟩
  simp only [h, if_true]
  exact q
theorem y_ifP {t : MT} {a b : MS} (h : (t e m).post fun c m1 => if c = true then (a e m1).pst N T X else (b e m1).pst N T X) : (sIf t a b e m).pst N T X := y_if h.pst
theorem y_callP {n : Nat} {f : List D → M D} {a : MA} (h : (a e m).post fun xs m1 => xs.length = n ∧ (f xs m1).pst Q E) : (mCall n f a e m).pst Q E := y_call h.pst
/-- a part of a text -/
def PartOk (e : En) (m : Mem) (a : ME) : Prop := (a e m).post fun d m1 => (∃ y : Str, d = .str y ∧ y.length ≤ 2000) ∧ m1 = m
theorem part_c {x : Str} (h : x.length ≤ 2000) : PartOk e m (mC (.str x)) := ⟨⟨x, rfl, h⟩, rfl⟩
theorem part_v {i : Nat} {j : Int} (h : e[i]? = some (some (.int j))) (hj : -(10 ^ 50) ≤ j ∧ j ≤ 10 ^ 50) : PartOk e m (mUn dFmt (mVar i)) := by
  have hb : j.natAbs.log2 < 1920 := log_small (by
    have : (j.natAbs : Int) ≤ 10 ^ 50 := by omega
    have h2 : j.natAbs ≤ 10 ^ 50 := by exact_mod_cast this
    exact Nat.lt_of_le_of_lt h2 (by decide))
  refine p_un (p_var h (p_fmtI hb ⟨⟨_, rfl, ?_⟩, rfl⟩))
  have := int_text_len_1921 hb
  omega
theorem part_i {j : Int} (hj : -(10 ^ 50) ≤ j ∧ j ≤ 10 ^ 50) : PartOk e m (mUn dFmt (mC (.int j))) := by
  have hb : j.natAbs.log2 < 1920 := log_small (by
    have : (j.natAbs : Int) ≤ 10 ^ 50 := by omega
    have h2 : j.natAbs ≤ 10 ^ 50 := by exact_mod_cast this
    exact Nat.lt_of_le_of_lt h2 (by decide))
  refine p_un (p_c (p_fmtI hb ⟨⟨_, rfl, ?_⟩, rfl⟩))
  have := int_text_len_1921 hb
  omega
theorem js_ok : ∀ {as : List ME} {acc : Str}, (∀ a ∈ as, PartOk e m a) → acc.length + as.length * 2000 ≤ 1000000 → (mJs as acc e m).post fun _ m1 => m1 = m
  | [], acc, _, _ => p_js0 rfl
  | a :: as, acc, h, hl => by
    refine p_jsC ((h a (by simp)).mono ?_)
    rintro d m1 ⟨⟨y, rfl, hy⟩, hm⟩
    rw [hm]
    rw [List.length_cons] at hl
    have e1 := PySem.Str.length_append acc y
    exact ⟨y, rfl, by omega, js_ok (fun b hb => h b (by simp [hb])) (by omega)⟩
theorem p_count {n : Nat} {xs : List D} {bs : List Bool} {b : Bool} (h : m[n]? = some (.lst xs)) (hb : blsOf xs = some bs) (q : Q (.int (bs.count b : Nat)) m) : (dCount (.ref n) [.bl b] m).post Q := by
  simp only [dCount, h, hb]
  exact q
theorem p_index {n j : Nat} {xs : List D} {bs : List Bool} {b : Bool} (h : m[n]? = some (.lst xs)) (hb : blsOf xs = some bs) (hj : bs.idxOf? b = some j) (q : Q (.int (j : Nat)) m) : (dIndex (.ref n) [.bl b] m).post Q := by
  simp only [dIndex, h, hb, hj]
  exact q
theorem p_mulS {x : Str} {n : Int} (h : PySem.MulOk x n) (q : Q (.str (PySem.Txt.mul x n)) m) : (dMulS (.str x) (.int n) m).post Q := by
  simp only [dMulS, h, if_true]
  exact q
theorem rt_of {r : RS} {d0 : D} {m0 : Mem} (h : r.post (fun _ _ => False) fun d m2 => d = d0 ∧ m2 = m0) : r = .rt d0 m0 := by
  cases r with
  | rt d m2 =>
    obtain ⟨rfl, rfl⟩ := h
    rfl
  | nx e m2 => exact h.elim
  | bk e m2 => exact h.elim
  | ct e m2 => exact h.elim
  | exc c e m2 => exact h.elim
  | bad => exact h.elim
theorem p_catTT {xs ys : List D} (hl : xs.length + ys.length ≤ 1000000) (q : Q (.tup (xs ++ ys)) m) : (dAdd (.tup xs) (.tup ys) m).post Q := by
  simp only [dAdd, hl, if_true]
  exact q
theorem cut_hiN (xs : List D) (h : Int) (h0 : 0 ≤ h) : Mi.cutD xs none (some h) = xs.take h.toNat := by
  unfold Mi.cutD
  have e : HT.sIx xs.length xs.length (some h) = min h.toNat xs.length := by
    have := HT.sIx_nat xs.length xs.length h.toNat
    rw [show ((h.toNat : Nat) : Int) = h by omega] at this
    exact this
  rw [e, HT.sIx_none, List.drop_zero, Nat.sub_zero]
  by_cases c : h.toNat ≤ xs.length
  · rw [Nat.min_eq_left c]
  · rw [Nat.min_eq_right (by omega), List.take_of_length_le (Nat.le_refl _), List.take_of_length_le (by omega)]
theorem cut_loN (xs : List D) (h : Int) (h0 : 0 ≤ h) : Mi.cutD xs (some h) none = xs.drop h.toNat := by
  unfold Mi.cutD
  have e : HT.sIx xs.length 0 (some h) = min h.toNat xs.length := by
    have := HT.sIx_nat xs.length 0 h.toNat
    rw [show ((h.toNat : Nat) : Int) = h by omega] at this
    exact this
  rw [e, HT.sIx_none]
  by_cases c : h.toNat ≤ xs.length
  · rw [Nat.min_eq_left c, List.take_of_length_le (by simp)]
  · rw [Nat.min_eq_right (by omega), List.drop_eq_nil_of_le (by omega), List.drop_eq_nil_of_le (by omega)]
    simp
end
end Mi
namespace Mi
open PySem PySem.Spec PyProof.Rows L2 Classical
/-! ### a comprehension of two walks -/
theorem lcL_on {α : Type} {gd : Mem → Prop} {pt : Pat} {t : MT} {x : ME} {e : En} {m : Mem} (f : α → D) (B : α → Bool) (Y : α → D) (hgd : ∀ m', Gr m m' → gd m') : ∀ (as : List α) (acc : List D) (m0 : Mem), Gr m m0 → acc.length + as.length ≤ 100000 →
    (∀ a ∈ as, ∃ e1, patM pt (f a) e = some e1 ∧ ∀ m', Gr m m' → (t e1 m').post fun b m1 => b = B a ∧ Gr m' m1 ∧ (b = true → (x e1 m1).post fun y m2 => y = Y a ∧ Gr m1 m2)) →
    (lcL gd pt t x e (as.map f) acc m0).post fun ys m' => ys = acc ++ (as.filter B).map Y ∧ Gr m m'
  | [], acc, m0, g, _, _ => by
    simp only [List.map_nil, lcL, hgd m0 g, if_true]
    exact ⟨by simp, g⟩
  | a :: as, acc, m0, g, hl, h => by
    obtain ⟨en, hp, hq⟩ := h a (by simp)
    simp only [List.length_cons] at hl
    simp only [List.map_cons, lcL, hgd m0 g, if_true, hp, post_bind, post_calm]
    refine (hq m0 g).mono ?_
    rintro b m1 ⟨hb, g1, hx⟩
    cases b with
    | true =>
      simp only [if_true, post_bind, post_calm]
      refine (hx rfl).mono ?_
      rintro y m2 ⟨hy, g2⟩
      rw [if_pos (by omega)]
      refine (lcL_on f B Y hgd as (acc ++ [y]) m2 ((g.trans g1).trans g2) (by simp; omega) fun a' ha => h a' (by simp [ha])).mono ?_
      rintro ys m3 ⟨rfl, g3⟩
      refine ⟨?_, g3⟩
      rw [List.filter_cons_of_pos hb.symm, List.map_cons, hy, List.append_assoc, List.singleton_append]
    | false =>
      simp only [Bool.false_eq_true, if_false]
      refine (lcL_on f B Y hgd as acc m1 (g.trans g1) (by omega) fun a' ha => h a' (by simp [ha])).mono ?_
      rintro ys m3 ⟨rfl, g3⟩
      refine ⟨?_, g3⟩
      rw [List.filter_cons_of_neg (by rw [← hb]; simp)]
theorem lc2_on {α β : Type} {gd : Mem → Prop} {pt pt1 : Pat} {t t1 : MT} {f1 : MI} {x : ME} {vs1 : List Nat} {e : En} {m : Mem} (f : α → D) (g1 : β → D) (bs : List β) (B : α → β → Bool) (Y : α → β → D) (hgd : ∀ m', Gr m m' → gd m') : ∀ (as : List α) (acc : List D) (m0 : Mem), Gr m m0 → acc.length + as.length * bs.length ≤ 100000 →
    (∀ a ∈ as, ∃ e1, patM pt (f a) e = some e1 ∧ ∀ m', Gr m m' → (t e1 m').post fun b m1 => b = true ∧ Gr m' m1 ∧ (f1 e1 m1).post fun w m2 => w.its = bs.map g1 ∧ Gr m1 m2 ∧ (∀ m3, Gr m2 m3 → w.gd m3) ∧
      ∀ b ∈ bs, ∃ e2, patM pt1 (g1 b) (wipeM e1 vs1) = some e2 ∧ ∀ m', Gr m2 m' → (t1 e2 m').post fun c m1 => c = B a b ∧ Gr m' m1 ∧ (c = true → (x e2 m1).post fun y m2 => y = Y a b ∧ Gr m1 m2)) →
    (lc2L gd pt t f1 pt1 t1 x vs1 e (as.map f) acc m0).post fun ys m' => ys = acc ++ as.flatMap (fun a => (bs.filter (B a)).map (Y a)) ∧ Gr m m'
  | [], acc, m0, g, _, _ => by
    simp only [List.map_nil, lc2L, hgd m0 g, if_true]
    exact ⟨by simp, g⟩
  | a :: as, acc, m0, g, hl, h => by
    obtain ⟨en, hp, hq⟩ := h a (by simp)
    simp only [List.length_cons, Nat.add_mul, Nat.one_mul] at hl
    simp only [List.map_cons, lc2L, hgd m0 g, if_true, hp, post_bind, post_calm]
    refine (hq m0 g).mono ?_
    rintro b m1 ⟨rfl, k1, hx⟩
    simp only [if_true, post_bind, post_calm]
    refine hx.mono ?_
    rintro w m2 ⟨hw, k2, hg, hin⟩
    rw [hw]
    refine (lcL_on g1 (B a) (Y a) hg bs acc m2 (Gr.refl m2) (by omega) hin).mono ?_
    rintro ys m3 ⟨rfl, k3⟩
    have hf := List.length_filter_le (B a) bs
    refine (lc2_on f g1 bs B Y hgd as _ m3 (((g.trans k1).trans k2).trans k3) (by simp; omega) fun a' ha => h a' (by simp [ha])).mono ?_
    rintro zs m4 ⟨rfl, k4⟩
    exact ⟨by simp [List.flatMap_cons], k4⟩
theorem p_lc2 {fi f1 : MI} {pt pt1 : Pat} {t t1 : MT} {x : ME} {vs vs1 : List Nat} {e : En} {m : Mem} {Q : D → Mem → Prop} (q : (fi e m).post fun w m1 => (lc2L w.gd pt t f1 pt1 t1 x vs1 (wipeM e vs) w.its [] m1).post fun ys m2 => Q (.ref m2.length) (m2 ++ [.lst ys])) : (mLc2 fi pt t f1 pt1 t1 x vs vs1 e m).post Q := by
  unfold mLc2
  simp only [post_bind]
  exact q
end Mi
namespace Mi
open PySem PySem.Spec PyProof.Rows L2 Classical
/-! ### how far a walk goes -/
theorem tks_end {rs : List Rn} {ts : List Int} (x : Tks rs 0 none ts) {q : Rn} (hq : q ∈ rs) (hne : ts.getLast? ≠ some q.1) : q.2 < ts.length := by
  have h := tks_nx x ts.length (Nat.le_refl _)
  rw [List.getElem?_eq_none (Nat.le_refl _), Option.map_eq_none_iff] at h
  unfold nx at h
  rw [List.find?_eq_none] at h
  have h2 := h q hq
  rw [List.getLast?_eq_getElem?] at hne
  apply Classical.byContradiction
  intro hlt
  apply h2
  have c1 : (0 : Int) + (ts.length : Nat) ≤ q.2 := by omega
  by_cases c : ts.length = 0
  · simp [c]
    omega
  · simp only [c, if_false, Bool.and_eq_true, decide_eq_true_eq, Bool.not_eq_true', decide_eq_false_iff_not]
    exact ⟨c1, hne⟩
theorem tks_two {rs : List Rn} {ts : List Int} (x : Tks rs 0 none ts) (h : 2 ≤ ts.length) : ∃ a ∈ rs, ∃ b ∈ rs, a.1 ≠ b.1 ∧ (ts.length : Int) - 2 ≤ a.2 ∧ (ts.length : Int) - 2 ≤ b.2 := by
  have h1 := tks_nx x (ts.length - 1) (by omega)
  have h2 := tks_nx x (ts.length - 2) (by omega)
  rw [List.getElem?_eq_getElem (i := ts.length - 1) (by omega), Option.map_eq_some_iff] at h1
  rw [List.getElem?_eq_getElem (i := ts.length - 2) (by omega), Option.map_eq_some_iff] at h2
  obtain ⟨a, a1, a2⟩ := h1
  obtain ⟨b, b1, b2⟩ := h2
  obtain ⟨a3, a4, a5⟩ := nx_some a1
  obtain ⟨b3, b4, _⟩ := nx_some b1
  rw [if_neg (by omega)] at a5
  have e : ts.length - 1 - 1 = ts.length - 2 := by omega
  rw [e, List.getElem?_eq_getElem (by omega), ← b2] at a5
  refine ⟨a, a3, b, b3, fun z => a5 (by rw [z]), by omega, by omega⟩
/-- where two that reach in the second reach in the first, the second goes one rung further at most -/
theorem tks_le {rs rs' : List Rn} {ts ts' : List Int} (x : Tks rs 0 none ts) (x' : Tks rs' 0 none ts') (h : ∀ k : Int, (∃ a ∈ rs', ∃ b ∈ rs', a.1 ≠ b.1 ∧ k ≤ a.2 ∧ k ≤ b.2) → ∃ a ∈ rs, ∃ b ∈ rs, a.1 ≠ b.1 ∧ k ≤ a.2 ∧ k ≤ b.2) : ts'.length ≤ ts.length + 1 := by
  by_cases c : 2 ≤ ts'.length
  · obtain ⟨a, ha, b, hb, hab, ka, kb⟩ := h _ (tks_two x' c)
    by_cases ca : ts.getLast? = some a.1
    · have := tks_end x hb (by rw [ca]; simpa using hab)
      omega
    · have := tks_end x ha ca
      omega
  · omega
end Mi
namespace Mi
open PySem PySem.Spec PyProof.Rows L2 Classical
/-- where one of the bids as one comes from -/
theorem one_src {bs : Bids} {R : List Int} {q : Int × Int} {t0 t1 : Int × Int} {th : Bids} (e : thOf bs R = t0 :: t1 :: th) (h : q ∈ asOne bs R) : (q ∈ bs ∧ q.1 ∉ R) ∨ (q = jn (t0 :: t1 :: th) ∧ ∃ w ∈ bs, w.1 ∈ R ∧ w.2 = q.2) := by
  unfold asOne at h
  rw [e] at h
  obtain ⟨p, hp, rfl⟩ := List.mem_map.mp h
  obtain ⟨p1, p2⟩ := List.mem_filter.mp hp
  by_cases c : p = t0
  · rw [if_pos c]
    refine .inr ⟨rfl, ?_⟩
    have hm := listMax_mem ((t0 :: t1 :: th).map (·.2)) (by simp)
    obtain ⟨w, hw, ew⟩ := List.mem_map.mp hm
    rw [← e] at hw
    have := th_mem.mp hw
    exact ⟨w, this.1, this.2, ew⟩
  · rw [if_neg c]
    simp [c] at p2
    exact .inl ⟨p1, p2⟩
theorem run_mem {l : Lad} {s : Int} {bs : Bids} {a : Rn} : a ∈ runs l s bs ↔ ∃ q ∈ bs, topO (topD l s q.2) = some a.2 ∧ q.1 = a.1 := by
  unfold runs
  rw [List.mem_filterMap]
  constructor
  · rintro ⟨q, hq, h⟩
    obtain ⟨n, hn, rfl⟩ := Option.map_eq_some_iff.mp h
    exact ⟨q, hq, hn, rfl⟩
  · rintro ⟨q, hq, h, e⟩
    exact ⟨q, hq, by rw [h, e]; rfl⟩
theorem one_two {l : Lad} {s : Int} {bs : Bids} {R : List Int} (k : Int) (h : ∃ a ∈ runs l s (asOne bs R), ∃ b ∈ runs l s (asOne bs R), a.1 ≠ b.1 ∧ k ≤ a.2 ∧ k ≤ b.2) : ∃ a ∈ runs l s bs, ∃ b ∈ runs l s bs, a.1 ≠ b.1 ∧ k ≤ a.2 ∧ k ≤ b.2 := by
  match e : thOf bs R with
  | [] => rwa [asOne_few (by rw [e]; simp)] at h
  | [_] => rwa [asOne_few (by rw [e]; simp)] at h
  | t0 :: t1 :: th =>
    obtain ⟨a, ha, b, hb, hab, ka, kb⟩ := h
    obtain ⟨p, hp, pt, pe⟩ := run_mem.mp ha
    obtain ⟨q, hq, qt, qe⟩ := run_mem.mp hb
    rcases one_src e hp with ⟨p1, p2⟩ | ⟨p1, w, w1, w2, w3⟩ <;> rcases one_src e hq with ⟨q1, q2⟩ | ⟨q1, v, v1, v2, v3⟩
    · exact ⟨a, run_mem.mpr ⟨p, p1, pt, pe⟩, b, run_mem.mpr ⟨q, q1, qt, qe⟩, hab, ka, kb⟩
    · exact ⟨a, run_mem.mpr ⟨p, p1, pt, pe⟩, (v.1, b.2), run_mem.mpr ⟨v, v1, by rw [v3]; exact qt, rfl⟩, fun z => p2 (by rw [pe, z]; exact v2), ka, kb⟩
    · exact ⟨(w.1, a.2), run_mem.mpr ⟨w, w1, by rw [w3]; exact pt, rfl⟩, b, run_mem.mpr ⟨q, q1, qt, qe⟩, fun z => q2 (by rw [qe, ← z]; exact w2), ka, kb⟩
    · exact (hab (by rw [← pe, ← qe, p1, q1])).elim
end Mi
namespace Mi
open PySem PySem.Spec PyProof.Rows L2 Classical
/-! ### order of rows of whole numbers -/
def lexI : List Int → List Int → Bool
  | [], [] => false
  | [], _ :: _ => true
  | _ :: _, [] => false
  | x :: r, y :: t => if x = y then lexI r t else decide (x < y)
def encI (r : List Int) : PyData := .tuple (r.map PyData.int)
theorem lt_ints : ∀ a b : List Int, PyProof.Rows.lexLt PyProof.Rows.itemOrd (PySem.W.keyToksAll (a.map PyData.int)) (PySem.W.keyToksAll (b.map PyData.int)) = lexI a b
  | [], [] => by simp only [List.map_nil]; exact PyProof.Rows.lex_irrefl _
  | [], y :: b => by
    simp only [List.map_nil, List.map_cons, PySem.W.keyToksAll, lexI]
    rw [PySem.W.lex_atom (by simp), PySem.W.lex_one]
    rfl
  | x :: a, [] => by
    simp only [List.map_nil, List.map_cons, PySem.W.keyToksAll, lexI]
    rw [PySem.W.lex_atom (by simp), PySem.W.lex_one]
    rfl
  | x :: a, y :: b => by
    rw [List.map_cons, List.map_cons, PySem.W.dataLt_cons (by simp [PySem.W.alike]), lt_ints a b, PySem.W.dataLt_int]
    rw [show lexI (x :: a) (y :: b) = (if x = y then lexI a b else decide (x < y)) by rw [lexI]]
    by_cases c : x = y
    · simp [PyData.eqv, c]
    · simp [PyData.eqv, c]
theorem lt_encI (a b : List Int) : PySem.W.dataLt (encI a) (encI b) = lexI a b := by
  unfold encI
  rw [PySem.W.dataLt_tuple, lt_ints]
theorem alike_encI (a b : List Int) : PySem.W.alike (encI a) (encI b) = true := by
  unfold encI
  simp only [PySem.W.alike]
  exact PySem.W.alike_ints a b
theorem depth_encI (a : List Int) : (encI a).depth ≤ 5 := by
  unfold encI
  simp only [PyData.depth, PySem.W.depth_ints]
  omega
theorem toPyX_ints (m : Mem) (n : Nat) : ∀ r : List Int, (r.map D.int).mapM (toPyX m (n + 1)) = some (r.map PyData.int)
  | [] => rfl
  | x :: r => by
    rw [List.map_cons, List.mapM_cons, toPyX_ints m n r]
    rfl
theorem toPyX_row (m : Mem) (n : Nat) (r : List Int) : toPyX m (n + 2) (.tup (r.map D.int)) = some (encI r) := by
  show ((r.map D.int).mapM (toPyX m (n + 1))).map PyData.tuple = _
  rw [toPyX_ints m n r]
  rfl
theorem encD_row (m : Mem) (r : List Int) : encD m (.tup (r.map D.int)) = encI r := by
  unfold encD
  rw [toPyX_row m 10 r]
  rfl
theorem encI_inj {a b : List Int} (h : encI a = encI b) : a = b := by
  unfold encI at h
  simp only [PyData.tuple.injEq] at h
  exact (List.map_inj_right fun x y e => by simpa using e).mp h
theorem lexI_irrefl : ∀ a : List Int, lexI a a = false
  | [] => rfl
  | x :: a => by simp [lexI, lexI_irrefl a]
theorem lexI_snoc : ∀ (a : List Int) {b c : Int}, b < c → lexI (a ++ [b]) (a ++ [c]) = true
  | [], b, c, h => by
    simp [lexI]
    omega
  | x :: a, b, c, h => by
    simp only [List.cons_append, lexI, if_true]
    exact lexI_snoc a h
theorem lexI_app : ∀ (a b : List Int) (x y : Int), a.length = b.length → lexI a b = true → lexI (a ++ [x]) (b ++ [y]) = true
  | [], [], _, _, _, h => by simp [lexI] at h
  | [], _ :: _, _, _, hl, _ => by simp at hl
  | _ :: _, [], _, _, hl, _ => by simp at hl
  | u :: a, v :: b, x, y, hl, h => by
    simp only [List.cons_append, lexI] at h ⊢
    by_cases c : u = v
    · rw [if_pos c] at h ⊢
      exact lexI_app a b x y (by simpa using hl) h
    · rw [if_neg c] at h ⊢
      exact h
/-! ### the first of the least -/
theorem fold_min {α : Type} {lt : α → α → Bool} (ir : ∀ a, lt a a = false) (nt : ∀ a b c, lt a c = true → lt a b = true ∨ lt b c = true) (tr : ∀ a b c, lt a b = true → lt b c = true → lt a c = true) : ∀ (xs : List α) (x : α), ∀ y ∈ x :: xs, lt y (xs.foldl (fun a y => if lt y a then y else a) x) = false
  | [], x, y, hy => by
    simp at hy
    rw [hy]
    exact ir x
  | z :: xs, x, y, hy => by
    rw [List.foldl_cons]
    have ih := fold_min ir nt tr xs (if lt z x then z else x)
    by_cases c : lt z x = true
    · rw [if_pos c] at ih ⊢
      rcases List.mem_cons.mp hy with rfl | hy
      · cases h : lt y (xs.foldl (fun a y => if lt y a then y else a) z) with
        | false => rfl
        | true =>
          have h1 := ih z (by simp)
          have h2 := tr z y _ c h
          rw [h1] at h2
          cases h2
      · exact ih y hy
    · rw [if_neg c] at ih ⊢
      rcases List.mem_cons.mp hy with rfl | hy
      · exact ih y (by simp)
      · rcases List.mem_cons.mp hy with rfl | hy
        · cases h : lt y (xs.foldl (fun a y => if lt y a then y else a) x) with
          | false => rfl
          | true =>
            rcases nt y x _ h with h1 | h1
            · exact absurd h1 c
            · have := ih x (by simp)
              rw [this] at h1
              cases h1
        · exact ih y (by simp [hy])
theorem min_least {m : Mem} {xs : List D} (hne : xs ≠ []) : minDD m xs ∈ xs ∧ ∀ y ∈ xs, PySem.W.dataLt (encD m y) (encD m (minDD m xs)) = false := by
  cases xs with
  | nil => exact absurd rfl hne
  | cons x xs =>
    refine ⟨(min_enc m xs x).2, ?_⟩
    exact fold_min (lt := fun a b => PySem.W.dataLt (encD m a) (encD m b)) (fun a => PyProof.Rows.lex_irrefl _) (fun a b c => PyProof.Rows.lex_negTrans _ _ _) (fun a b c => PyProof.Rows.lex_trans _ _ _) xs x
/-! ### rows with a price ahead -/
def prR (q : Int × List Int) : D := .tup [.int q.1, .tup (q.2.map D.int)]
def encP (q : Int × List Int) : PyData := .tuple [.int q.1, encI q.2]
theorem encD_pr (m : Mem) (q : Int × List Int) : toPyX m 12 (prR q) = some (encP q) ∧ encD m (prR q) = encP q := by
  have h : toPyX m 12 (prR q) = some (encP q) := by
    show (([D.int q.1, D.tup (q.2.map D.int)] : List D).mapM (toPyX m 11)).map PyData.tuple = _
    rw [List.mapM_cons, List.mapM_cons, toPyX_row m 9 q.2]
    rfl
  refine ⟨h, ?_⟩
  unfold encD
  rw [h]
  rfl
theorem lt_encP (p q : Int × List Int) : PySem.W.dataLt (encP p) (encP q) = if p.1 = q.1 then lexI p.2 q.2 else decide (p.1 < q.1) := by
  unfold encP
  rw [PySem.W.dataLt_tuple, PySem.W.dataLt_cons (by simp [PySem.W.alike]), PySem.W.dataLt_cons (alike_encI _ _), PySem.W.dataLt_int, lt_encI]
  have e0 : PyProof.Rows.lexLt PyProof.Rows.itemOrd (PySem.W.keyToksAll []) (PySem.W.keyToksAll []) = false := PyProof.Rows.lex_irrefl _
  rw [e0]
  have e1 : (PyData.eqv (.int p.1) (.int q.1) = true) = (p.1 = q.1) := by simp [PyData.eqv]
  by_cases c : p.1 = q.1
  · rw [if_pos (by rw [e1]; exact c), if_pos c]
    by_cases d : PyData.eqv (encI p.2) (encI q.2) = true
    · rw [if_pos d]
      have : PySem.W.keyToks (encI p.2) = PySem.W.keyToks (encI q.2) := (PySem.W.toks_eqv _ _ (alike_encI _ _)).1 d
      rw [← lt_encI]
      unfold PySem.W.dataLt
      rw [this]
      exact (PyProof.Rows.lex_irrefl _).symm
    · rw [if_neg d]
  · rw [if_neg (by rw [e1]; exact c), if_neg c]
theorem minok_pr {m : Mem} {qs : List (Int × List Int)} (hne : qs ≠ []) : MinOk m (qs.map prR) where
  ne := by simpa using hne
  rd := ⟨fun x hx => by
      obtain ⟨q, _, rfl⟩ := List.mem_map.mp hx
      exact ⟨_, (encD_pr m q).1⟩, fun x hx => by
      obtain ⟨q, _, rfl⟩ := List.mem_map.mp hx
      rw [(encD_pr m q).2]
      have := depth_encI q.2
      simp only [encP, PyData.depth, PyData.depthAll]
      omega⟩
  al := by
    have e : (qs.map prR).map (encD m) = qs.map encP := by
      rw [List.map_map]
      exact List.map_congr_left fun q _ => (encD_pr m q).2
    rw [e]
    constructor
    · intro x hx y hy
      obtain ⟨p, _, rfl⟩ := List.mem_map.mp hx
      obtain ⟨q, _, rfl⟩ := List.mem_map.mp hy
      simp only [encP, PySem.W.alike, PySem.W.alikeAll, alike_encI, Bool.and_self]
    · intro x hx
      obtain ⟨p, _, rfl⟩ := List.mem_map.mp hx
      exact fun z => nomatch z
  dp := by
    have e : (qs.map prR).map (encD m) = qs.map encP := by
      rw [List.map_map]
      exact List.map_congr_left fun q _ => (encD_pr m q).2
    rw [e]
    refine Nat.le_trans (deep_map (g := encP) (fun q => ?_) qs) (by omega)
    have : (encI q.2).depth ≤ 1 := by
      unfold encI
      simp only [PyData.depth, PySem.W.depth_ints]
      omega
    simp only [encP, PyData.depth, PyData.depthAll]
    omega
  inj := by
    intro x hx y hy e
    obtain ⟨p, _, rfl⟩ := List.mem_map.mp hx
    obtain ⟨q, _, rfl⟩ := List.mem_map.mp hy
    rw [(encD_pr m p).2, (encD_pr m q).2] at e
    unfold encP at e
    simp only [PyData.tuple.injEq, List.cons.injEq, PyData.int.injEq, and_true] at e
    unfold prR
    rw [e.1, encI_inj e.2]
theorem p_minPr {n : Nat} {m : Mem} {qs : List (Int × List Int)} {Q : D → Mem → Prop} (h : m[n]? = some (.lst (qs.map prR))) (hne : qs ≠ []) (q : ∀ p ∈ qs, (∀ r ∈ qs, (if r.1 = p.1 then lexI r.2 p.2 else decide (r.1 < p.1)) = false) → Q (prR p) m) : (dMinD [.ref n] m).post Q := by
  unfold dMinD
  simp only [h]
  rw [if_pos (minok_pr hne)]
  obtain ⟨h1, h2⟩ := min_least (m := m) (xs := qs.map prR) (by simpa using hne)
  obtain ⟨p, hp, e⟩ := List.mem_map.mp h1
  show Q (minDD m (qs.map prR)) m
  rw [← e]
  refine q p hp fun r hr => ?_
  have := h2 (prR r) (List.mem_map_of_mem hr)
  rw [← e, (encD_pr m r).2, (encD_pr m p).2, lt_encP] at this
  exact this
/-! ### rows sorted, an empty one first -/
noncomputable def rsort (rs : List (List Int)) : List (List Int) := rs.mergeSort (fun a b => !lexI b a)
theorem sortD_rows (m : Mem) (rs : List (List Int)) : sortD m (rs.map fun r => D.tup (r.map D.int)) = (rsort rs).map fun r => D.tup (r.map D.int) := by
  unfold sortD rsort
  rw [List.map_mergeSort]
  intro a _ b _
  rw [PySem.W.dataLe_eq]
  simp only [cond_false]
  rw [encD_row, encD_row, lt_encI]
theorem sortok_rows {m : Mem} {rs : List (List Int)} (h0 : (∀ r ∈ rs, r ≠ []) ∨ ∃ t, rs = [] :: t) : SortOk m (rs.map fun r => D.tup (r.map D.int)) := by
  have e : (rs.map fun r => D.tup (r.map D.int)).map (encD m) = rs.map encI := by
    rw [List.map_map]
    exact List.map_congr_left fun r _ => encD_row m r
  refine ⟨⟨fun x hx => ?_, fun x hx => ?_⟩, ?_, ?_⟩
  · obtain ⟨r, _, rfl⟩ := List.mem_map.mp hx
    exact ⟨_, toPyX_row m 10 r⟩
  · obtain ⟨r, _, rfl⟩ := List.mem_map.mp hx
    rw [encD_row]
    have := depth_encI r
    omega
  · rw [e]
    intro d hd d' hd'
    obtain ⟨a, _, rfl⟩ := List.mem_map.mp hd
    obtain ⟨b, _, rfl⟩ := List.mem_map.mp hd'
    exact alike_encI a b
  · rw [e]
    rcases h0 with h0 | ⟨t, rfl⟩
    · refine .inl (.inl fun d hd => ?_)
      obtain ⟨a, ha, rfl⟩ := List.mem_map.mp hd
      cases a with
      | nil => exact absurd rfl (h0 _ ha)
      | cons x a => exact ⟨.int x, a.map PyData.int, rfl⟩
    · refine .inr ⟨t.map encI, rfl, fun d hd => ?_⟩
      obtain ⟨a, _, rfl⟩ := List.mem_map.mp hd
      exact ⟨_, rfl⟩
theorem n_sortR {n : Nat} {m : Mem} {rs : List (List Int)} {Q : D → Mem → Prop} (h : m[n]? = some (.lst (rs.map fun r => D.tup (r.map D.int)))) (h0 : (∀ r ∈ rs, r ≠ []) ∨ ∃ t, rs = [] :: t) (q : ∀ k m', New m m' k (.lst ((rsort rs).map fun r => D.tup (r.map D.int))) → Q (.ref k) m') : (dSortD [.ref n] m).post Q := by
  unfold dSortD
  simp only [h]
  rw [if_pos (sortok_rows h0), sortD_rows]
  exact q _ _ (New.mk' m _)
theorem rsort_perm (rs : List (List Int)) : (rsort rs).Perm rs := List.mergeSort_perm _ _
theorem rsort_up (rs : List (List Int)) : (rsort rs).Pairwise (fun a b => lexI b a = false) := by
  have h := List.pairwise_mergeSort (le := fun a b : List Int => !lexI b a) (fun a b c h1 h2 => by
    simp only [Bool.not_eq_true'] at h1 h2 ⊢
    cases h : lexI c a with
    | false => rfl
    | true =>
      rw [← lt_encI] at h h1 h2
      rcases PyProof.Rows.lex_negTrans _ (PySem.W.keyToks (encI b)) _ h with z | z
      · exact absurd (z.symm.trans h2) (by simp)
      · exact absurd (z.symm.trans h1) (by simp)) (fun a b => by
    cases h : lexI b a with
    | false => simp
    | true =>
      cases h2 : lexI a b with
      | false => simp
      | true =>
        rw [← lt_encI] at h h2
        have := PyProof.Rows.lex_trans _ _ _ h h2
        rw [PyProof.Rows.lex_irrefl] at this
        cases this) rs
  exact h.imp fun {a b} z => by simpa using z
/-- an empty row stands first -/
theorem rsort_nil {t : List (List Int)} (h : ∀ r ∈ t, r ≠ []) : ∃ u, rsort ([] :: t) = [] :: u ∧ u.Perm t := by
  have hp := rsort_perm ([] :: t)
  have hu := rsort_up ([] :: t)
  cases e : rsort ([] :: t) with
  | nil =>
    rw [e] at hp
    have := hp.length_eq
    simp at this
  | cons x u =>
    rw [e] at hp hu
    have hx : x = [] := by
      have hm : ([] : List Int) ∈ x :: u := hp.mem_iff.mpr (by simp)
      rcases List.mem_cons.mp hm with hm | hm
      · exact hm.symm
      · have := (List.pairwise_cons.mp hu).1 [] hm
        cases x with
        | nil => rfl
        | cons a x => simp [lexI] at this
    subst hx
    exact ⟨u, rfl, (List.perm_cons _).mp hp⟩
end Mi
namespace Mi
open PySem PySem.Spec PyProof.Rows L2 Classical
/-! ### what is shown tells what it is -/
def cdS (x : Str) : List Nat := x.cps.toList
theorem cdS_app (x y : Str) : cdS (x ++ y) = cdS x ++ cdS y := by
  show (x.cps ++ y.cps).toList = _
  simp [cdS]
def txt (y : PyData) : List Nat := cdS y.shown
def numC (c : Nat) : Bool := c == 45 || (decide (48 ≤ c) && decide (c ≤ 57))
theorem num_all (i : Int) : ∀ c ∈ txt (.int i), numC c = true := by
  intro c hc
  unfold txt cdS at hc
  rw [PyData.shown_int] at hc
  cases h : numC c with
  | true => rfl
  | false =>
    exfalso
    unfold numC at h
    simp only [Bool.or_eq_false_iff, beq_eq_false_iff_ne, Bool.and_eq_false_iff, decide_eq_false_iff_not] at h
    refine PyProof.Rows.int_text_free' c ⟨h.1, ?_⟩ i hc
    omega
theorem int_txt (i : Int) : txt (.int i) = (toString i).toList.map Char.toNat := by
  unfold txt cdS
  rw [PyData.shown_int, PyProof.Rows.signs_ofString]
theorem char_inj {a b : Char} (h : a.toNat = b.toNat) : a = b := Char.ext (UInt32.toNat_inj.mp h)
theorem natrep_inj {m n : Nat} (h : Nat.toDigits 10 m = Nat.toDigits 10 n) : m = n := by
  have h1 := Nat.ofDigitChars_ten_toDigits (n := m)
  rw [h, Nat.ofDigitChars_ten_toDigits] at h1
  exact h1.symm
theorem int_txt_inj {i j : Int} (h : txt (.int i) = txt (.int j)) : i = j := by
  rw [int_txt, int_txt] at h
  have h2 : (toString i).toList = (toString j).toList := (List.map_inj_right fun a b e => char_inj e).mp h
  rw [Int.toString_eq_repr, Int.toString_eq_repr, Int.repr_eq_if, Int.repr_eq_if] at h2
  have nod : ∀ n : Nat, '-' ∉ (Nat.repr n).toList := fun n hm => by
    have := PyProof.Rows.int_sign (n : Int)
    rw [Nat.toList_repr] at hm
    have hd := Nat.isDigit_of_mem_toDigits (by decide) (by decide) hm
    revert hd
    decide
  split at h2
  · rename_i hi
    split at h2
    · rename_i hj
      rw [Nat.toList_repr, Nat.toList_repr] at h2
      have := natrep_inj h2
      omega
    · exfalso
      refine nod _ (?_ : '-' ∈ (Nat.repr i.toNat).toList)
      rw [h2]
      simp
  · rename_i hi
    split at h2
    · exfalso
      refine nod _ (?_ : '-' ∈ (Nat.repr j.toNat).toList)
      rw [← h2]
      simp
    · rename_i hj
      have h3 : (Nat.repr (-i).toNat).toList = (Nat.repr (-j).toNat).toList := by
        simpa using h2
      rw [Nat.toList_repr, Nat.toList_repr] at h3
      have := natrep_inj h3
      omega
/-- the sort of a sign -/
def clsC (c : Nat) : Nat := if c = 78 then 0 else if c = 84 then 1 else if c = 70 then 2 else if numC c = true then 3 else if c = 39 then 4 else if c = 40 then 5 else if c = 91 then 6 else 7
def kndP : PyData → Nat
  | .none => 0
  | .bool b => if b = true then 1 else 2
  | .int _ => 3
  | .str _ => 4
  | .tuple _ => 5
  | .list _ => 6
  | .dict _ => 8
def flatJ : PyData → Prop
  | .none => True
  | .bool _ => True
  | .int _ => True
  | .str x => x = Str.ofString "0"
  | _ => False
def JN : Nat → PyData → Prop
  | 0, y => flatJ y
  | n + 1, y => flatJ y ∨ (∃ xs, y = .tuple xs ∧ ∀ x ∈ xs, JN n x) ∨ ∃ xs, y = .list xs ∧ ∀ x ∈ xs, JN n x
theorem txt_none : txt .none = [78, 111, 110, 101] := by
  unfold txt
  rw [PyData.shown_none]
  decide +kernel
theorem txt_true : txt (.bool true) = [84, 114, 117, 101] := by
  unfold txt
  rw [PyData.shown_bool, if_pos rfl]
  decide +kernel
theorem txt_false : txt (.bool false) = [70, 97, 108, 115, 101] := by
  unfold txt
  rw [PyData.shown_bool, if_neg (by decide)]
  decide +kernel
theorem txt_str0 : txt (.str (Str.ofString "0")) = [39, 48, 39] := by
  unfold txt
  rw [PyData.shown_str]
  decide +kernel
/-- what stands behind the first of these -/
def restT : List PyData → List Nat
  | [] => []
  | x :: xs => [44, 32] ++ txt x ++ restT xs
def joinT : List PyData → List Nat
  | [] => []
  | x :: xs => txt x ++ restT xs
theorem join_txt : ∀ xs : List PyData, cdS (Str.join (Str.ofString ", ") (PyData.shownAll xs)) = joinT xs
  | [] => by
    rw [PyData.shownAll_nil]
    rfl
  | [x] => by
    rw [PyData.shownAll_cons, PyData.shownAll_nil, PyProof.Rows.join_one]
    simp [joinT, restT, txt]
  | x :: y :: xs => by
    have ih := join_txt (y :: xs)
    rw [PyData.shownAll_cons, PyData.shownAll_cons, PyProof.Rows.join_cons_cons, cdS_app, cdS_app, ← PyData.shownAll_cons, ih]
    have e : cdS (Str.ofString ", ") = [44, 32] := by decide +kernel
    rw [e]
    simp [joinT, restT, txt]
def endT (xs : List PyData) : List Nat := if xs.length == 1 then [44, 41] else [41]
theorem txt_tuple (xs : List PyData) : txt (.tuple xs) = 40 :: (joinT xs ++ endT xs) := by
  unfold txt
  rw [PyData.shown_tuple, cdS_app, cdS_app, join_txt]
  have e : cdS (Str.ofString "(") = [40] := by decide +kernel
  rw [e]
  unfold endT
  split
  · have e2 : cdS (Str.ofString ",)") = [44, 41] := by decide +kernel
    rw [e2]
    simp
  · have e2 : cdS (Str.ofString ")") = [41] := by decide +kernel
    rw [e2]
    simp
theorem txt_list (xs : List PyData) : txt (.list xs) = 91 :: (joinT xs ++ [93]) := by
  unfold txt
  rw [PyData.shown_list, cdS_app, cdS_app, join_txt]
  have e : cdS (Str.ofString "[") = [91] := by decide +kernel
  have e2 : cdS (Str.ofString "]") = [93] := by decide +kernel
  rw [e, e2]
  simp
theorem int_ne (i : Int) : txt (.int i) ≠ [] := by
  intro h
  have h1 : ∀ j : Int, txt (.int j) = [] → j = i := fun j hj => int_txt_inj (hj.trans h.symm)
  rw [int_txt] at h
  have h2 : (toString i).toList = [] := by simpa using h
  rw [Int.toString_eq_repr, Int.repr_eq_if] at h2
  split at h2
  · rw [Nat.toList_repr] at h2
    exact Nat.toDigits_ne_nil h2
  · simp at h2
theorem head_cls {n : Nat} {y : PyData} (h : JN n y) : ∃ c t, txt y = c :: t ∧ clsC c = kndP y := by
  have fl : flatJ y → ∃ c t, txt y = c :: t ∧ clsC c = kndP y := by
    intro h
    cases y with
    | none => exact ⟨_, _, txt_none, by decide⟩
    | bool b =>
      cases b with
      | true => exact ⟨_, _, txt_true, by decide⟩
      | false => exact ⟨_, _, txt_false, by decide⟩
    | int i =>
      cases e : txt (.int i) with
      | nil => exact absurd e (int_ne i)
      | cons c t =>
        refine ⟨c, t, rfl, ?_⟩
        have hc := num_all i c (by rw [e]; simp)
        have h78 : c ≠ 78 ∧ c ≠ 84 ∧ c ≠ 70 := by
          refine ⟨?_, ?_, ?_⟩ <;> (rintro rfl; revert hc; decide)
        unfold clsC
        rw [if_neg h78.1, if_neg h78.2.1, if_neg h78.2.2, if_pos hc]
        rfl
    | str x =>
      have hx : x = Str.ofString "0" := h
      subst hx
      exact ⟨_, _, txt_str0, by decide⟩
    | tuple xs => exact h.elim
    | list xs => exact h.elim
    | dict xs => exact h.elim
  cases n with
  | zero => exact fl h
  | succ n =>
    rcases h with h | ⟨xs, rfl, _⟩ | ⟨xs, rfl, _⟩
    · exact fl h
    · exact ⟨_, _, txt_tuple xs, by simp only [kndP]; decide⟩
    · exact ⟨_, _, txt_list xs, by simp only [kndP]; decide⟩
def Stop (r : List Nat) : Prop := ∀ c t, r = c :: t → c = 44 ∨ c = 41 ∨ c = 93
theorem stop_num {r : List Nat} (h : Stop r) : ∀ c t, r = c :: t → numC c = false := fun c t e => by
  rcases h c t e with rfl | rfl | rfl <;> decide
theorem take_num {a r : List Nat} (ha : ∀ c ∈ a, numC c = true) (hr : ∀ c t, r = c :: t → numC c = false) : (a ++ r).takeWhile numC = a ∧ (a ++ r).dropWhile numC = r := by
  induction a with
  | nil =>
    cases r with
    | nil => simp
    | cons c t =>
      have := hr c t rfl
      simp [this]
  | cons c a ih =>
    have h1 := ha c (by simp)
    have h2 := ih fun d hd => ha d (by simp [hd])
    simp [h1, h2]
theorem stop_rest (xs : List PyData) {z : List Nat} (hz : Stop z) : Stop (restT xs ++ z) := by
  cases xs with
  | nil => simpa [restT] using hz
  | cons x xs =>
    intro c t e
    simp [restT] at e
    exact .inl e.1.symm
/-- rows of things, read off one by one -/
theorem read_rest {P : PyData → Prop} (rd : ∀ x y, P x → P y → ∀ r1 r2, Stop r1 → Stop r2 → txt x ++ r1 = txt y ++ r2 → x = y ∧ r1 = r2) {k : Nat} (hk : k = 41 ∨ k = 93) : ∀ (xs ys : List PyData), (∀ x ∈ xs, P x) → (∀ y ∈ ys, P y) → ∀ r1 r2, restT xs ++ k :: r1 = restT ys ++ k :: r2 → xs = ys ∧ r1 = r2
  | [], [], _, _, r1, r2, h => by
    simp [restT] at h
    exact ⟨rfl, h⟩
  | [], y :: ys, _, _, r1, r2, h => by
    simp [restT] at h
    rcases hk with rfl | rfl <;> (have := h.1; omega)
  | x :: xs, [], _, _, r1, r2, h => by
    simp [restT] at h
    rcases hk with rfl | rfl <;> (have := h.1; omega)
  | x :: xs, y :: ys, hx, hy, r1, r2, h => by
    have sk : ∀ r, Stop (k :: r) := fun r c t e => by
      simp at e
      rcases hk with rfl | rfl
      · exact .inr (.inl e.1.symm)
      · exact .inr (.inr e.1.symm)
    simp only [restT, List.append_assoc, List.cons_append, List.nil_append, List.cons.injEq, true_and] at h
    obtain ⟨e1, e2⟩ := rd x y (hx x (by simp)) (hy y (by simp)) _ _ (stop_rest xs (sk r1)) (stop_rest ys (sk r2)) h
    obtain ⟨e3, e4⟩ := read_rest rd hk xs ys (fun z hz => hx z (by simp [hz])) (fun z hz => hy z (by simp [hz])) r1 r2 e2
    exact ⟨by rw [e1, e3], e4⟩
theorem readN : ∀ (n : Nat) (x y : PyData), JN n x → JN n y → ∀ r1 r2, Stop r1 → Stop r2 → txt x ++ r1 = txt y ++ r2 → x = y ∧ r1 = r2 := by
  have flat : ∀ (x y : PyData), flatJ x → flatJ y → ∀ r1 r2, Stop r1 → Stop r2 → txt x ++ r1 = txt y ++ r2 → x = y ∧ r1 = r2 := by
    intro x y hx hy r1 r2 s1 s2 h
    obtain ⟨c, t, e1, e2⟩ := head_cls (n := 0) hx
    obtain ⟨d, u, f1, f2⟩ := head_cls (n := 0) hy
    have hk : kndP x = kndP y := by
      have h' := h
      rw [e1, f1] at h'
      simp at h'
      rw [← e2, ← f2, h'.1]
    cases x with
    | none =>
      cases y with
      | none => exact ⟨rfl, by simpa using h⟩
      | bool b => cases b <;> exact absurd hk (by simp [kndP])
      | int _ => exact absurd hk (by simp [kndP])
      | str _ => exact absurd hk (by simp [kndP])
      | _ => exact hy.elim
    | bool b =>
      cases y with
      | bool b' =>
        cases b <;> cases b' <;> first | exact ⟨rfl, by simpa using h⟩ | exact absurd hk (by simp [kndP])
      | none => cases b <;> exact absurd hk (by simp [kndP])
      | int _ => cases b <;> exact absurd hk (by simp [kndP])
      | str _ => cases b <;> exact absurd hk (by simp [kndP])
      | _ => exact hy.elim
    | int i =>
      cases y with
      | int j =>
        have a := take_num (num_all i) (stop_num s1)
        have b := take_num (num_all j) (stop_num s2)
        rw [h] at a
        have e := a.1.symm.trans b.1
        exact ⟨by rw [int_txt_inj e], a.2.symm.trans b.2⟩
      | none => exact absurd hk (by simp [kndP])
      | bool b => cases b <;> exact absurd hk (by simp [kndP])
      | str _ => exact absurd hk (by simp [kndP])
      | _ => exact hy.elim
    | str x =>
      cases y with
      | str x' =>
        have hx0 : x = Str.ofString "0" := hx
        have hy0 : x' = Str.ofString "0" := hy
        subst hx0 hy0
        exact ⟨rfl, by simpa using h⟩
      | none => exact absurd hk (by simp [kndP])
      | bool b => cases b <;> exact absurd hk (by simp [kndP])
      | int _ => exact absurd hk (by simp [kndP])
      | _ => exact hy.elim
    | _ => exact hx.elim
  intro n
  induction n with
  | zero => exact flat
  | succ n ih =>
    intro x y hx hy r1 r2 s1 s2 h
    obtain ⟨c, t, e1, e2⟩ := head_cls hx
    obtain ⟨d, u, f1, f2⟩ := head_cls hy
    have hk : kndP x = kndP y := by
      have h' := h
      rw [e1, f1] at h'
      simp at h'
      rw [← e2, ← f2, h'.1]
    have nofl : ∀ z, flatJ z → kndP z ≠ 5 ∧ kndP z ≠ 6 := fun z hz => by
      cases z with
      | bool b => cases b <;> exact ⟨by simp [kndP], by simp [kndP]⟩
      | none => exact ⟨by simp [kndP], by simp [kndP]⟩
      | int _ => exact ⟨by simp [kndP], by simp [kndP]⟩
      | str _ => exact ⟨by simp [kndP], by simp [kndP]⟩
      | _ => exact hz.elim
    rcases hx with hx | ⟨xs, rfl, hx⟩ | ⟨xs, rfl, hx⟩
    · rcases hy with hy | ⟨ys, rfl, hy⟩ | ⟨ys, rfl, hy⟩
      · exact flat x y hx hy r1 r2 s1 s2 h
      · exact absurd hk (nofl x hx).1
      · exact absurd hk (nofl x hx).2
    · rcases hy with hy | ⟨ys, rfl, hy⟩ | ⟨ys, rfl, hy⟩
      · exact absurd hk.symm (nofl y hy).1
      · rw [txt_tuple, txt_tuple] at h
        simp only [List.cons_append, List.cons.injEq, true_and, List.append_assoc] at h
        have ne : ∀ (z : PyData) (t : List Nat) (k : Nat), JN n z → clsC k = 7 → txt z ++ t ≠ k :: t → True := fun _ _ _ _ _ _ => trivial
        have noc : ∀ (z : PyData) (a b : List Nat) (k : Nat), JN n z → clsC k = 7 → txt z ++ a ≠ k :: b := fun z a b k hz hc e => by
          obtain ⟨c', t', g1, g2⟩ := head_cls hz
          rw [g1] at e
          simp at e
          rw [e.1, hc] at g2
          cases z with
          | bool b => cases b <;> simp [kndP] at g2
          | none => simp [kndP] at g2
          | int _ => simp [kndP] at g2
          | str _ => simp [kndP] at g2
          | tuple _ => simp [kndP] at g2
          | list _ => simp [kndP] at g2
          | dict _ => simp [kndP] at g2
        match xs, ys, hx, hy, h with
        | [], [], _, _, h =>
          simp [joinT, endT] at h
          exact ⟨rfl, h⟩
        | [], y :: ys, _, hy, h =>
          exfalso
          simp only [joinT, endT, List.nil_append, List.append_assoc] at h
          exact noc y _ _ 41 (hy y (by simp)) (by decide) h.symm
        | x :: xs, [], hx, _, h =>
          exfalso
          simp only [joinT, endT, List.nil_append, List.append_assoc] at h
          exact noc x _ _ 41 (hx x (by simp)) (by decide) h
        | x :: xs, y :: ys, hx, hy, h =>
          simp only [joinT, List.append_assoc] at h
          have st : ∀ (zs : List PyData) (r : List Nat), Stop (endT zs ++ r) := fun zs r => by
            unfold endT
            split
            · intro c t e
              simp at e
              exact .inl e.1.symm
            · intro c t e
              simp at e
              exact .inr (.inl e.1.symm)
          obtain ⟨exy, h2⟩ := ih x y (hx x (by simp)) (hy y (by simp)) _ _ (stop_rest xs (st _ r1)) (stop_rest ys (st _ r2)) h
          subst exy
          cases xs with
          | nil =>
            cases ys with
            | nil =>
              simp [restT, endT] at h2
              exact ⟨rfl, h2⟩
            | cons y2 ys =>
              exfalso
              simp [restT, endT] at h2
          | cons x2 xs =>
            cases ys with
            | nil =>
              exfalso
              simp [restT, endT] at h2
            | cons y2 ys =>
              have h3 : restT (x2 :: xs) ++ 41 :: r1 = restT (y2 :: ys) ++ 41 :: r2 := by simpa [endT] using h2
              obtain ⟨e3, e4⟩ := read_rest ih (.inl rfl) (x2 :: xs) (y2 :: ys) (fun z hz => hx z (List.mem_cons_of_mem _ hz)) (fun z hz => hy z (List.mem_cons_of_mem _ hz)) r1 r2 h3
              exact ⟨by rw [e3], e4⟩
      · exact absurd hk (by simp [kndP])
    · rcases hy with hy | ⟨ys, rfl, hy⟩ | ⟨ys, rfl, hy⟩
      · exact absurd hk.symm (nofl y hy).2
      · exact absurd hk (by simp [kndP])
      · rw [txt_list, txt_list] at h
        simp only [List.cons_append, List.cons.injEq, true_and, List.append_assoc, List.nil_append] at h
        have noc : ∀ (z : PyData) (a b : List Nat) (k : Nat), JN n z → clsC k = 7 → txt z ++ a ≠ k :: b := fun z a b k hz hc e => by
          obtain ⟨c', t', g1, g2⟩ := head_cls hz
          rw [g1] at e
          simp at e
          rw [e.1, hc] at g2
          cases z with
          | bool b => cases b <;> simp [kndP] at g2
          | none => simp [kndP] at g2
          | int _ => simp [kndP] at g2
          | str _ => simp [kndP] at g2
          | tuple _ => simp [kndP] at g2
          | list _ => simp [kndP] at g2
          | dict _ => simp [kndP] at g2
        match xs, ys, hx, hy, h with
        | [], [], _, _, h =>
          simp [joinT] at h
          exact ⟨rfl, h⟩
        | [], y :: ys, _, hy, h =>
          exfalso
          simp only [joinT, List.nil_append, List.append_assoc] at h
          exact noc y _ _ 93 (hy y (by simp)) (by decide) h.symm
        | x :: xs, [], hx, _, h =>
          exfalso
          simp only [joinT, List.nil_append, List.append_assoc] at h
          exact noc x _ _ 93 (hx x (by simp)) (by decide) h
        | x :: xs, y :: ys, hx, hy, h =>
          simp only [joinT, List.append_assoc] at h
          have st : ∀ r : List Nat, Stop (93 :: r) := fun r c t e => by
            simp at e
            exact .inr (.inr e.1.symm)
          obtain ⟨exy, h2⟩ := ih x y (hx x (by simp)) (hy y (by simp)) _ _ (stop_rest xs (st r1)) (stop_rest ys (st r2)) h
          subst exy
          obtain ⟨e3, e4⟩ := read_rest ih (.inr rfl) xs ys (fun z hz => hx z (List.mem_cons_of_mem _ hz)) (fun z hz => hy z (List.mem_cons_of_mem _ hz)) r1 r2 h2
          exact ⟨by rw [e3], e4⟩
theorem shown_inj {n : Nat} {x y : PyData} (hx : JN n x) (hy : JN n y) (h : x.shown = y.shown) : x = y := by
  have st : Stop [] := fun c t e => by cases e
  refine (readN n x y hx hy [] [] st st ?_).1
  unfold txt
  rw [h]
end Mi
namespace Mi
open PySem PySem.Spec PyProof.Rows L2 Classical
/-! ### rows of flat things, lists of such rows -/
inductive F8 where
  | n
  | b (x : Bool)
  | i (x : Int)
  | s
def fD : F8 → D
  | .n => .non
  | .b x => .bl x
  | .i x => .int x
  | .s => .str (Str.ofString "0")
def fP : F8 → PyData
  | .n => .none
  | .b x => .bool x
  | .i x => .int x
  | .s => .str (Str.ofString "0")
def bdF : F8 → Prop
  | .i x => -(10 ^ 50) ≤ x ∧ x ≤ 10 ^ 50
  | _ => True
inductive R8 where
  | f (x : F8)
  | t (xs : List F8)
  | l (k : Nat) (xs : List F8)
def rD : R8 → D
  | .f x => fD x
  | .t xs => .tup (xs.map fD)
  | .l k _ => .ref k
def rP : R8 → PyData
  | .f x => fP x
  | .t xs => .tuple (xs.map fP)
  | .l _ xs => .list (xs.map fP)
def bdR : R8 → Prop
  | .f x => bdF x
  | .t xs => (∀ x ∈ xs, bdF x) ∧ xs.length ≤ 12
  | .l _ xs => (∀ x ∈ xs, bdF x) ∧ xs.length ≤ 12
def okR8 (n : Nat) (m : Mem) : R8 → Prop
  | .l k xs => k ≠ n ∧ m[k]? = some (.lst (xs.map fD))
  | _ => True
theorem okR8.kept {n : Nat} {m m' : Mem} (g : Kept n m m') : ∀ {r : R8}, okR8 n m r → okR8 n m' r
  | .f _, _ => trivial
  | .t _, _ => trivial
  | .l k xs, h => ⟨h.1, g k _ h.1 h.2⟩
structure L8 (n : Nat) (m : Mem) (k : Nat) (rs : List R8) : Prop where
  ne : k ≠ n
  at_ : m[k]? = some (.lst (rs.map rD))
  ok : ∀ r ∈ rs, okR8 n m r
  bd : ∀ r ∈ rs, bdR r
  len : rs.length ≤ 40
theorem L8.kept {n : Nat} {m m' : Mem} {k : Nat} {rs : List R8} (h : L8 n m k rs) (g : Kept n m m') : L8 n m' k rs := ⟨h.ne, g k _ h.ne h.at_, fun r hr => okR8.kept g (h.ok r hr), h.bd, h.len⟩
theorem toPy_f (m : Mem) (n : Nat) (x : F8) : toPy m (n + 1) (fD x) = some (fP x) := by cases x <;> rfl
theorem toPy_r {pn : Nat} {m : Mem} (n : Nat) : ∀ {r : R8}, okR8 pn m r → toPy m (n + 2) (rD r) = some (rP r)
  | .f x, _ => toPy_f m (n + 1) x
  | .t xs, _ => toPy_tupm fun a _ => toPy_f m n a
  | .l k xs, h => by
    show (match m[k]? with | some (.lst xs) => ((xs.mapM (toPy m (n + 1))).map PyData.list) | _ => none) = _
    rw [h.2]
    show ((xs.map fD).mapM (toPy m (n + 1))).map PyData.list = _
    rw [toPy_map' xs fun a _ => toPy_f m n a]
    rfl
theorem toPy_l {n : Nat} {m : Mem} {k : Nat} {rs : List R8} (h : L8 n m k rs) : toPy m 12 (.ref k) = some (.list (rs.map rP)) := by
  show (match m[k]? with | some (.lst xs) => ((xs.mapM (toPy m 11)).map PyData.list) | _ => none) = _
  rw [h.at_]
  show ((rs.map rD).mapM (toPy m 11)).map PyData.list = _
  rw [toPy_map' rs fun a ha => toPy_r 9 (h.ok a ha)]
  rfl
theorem rp_f {x : F8} (h : bdF x) : Rp 1 1921 (fP x) := by
  cases x with
  | n => exact rp_non
  | b x => exact rp_bool x
  | i x => exact rp_int h
  | s => exact ⟨by simp [fP, PyData.showable], by simp [fP, PyData.hasDict], by simp [fP, PyData.depth], by simp only [fP, PyData.shown]; decide +kernel⟩
theorem rp_r {r : R8} (h : bdR r) : Rp 2 23100 (rP r) := by
  cases r with
  | f x => exact (rp_f h).mono (by omega) (by omega)
  | t xs =>
    refine (rp_tup (d := 1) (B := 1921) (n := 12) (fun y hy => ?_) (by simpa using h.2)).mono (by omega) (by omega)
    obtain ⟨x, hx, rfl⟩ := List.mem_map.mp hy
    exact rp_f (h.1 x hx)
  | l k xs =>
    refine (rp_lst (d := 1) (B := 1921) (n := 12) (fun y hy => ?_) (by simpa using h.2)).mono (by omega) (by omega)
    obtain ⟨x, hx, rfl⟩ := List.mem_map.mp hy
    exact rp_f (h.1 x hx)
theorem rp_l {rs : List R8} (h : ∀ r ∈ rs, bdR r) (hl : rs.length ≤ 40) : Rp 3 940000 (.list (rs.map rP)) := by
  refine (rp_lst (d := 2) (B := 23100) (n := 40) (fun y hy => ?_) (by simpa using hl)).mono (by omega) (by omega)
  obtain ⟨x, hx, rfl⟩ := List.mem_map.mp hy
  exact rp_r (h x hx)
theorem rp_t {rs : List R8} (h : ∀ r ∈ rs, bdR r) (hl : rs.length ≤ 40) : Rp 3 940000 (.tuple (rs.map rP)) := by
  refine (rp_tup (d := 2) (B := 23100) (n := 40) (fun y hy => ?_) (by simpa using hl)).mono (by omega) (by omega)
  obtain ⟨x, hx, rfl⟩ := List.mem_map.mp hy
  exact rp_r (h x hx)
theorem jn_f (x : F8) : flatJ (fP x) := by
  cases x with
  | s => exact rfl
  | _ => exact trivial
theorem jn_r (r : R8) : JN 1 (rP r) := by
  cases r with
  | f x => exact .inl (jn_f x)
  | t xs =>
    refine .inr (.inl ⟨_, rfl, fun y hy => ?_⟩)
    obtain ⟨x, _, rfl⟩ := List.mem_map.mp hy
    exact jn_f x
  | l k xs =>
    refine .inr (.inr ⟨_, rfl, fun y hy => ?_⟩)
    obtain ⟨x, _, rfl⟩ := List.mem_map.mp hy
    exact jn_f x
theorem jn_l (rs : List R8) : JN 2 (.list (rs.map rP)) := .inr (.inr ⟨_, rfl, fun y hy => by
  obtain ⟨x, _, rfl⟩ := List.mem_map.mp hy
  exact jn_r x⟩)
/-- how it is shown, whatever else comes -/
theorem sh_py {pn : Nat} {m : Mem} {d : D} {y : PyData} (hd : (∃ ds, d = .tup ds) ∨ ∃ k, d = .ref k) (hs : ∀ m', Kept pn m m' → ∃ ds, seqOf d m' = some ds) (hy : ∀ m', Kept pn m m' → toPy m' 12 d = some y) (hr : Rp 60 1000000 y) : Sh pn m d y.shown := by
  intro m' g
  have h : dRepr [d] m' = .ok (.str y.shown) m' := by
    obtain ⟨v, m2, e1, e2, e3⟩ := (p_repr (B := 1000000) (Q := fun v m2 => v = .str y.shown ∧ m2 = m') (hs m' g) (hy m' g) hr (Nat.le_refl _) ⟨rfl, rfl⟩).ex
    rw [e1, e2, e3]
  rcases hd with ⟨ds, rfl⟩ | ⟨k, rfl⟩
  · show (match dRepr [.tup ds] m' with | .ok v m' => R.ok v m' | _ => _) = _
    rw [h]
  · show (match dRepr [.ref k] m' with | .ok v m' => R.ok v m' | _ => _) = _
    rw [h]
theorem sh_l {n : Nat} {m : Mem} {k : Nat} {rs : List R8} (h : L8 n m k rs) : Sh n m (.ref k) (PyData.list (rs.map rP)).shown := by
  refine sh_py (.inr ⟨k, rfl⟩) (fun m' g => ?_) (fun m' g => toPy_l (h.kept g)) ((rp_l h.bd h.len).mono (by omega) (by omega))
  exact ⟨_, by
    show (match m'[k]? with | some (.lst xs) => some xs | _ => none) = _
    rw [(h.kept g).at_]⟩
/-- not a list, and not shown as one -/
def notL (n : Nat) (m : Mem) (d : D) : Prop := d = .non ∨ (∃ b, d = .bl b) ∨ (∃ i, d = .int i) ∨ (∃ x, d = .str x) ∨ (∃ ds, d = .tup ds) ∨ ∃ k kvs, d = .ref k ∧ k ≠ n ∧ m[k]? = some (.dic kvs)
theorem notL.kept {n : Nat} {m m' : Mem} {d : D} (h : notL n m d) (g : Kept n m m') : notL n m' d := by
  rcases h with h | h | h | h | h | ⟨k, kvs, e, hk, hm⟩
  · exact .inl h
  · exact .inr (.inl h)
  · exact .inr (.inr (.inl h))
  · exact .inr (.inr (.inr (.inl h)))
  · exact .inr (.inr (.inr (.inr (.inl h))))
  · exact .inr (.inr (.inr (.inr (.inr ⟨k, kvs, e, hk, g k _ hk hm⟩))))
theorem p_notL {n : Nat} {m : Mem} {d : D} {Q : D → Mem → Prop} (h : notL n m d) (q : Q (.bl false) m) : (dIsi ["list"] d m).post Q := by
  rcases h with rfl | ⟨b, rfl⟩ | ⟨i, rfl⟩ | ⟨x, rfl⟩ | ⟨ds, rfl⟩ | ⟨k, kvs, rfl, hk, hm⟩
  · exact p_isi_N_list q
  · exact p_isi_B_list q
  · exact p_isi_I_list q
  · exact p_isi_S_list q
  · exact p_isi_T_list q
  · exact p_isiD (t := "dict") (by rw [ty_ref, hm]) ((show (List.any ["list"] fun c => isiB "dict" c) = false by decide +kernel) ▸ q)
structure NL8 (n : Nat) (m : Mem) (d : D) : Prop where
  nl : notL n m d
  sh : ∃ x c t, Sh n m d x ∧ cdS x = c :: t ∧ c ≠ 91
theorem NL8.kept {n : Nat} {m m' : Mem} {d : D} (h : NL8 n m d) (g : Kept n m m') : NL8 n m' d := by
  obtain ⟨x, c, t, h1, h2, h3⟩ := h.sh
  exact ⟨h.nl.kept g, x, c, t, fun m2 g2 => h1 m2 (g.trans g2), h2, h3⟩
def T8 (n : Nat) (m : Mem) (d : D) : Prop := (∃ k rs, d = .ref k ∧ L8 n m k rs) ∨ NL8 n m d
theorem T8.kept {n : Nat} {m m' : Mem} {d : D} (h : T8 n m d) (g : Kept n m m') : T8 n m' d := by
  rcases h with ⟨k, rs, e, h⟩ | h
  · exact .inl ⟨k, rs, e, h.kept g⟩
  · exact .inr (h.kept g)
/-- a list shown alike is the list -/
theorem l_same {rs rs' : List R8} : (PyData.list (rs.map rP)).shown = (PyData.list (rs'.map rP)).shown ↔ rs.map rP = rs'.map rP := by
  constructor
  · intro h
    have := shown_inj (jn_l rs) (jn_l rs') h
    simpa using this
  · intro h
    rw [h]
theorem nl_ne {x : Str} {c : Nat} {t : List Nat} {rs : List R8} (h : cdS x = c :: t) (hc : c ≠ 91) : x ≠ (PyData.list (rs.map rP)).shown := by
  intro e
  have h2 : cdS x = txt (PyData.list (rs.map rP)) := by rw [e]; rfl
  rw [txt_list, h] at h2
  simp at h2
  exact hc h2.1
/-! stretches as rows -/
def oF : Option Int → F8
  | none => .n
  | some x => .i x
def stR (c : Sx) : R8 := .t [.i c.a, .i c.z, .i c.one, oF c.oth]
theorem fD_o (o : Option Int) : fD (oF o) = oD o := by cases o <;> rfl
theorem fP_o (o : Option Int) : fP (oF o) = oP o := by cases o <;> rfl
theorem stR_D (c : Sx) : rD (stR c) = stD c := by
  show D.tup [.int c.a, .int c.z, .int c.one, fD (oF c.oth)] = _
  rw [fD_o]
theorem stR_P (c : Sx) : rP (stR c) = stP c := by
  show PyData.tuple [.int c.a, .int c.z, .int c.one, fP (oF c.oth)] = _
  rw [fP_o]
  rfl
theorem stR_Ds (cs : List Sx) : (cs.map stR).map rD = cs.map stD := by
  rw [List.map_map]
  exact List.map_congr_left fun c _ => stR_D c
/-! == of a row with a stretch -/
theorem shaped_f (x : F8) : (fP x).canLay0 = true ∧ (fP x).depth ≤ 1 := by
  cases x with
  | s =>
    refine ⟨?_, by simp [fP, PyData.depth]⟩
    simp only [fP, PyData.canLay0]
    decide +kernel
  | _ => simp [fP, PyData.canLay0, PyData.depth]
theorem shaped_r (r : R8) : SeqAt.shaped (rP r) = true := by
  cases r with
  | f x =>
    have := shaped_f x
    show ((fP x).canLay0 && decide ((fP x).depth ≤ 64)) = true
    rw [this.1, decide_eq_true (by omega)]
    rfl
  | t xs =>
    have h1 := lay_map (g := fP) (fun a => (shaped_f a).1) xs
    have h2 := deep_map (g := fP) (fun a => Nat.le_trans (shaped_f a).2 (by omega)) xs
    simp only [SeqAt.shaped, rP, PyData.canLay0, h1, PyData.depth, Bool.true_and, decide_eq_true_eq]
    simp
    omega
  | l k xs =>
    have h1 := lay_map (g := fP) (fun a => (shaped_f a).1) xs
    have h2 := deep_map (g := fP) (fun a => Nat.le_trans (shaped_f a).2 (by omega)) xs
    simp only [SeqAt.shaped, rP, PyData.canLay0, h1, PyData.depth, Bool.true_and, decide_eq_true_eq]
    simp
    omega
theorem dEq_tup (d : D) (ys : List D) (m : Mem) : dEq d (.tup ys) m = (match toPy m 12 d, toPy m 12 (.tup ys) with
    | some x, some y => if SeqAt.shaped x = true ∧ SeqAt.shaped y = true then R.ok (D.bl (x.eqv y)) m else R.bad
    | _, _ => R.bad) := by cases d <;> rfl
theorem p_eqR {n : Nat} {m : Mem} {r : R8} {c : Sx} {Q : D → Mem → Prop} (h : okR8 n m r) (q : Q (.bl (PyData.eqv (rP r) (stP c))) m) : (dEq (rD r) (stD c) m).post Q := by
  have e1 : toPy m 12 (rD r) = some (rP r) := toPy_r 10 h
  have e2 : toPy m 12 (stD c) = some (stP c) := toPy_st m 10 c
  rw [dEq_tup, e1, e2]
  simp only [shaped_st, shaped_r, and_self, if_true]
  exact q
/-- a number or None: told from truths -/
def numF : F8 → Bool
  | .n => true
  | .i _ => true
  | _ => false
theorem eqv_num {x : F8} {y : PyData} (hx : numF x = true) (hy : y = .none ∨ ∃ j, y = .int j) : PyData.eqv (fP x) y = decide (fP x = y) := by
  cases x with
  | n => rcases hy with rfl | ⟨j, rfl⟩ <;> simp [fP, PyData.eqv]
  | i a =>
    rcases hy with rfl | ⟨j, rfl⟩
    · simp [fP, PyData.eqv]
    · simp only [fP, PyData.eqv]
      rw [Bool.eq_iff_iff]
      simp
  | b a => cases hx
  | s => cases hx
/-- what tells a stretch: alike, and all of it None or numbers -/
theorem eqv_row (r : R8) (c : Sx) : (PyData.eqv (rP r) (stP c) = true ∧ ∀ xs, r = .t xs → ∀ x ∈ xs, numF x = true) ↔ rP r = stP c := by
  have ho : oP c.oth = .none ∨ ∃ j, oP c.oth = .int j := by cases c.oth <;> simp [oP]
  constructor
  · rintro ⟨h1, h2⟩
    cases r with
    | f x => cases x <;> simp [rP, fP, stP, PyData.eqv] at h1
    | l k xs => simp [rP, stP, PyData.eqv] at h1
    | t xs =>
      have hn := h2 xs rfl
      match xs, hn, h1 with
      | [], _, h1 => simp [rP, stP, PyData.eqv, PyData.eqvAll] at h1
      | [_], _, h1 => simp [rP, stP, PyData.eqv, PyData.eqvAll] at h1
      | [_, _], _, h1 => simp [rP, stP, PyData.eqv, PyData.eqvAll] at h1
      | [_, _, _], _, h1 => simp [rP, stP, PyData.eqv, PyData.eqvAll] at h1
      | [a, b, d, e], hn, h1 =>
        simp only [rP, stP, List.map_cons, List.map_nil, PyData.eqv, PyData.eqvAll, Bool.and_eq_true, and_true] at h1
        rw [eqv_num (hn a (by simp)) (.inr ⟨_, rfl⟩), eqv_num (hn b (by simp)) (.inr ⟨_, rfl⟩), eqv_num (hn d (by simp)) (.inr ⟨_, rfl⟩), eqv_num (hn e (by simp)) ho] at h1
        simp only [decide_eq_true_eq] at h1
        simp [rP, stP, h1]
      | _ :: _ :: _ :: _ :: _ :: _, _, h1 => simp [rP, stP, PyData.eqv, PyData.eqvAll] at h1
  · intro h
    constructor
    · rw [h, eqv_st]
      simp
    · rintro xs rfl x hx
      have hm : fP x ∈ [PyData.int c.a, .int c.z, .int c.one, oP c.oth] := by
        have : xs.map fP = [PyData.int c.a, .int c.z, .int c.one, oP c.oth] := by simpa [rP, stP] using h
        rw [← this]
        exact List.mem_map_of_mem hx
      cases x with
      | n => rfl
      | i a => rfl
      | b a => rcases ho with e | ⟨j, e⟩ <;> simp [fP, e] at hm
      | s => rcases ho with e | ⟨j, e⟩ <;> simp [fP, e] at hm
theorem cut_map {α : Type} (f : α → D) (as : List α) (lo hi : Option Int) : ∃ bs : List α, Mi.cutD (as.map f) lo hi = bs.map f ∧ bs.length ≤ as.length ∧ ∀ b ∈ bs, b ∈ as := by
  unfold Mi.cutD
  rw [List.length_map, ← List.map_drop, ← List.map_take]
  exact ⟨_, rfl, by rw [List.length_take, List.length_drop]; omega, fun b hb => List.mem_of_mem_drop (List.mem_of_mem_take hb)⟩
end Mi
namespace Lk08
open PySem PySem.Spec PyProof.Rows L2 Mi
/-! ### the text -/
def topS (i : Nat) : Stmt := PySem.Challenge.pw_hammersale_k08_courses_looked_at.main.body.getD i (.Pass ⟨0, 0, 0, 0⟩)
structure Top (K : PySem.W.Frag) (mg : Str → Option Value) : Prop where
  z_all : mg "all" = none
  z_bool : mg "bool" = none
  z_enumerate : mg "enumerate" = none
  z_int : mg "int" = none
  z_isinstance : mg "isinstance" = none
  z_len : mg "len" = none
  z_list : mg "list" = none
  z_max : mg "max" = none
  z_min : mg "min" = none
  z_range : mg "range" = none
  z_repr : mg "repr" = none
  z_sorted : mg "sorted" = none
  z_tuple : mg "tuple" = none
  z_zip : mg "zip" = none
  x_MOST_FLOORS : ∃ t, mg "MOST_FLOORS" = some (.int 4 t)
  x_GREATEST_FLOOR : ∃ t, mg "GREATEST_FLOOR" = some (.int 1000000 t)
  x_GREATEST_STEP : ∃ t, mg "GREATEST_STEP" = some (.int 100000 t)
  x_GREATEST_BOUND : ∃ t, mg "GREATEST_BOUND" = some (.int 1000000 t)
  x_GREATEST_BUYER : ∃ t, mg "GREATEST_BUYER" = some (.int 7 t)
  x_MOST_BIDS : ∃ t, mg "MOST_BIDS" = some (.int 8 t)
abbrev s_is_number : Stmt := topS 1
abbrev n_is_number : List Str := ["thing"]
theorem sc_is_number : FnScope n_is_number ["thing"] (defScope s_is_number) := ⟨rfl, rfl, rfl, by decide +kernel, rfl, by decide +kernel, by decide +kernel⟩
noncomputable def b_is_number : MS :=
    (sRet (mAndT (mIsi ["int"] (mVar 0)) (mNotT (mIsi ["bool"] (mVar 0)))))
noncomputable def f_is_number : List D → M D := runM 1 b_is_number
abbrev s_is_tuple_of : Stmt := topS 3
abbrev n_is_tuple_of : List Str := ["thing", "fewest", "most"]
theorem sc_is_tuple_of : FnScope n_is_tuple_of ["thing", "fewest", "most"] (defScope s_is_tuple_of) := ⟨rfl, rfl, rfl, by decide +kernel, rfl, by decide +kernel, by decide +kernel⟩
noncomputable def b_is_tuple_of : MS :=
    (sRet (mAndT (mIsi ["tuple"] (mVar 0)) (mChain dLe dLe (mVar 1) (mCB dLen (mCons (mVar 0) mNil)) (mVar 2))))
noncomputable def f_is_tuple_of : List D → M D := runM 3 b_is_tuple_of
abbrev s_is_rising : Stmt := topS 4
abbrev n_is_rising : List Str := ["things", "ahead", "behind"]
theorem sc_is_rising : FnScope n_is_rising ["things"] (defScope s_is_rising) := ⟨rfl, rfl, rfl, by decide +kernel, rfl, by decide +kernel, by decide +kernel⟩
noncomputable def b_is_rising : MS :=
    (sRet (mCB dAll (mCons (mLc (iZipM (mCons (mVar 0) (mCons (mCut (mVar 0) (oSome (mC (.int 1))) oNone) mNil))) (.many [1, 2]) mYes (mOp dLt (mVar 1) (mVar 2)) [1, 2]) mNil)))
noncomputable def f_is_rising : List D → M D := runM 3 b_is_rising
abbrev s_flights_of : Stmt := topS 19
abbrev n_flights_of : List Str := ["ladder", "start", "rung", "price", "going", "flights", "floor", "step", "moves"]
theorem sc_flights_of : FnScope n_flights_of ["ladder", "start"] (defScope s_flights_of) := ⟨rfl, rfl, rfl, by decide +kernel, rfl, by decide +kernel, by decide +kernel⟩
noncomputable def b_flights_of : MS :=
    (sSeq (sAsg (mC (.int 0)) (gSet 2))
    (sSeq (sAsg (mVar 1) (gSet 3))
    (sSeq (sAsg (mOp dIx (mOp dIx (mVar 0) (mC (.int 0))) (mC (.int 1))) (gSet 4))
    (sSeq (sAsg (mLst mNil) (gSet 5))
    (sSeq (sFor (iSeq (mVar 0)) (gTupM 2 (gConsM (gSet 6) (gConsM (gSet 7) gNilM))) (sSeq (sIf (mB (mOp dLt (mVar 3) (mVar 6))) (sSeq (sAsg (mOp dDiv (mOp dSub (mOp dAdd (mOp dSub (mVar 6) (mVar 3)) (mVar 4)) (mC (.int 1))) (mVar 4)) (gSet 8))
    (sSeq (sAug 2 dAddI (mVar 8))
    (sAug 3 dAddI (mOp dMul (mVar 8) (mVar 4))))) sNext)
    (sSeq (sDrop (mMtL dAppend (mVar 5) (mCons (mTup (mCons (mVar 2) (mCons (mVar 3) (mCons (mVar 7) mNil)))) mNil)))
    (sAsg (mVar 7) (gSet 4)))))
    (sRet (mVar 5)))))))
noncomputable def f_flights_of : List D → M D := runM 9 b_flights_of
abbrev s_taker_behind : Stmt := topS 36
abbrev n_taker_behind : List Str := ["tops", "rung", "ahead", "buyer"]
theorem sc_taker_behind : FnScope n_taker_behind ["tops", "rung", "ahead"] (defScope s_taker_behind) := ⟨rfl, rfl, rfl, by decide +kernel, rfl, by decide +kernel, by decide +kernel⟩
noncomputable def b_taker_behind : MS :=
    (sSeq (sFor (iKeyD (mSeal (mVar 0))) (gSet 3) (sIf (mAnd (mB (mOp dGe (mOp dGet (mVar 0) (mVar 3)) (mVar 1))) (mB (mOp dNe (mVar 3) (mVar 2)))) (sRet (mVar 3)) sNext))
    (sRet (mC .non)))
noncomputable def f_taker_behind : List D → M D := runM 4 b_taker_behind
abbrev s_turn_missed : Stmt := topS 38
abbrev n_turn_missed : List Str := ["turn", "top"]
theorem sc_turn_missed : FnScope n_turn_missed ["turn", "top"] (defScope s_turn_missed) := ⟨rfl, rfl, rfl, by decide +kernel, rfl, by decide +kernel, by decide +kernel⟩
noncomputable def b_turn_missed : MS :=
    (sRet (mOp dAdd (mVar 0) (mOp dMul (mOp dAdd (mOp dDiv (mOp dSub (mVar 1) (mVar 0)) (mC (.int 2))) (mC (.int 1))) (mC (.int 2)))))
noncomputable def f_turn_missed : List D → M D := runM 2 b_turn_missed
abbrev s_taker_in : Stmt := topS 39
abbrev n_taker_in : List Str := ["stretch", "rung", "first", "last", "one", "other"]
theorem sc_taker_in : FnScope n_taker_in ["stretch", "rung"] (defScope s_taker_in) := ⟨rfl, rfl, rfl, by decide +kernel, rfl, by decide +kernel, by decide +kernel⟩
noncomputable def b_taker_in : MS :=
    (sSeq (sAsg (mVar 0) (gTupM 4 (gConsM (gSet 2) (gConsM (gSet 3) (gConsM (gSet 4) (gConsM (gSet 5) gNilM))))))
    (sRet (mIfE (mB (mOp dEq (mOp dMod (mOp dSub (mVar 1) (mVar 2)) (mC (.int 2))) (mC (.int 0)))) (mVar 4) (mVar 5))))
noncomputable def f_taker_in : List D → M D := runM 6 b_taker_in
abbrev s_law_cell : Stmt := topS 43
abbrev n_law_cell : List Str := ["_law_script", "_law_k"]
theorem sc_law_cell : FnScope n_law_cell ["_law_script", "_law_k"] (defScope s_law_cell) := ⟨rfl, rfl, rfl, by decide +kernel, rfl, by decide +kernel, by decide +kernel⟩
noncomputable def b_law_cell : MS :=
    (sSeq (sIf (mB (mOp dLt (mVar 1) (mCB dLen (mCons (mVar 0) mNil)))) (sRet (mOp dIx (mVar 0) (mVar 1))) sNext)
    (sRet (mC (.int 0))))
noncomputable def f_law_cell : List D → M D := runM 2 b_law_cell
abbrev s_law_pen : Stmt := topS 44
abbrev n_law_pen : List Str := ["_law_cell_here"]
theorem sc_law_pen : FnScope n_law_pen ["_law_cell_here"] (defScope s_law_pen) := ⟨rfl, rfl, rfl, by decide +kernel, rfl, by decide +kernel, by decide +kernel⟩
noncomputable def b_law_pen : MS :=
    (sRet (mLst (mCons (mVar 0) (mCons (mCB dInt (mCons (mOp dGe (mVar 0) (mOp dPow (mC (.int 10)) (mC (.int 18)))) mNil)) mNil))))
noncomputable def f_law_pen : List D → M D := runM 1 b_law_pen
abbrev s_law_draw : Stmt := topS 45
abbrev n_law_draw : List Str := ["_law_pen_here", "_law_many", "_law_drawn"]
theorem sc_law_draw : FnScope n_law_draw ["_law_pen_here", "_law_many"] (defScope s_law_draw) := ⟨rfl, rfl, rfl, by decide +kernel, rfl, by decide +kernel, by decide +kernel⟩
noncomputable def b_law_draw : MS :=
    (sSeq (sIf (mB (mOp dEq (mOp dIx (mVar 0) (mC (.int 1))) (mC (.int 1)))) (sSeq (sAsg (mOp dMod (mOp dIx (mVar 0) (mC (.int 0))) (mVar 1)) (gSet 2))
    (sSeq (sAsg (mOp dDiv (mOp dIx (mVar 0) (mC (.int 0))) (mVar 1)) (gItem (mVar 0) (mC (.int 0))))
    (sRet (mVar 2)))) sNext)
    (sSeq (sAsg (mOp dMod (mOp dAdd (mOp dMul (mOp dMod (mOp dIx (mVar 0) (mC (.int 0))) (mC (.int 2147483629))) (mC (.int 48271))) (mC (.int 11))) (mC (.int 2147483629))) (gItem (mVar 0) (mC (.int 0))))
    (sRet (mOp dMod (mOp dDiv (mOp dMod (mOp dAdd (mOp dMul (mOp dIx (mVar 0) (mC (.int 0))) (mOp dIx (mVar 0) (mC (.int 0)))) (mOp dMul (mC (.int 40692)) (mOp dIx (mVar 0) (mC (.int 0))))) (mC (.int 2147483647))) (mC (.int 8))) (mVar 1)))))
noncomputable def f_law_draw : List D → M D := runM 3 b_law_draw
abbrev s_law_same : Stmt := topS 48
abbrev n_law_same : List Str := ["_law_told", "_law_due", "_law_one", "_law_other_here"]
theorem sc_law_same : FnScope n_law_same ["_law_told", "_law_due"] (defScope s_law_same) := ⟨rfl, rfl, rfl, by decide +kernel, rfl, by decide +kernel, by decide +kernel⟩
noncomputable def b_law_same (rec_law_same : List D → M D) : MS :=
    (sSeq (sIf (mTru (mIsi ["list", "tuple"] (mVar 1))) (sSeq (sIf (mOr (mNot (mTru (mIsi ["list", "tuple"] (mVar 0)))) (mB (mOp dNe (mIsi ["list"] (mVar 0)) (mIsi ["list"] (mVar 1))))) (sRet (mC (.bl false))) sNext)
    (sSeq (sIf (mB (mOp dNe (mCB dLen (mCons (mVar 0) mNil)) (mCB dLen (mCons (mVar 1) mNil)))) (sRet (mC (.bl false))) sNext)
    (sRet (mCB dAll (mCons (mLc (iZipM (mCons (mVar 0) (mCons (mVar 1) mNil))) (.many [2, 3]) mYes (mCall 2 (rec_law_same) (mCons (mVar 2) (mCons (mVar 3) mNil))) [2, 3]) mNil))))) sNext)
    (sRet (mAndT (mOp dEq (mIsi ["bool"] (mVar 0)) (mIsi ["bool"] (mVar 1))) (mOp dEq (mVar 0) (mVar 1)))))
noncomputable def f_law_same : Nat → List D → M D
  | 0 => fun _ _ => .bad
  | j + 1 => runM 4 (b_law_same (f_law_same j))
abbrev s_law_top : Stmt := topS 54
abbrev n_law_top : List Str := ["_law_ladder_here", "_law_start", "_law_bound", "_law_price", "_law_rung", "_law_at", "_law_floor", "_law_step", "_law_end", "_law_many"]
theorem sc_law_top : FnScope n_law_top ["_law_ladder_here", "_law_start", "_law_bound"] (defScope s_law_top) := ⟨rfl, rfl, rfl, by decide +kernel, rfl, by decide +kernel, by decide +kernel⟩
noncomputable def b_law_top : MS :=
    (sSeq (sIf (mB (mOp dGt (mVar 1) (mVar 2))) (sRet (mC .non)) sNext)
    (sSeq (sPar 3 4 (mCons (mVar 1) (mCons (mC (.int 0)) mNil)))
    (sSeq (sFor (iEnumM (mCons (mVar 0) mNil)) (gTupM 2 (gConsM (gSet 5) (gConsM (gTupM 2 (gConsM (gSet 6) (gConsM (gSet 7) gNilM))) gNilM))) (sSeq (sAsg (mIfE (mB (mOp dEq (mOp dAdd (mVar 5) (mC (.int 1))) (mCB dLen (mCons (mVar 0) mNil)))) (mVar 2) (mCB dMin2 (mCons (mVar 2) (mCons (mOp dSub (mOp dIx (mOp dIx (mVar 0) (mOp dAdd (mVar 5) (mC (.int 1)))) (mC (.int 0))) (mC (.int 1))) mNil)))) (gSet 8))
    (sIf (mB (mOp dLe (mVar 3) (mVar 8))) (sSeq (sAsg (mOp dAdd (mOp dDiv (mOp dSub (mVar 8) (mVar 3)) (mVar 7)) (mC (.int 1))) (gSet 9))
    (sPar 3 4 (mCons (mOp dAdd (mVar 3) (mOp dMul (mVar 9) (mVar 7))) (mCons (mOp dAdd (mVar 4) (mVar 9)) mNil)))) sNext)))
    (sRet (mOp dSub (mVar 4) (mC (.int 1)))))))
noncomputable def f_law_top : List D → M D := runM 10 b_law_top
abbrev s_law_next : Stmt := topS 56
abbrev n_law_next : List Str := ["_law_runners_here", "_law_rung", "_law_holder", "_law_some", "_law_one"]
theorem sc_law_next : FnScope n_law_next ["_law_runners_here", "_law_rung", "_law_holder"] (defScope s_law_next) := ⟨rfl, rfl, rfl, by decide +kernel, rfl, by decide +kernel, by decide +kernel⟩
noncomputable def b_law_next : MS :=
    (sSeq (sAsg (mLc (iSeq (mVar 0)) (.one 4) (mAnd (mB (mOp dGe (mOp dIx (mVar 4) (mC (.int 1))) (mVar 1))) (mB (mOp dNe (mOp dIx (mVar 4) (mC (.int 0))) (mVar 2)))) (mVar 4) [4]) (gSet 3))
    (sRet (mIfE (mB (mOp dNe (mVar 3) (mLst mNil))) (mOp dIx (mVar 3) (mC (.int 0))) (mC .non))))
noncomputable def f_law_next : List D → M D := runM 5 b_law_next
abbrev s_is_within : Stmt := topS 2
abbrev n_is_within : List Str := ["thing", "low", "high"]
theorem sc_is_within : FnScope n_is_within ["thing", "low", "high"] (defScope s_is_within) := ⟨rfl, rfl, rfl, by decide +kernel, rfl, by decide +kernel, by decide +kernel⟩
noncomputable def b_is_within : MS :=
    (sRet (mAndT (mCall 1 f_is_number (mCons (mVar 0) mNil)) (mChain dLe dLe (mVar 1) (mVar 0) (mVar 2))))
noncomputable def f_is_within : List D → M D := runM 3 b_is_within
abbrev s_stretch_from : Stmt := topS 37
abbrev n_stretch_from : List Str := ["tops", "first", "one", "other", "missed"]
theorem sc_stretch_from : FnScope n_stretch_from ["tops", "first", "one"] (defScope s_stretch_from) := ⟨rfl, rfl, rfl, by decide +kernel, rfl, by decide +kernel, by decide +kernel⟩
noncomputable def b_stretch_from : MS :=
    (sSeq (sAsg (mCall 3 f_taker_behind (mCons (mVar 0) (mCons (mOp dAdd (mVar 1) (mC (.int 1))) (mCons (mVar 2) mNil)))) (gSet 3))
    (sSeq (sIf (mB (mOp dIsN (mVar 3) (mC .non))) (sRet (mTup (mCons (mVar 1) (mCons (mVar 1) (mCons (mVar 2) (mCons (mC .non) mNil)))))) sNext)
    (sSeq (sAsg (mCB dMin2 (mCons (mCall 2 f_turn_missed (mCons (mVar 1) (mCons (mOp dGet (mVar 0) (mVar 2)) mNil))) (mCons (mCall 2 f_turn_missed (mCons (mOp dAdd (mVar 1) (mC (.int 1))) (mCons (mOp dGet (mVar 0) (mVar 3)) mNil))) mNil))) (gSet 4))
    (sRet (mTup (mCons (mVar 1) (mCons (mOp dSub (mVar 4) (mC (.int 1))) (mCons (mVar 2) (mCons (mVar 3) mNil)))))))))
noncomputable def f_stretch_from : List D → M D := runM 5 b_stretch_from
abbrev s_is_stretch : Stmt := topS 41
abbrev n_is_stretch : List Str := ["thing", "stretch", "one"]
theorem sc_is_stretch : FnScope n_is_stretch ["thing", "stretch"] (defScope s_is_stretch) := ⟨rfl, rfl, rfl, by decide +kernel, rfl, by decide +kernel, by decide +kernel⟩
noncomputable def b_is_stretch : MS :=
    (sRet (mAndT (mOp dEq (mVar 0) (mVar 1)) (mCB dAll (mCons (mLc (iSeq (mVar 0)) (.one 2) mYes (mOrT (mOp dIsN (mVar 2) (mC .non)) (mCall 1 f_is_number (mCons (mVar 2) mNil))) [2]) mNil))))
noncomputable def f_is_stretch : List D → M D := runM 3 b_is_stretch
abbrev s_law_pick : Stmt := topS 46
abbrev n_law_pick : List Str := ["_law_pen_here", "_law_things"]
theorem sc_law_pick : FnScope n_law_pick ["_law_pen_here", "_law_things"] (defScope s_law_pick) := ⟨rfl, rfl, rfl, by decide +kernel, rfl, by decide +kernel, by decide +kernel⟩
noncomputable def b_law_pick : MS :=
    (sRet (mOp dIx (mVar 1) (mCall 2 f_law_draw (mCons (mVar 0) (mCons (mCB dLen (mCons (mVar 1) mNil)) mNil)))))
noncomputable def f_law_pick : List D → M D := runM 2 b_law_pick
abbrev s_law_mixed : Stmt := topS 47
abbrev n_law_mixed : List Str := ["_law_pen_here", "_law_things", "_law_rest", "_law_drawn"]
theorem sc_law_mixed : FnScope n_law_mixed ["_law_pen_here", "_law_things"] (defScope s_law_mixed) := ⟨rfl, rfl, rfl, by decide +kernel, rfl, by decide +kernel, by decide +kernel⟩
noncomputable def b_law_mixed : MS :=
    (sSeq (sPar 2 3 (mCons (mCB dList (mCons (mVar 1) mNil)) (mCons (mLst mNil) mNil)))
    (sSeq (sWhile (mB (mOp dNe (mVar 2) (mLst mNil))) (sDrop (mMtL dAppend (mVar 3) (mCons (mMtL dPopAt (mVar 2) (mCons (mCall 2 f_law_draw (mCons (mVar 0) (mCons (mCB dLen (mCons (mVar 2) mNil)) mNil))) mNil)) mNil))) 1000000)
    (sRet (mVar 3))))
noncomputable def f_law_mixed : List D → M D := runM 4 b_law_mixed
abbrev s_law_runners : Stmt := topS 55
abbrev n_law_runners : List Str := ["_law_ladder_here", "_law_lot_here", "_law_bids_here", "_law_tops", "_law_buyer", "_law_bound", "_law_one"]
theorem sc_law_runners : FnScope n_law_runners ["_law_ladder_here", "_law_lot_here", "_law_bids_here"] (defScope s_law_runners) := ⟨rfl, rfl, rfl, by decide +kernel, rfl, by decide +kernel, by decide +kernel⟩
noncomputable def b_law_runners : MS :=
    (sSeq (sAsg (mLc (iSeq (mVar 2)) (.many [4, 5]) mYes (mTup (mCons (mVar 4) (mCons (mCall 3 f_law_top (mCons (mVar 0) (mCons (mOp dIx (mVar 1) (mC (.int 0))) (mCons (mVar 5) mNil)))) mNil))) [4, 5]) (gSet 3))
    (sRet (mLc (iSeq (mVar 3)) (.one 6) (mB (mOp dNotN (mOp dIx (mVar 6) (mC (.int 1))) (mC .non))) (mVar 6) [6])))
noncomputable def f_law_runners : List D → M D := runM 7 b_law_runners
abbrev s_law_rows : Stmt := topS 57
abbrev n_law_rows : List Str := ["_law_runners_here", "_law_rows_here", "_law_rung", "_law_one", "_law_other_here", "_law_pairs", "_law_last", "_law_more"]
theorem sc_law_rows : FnScope n_law_rows ["_law_runners_here"] (defScope s_law_rows) := ⟨rfl, rfl, rfl, by decide +kernel, rfl, by decide +kernel, by decide +kernel⟩
noncomputable def b_law_rows : MS :=
    (sSeq (sPar3 1 2 3 (mCons (mLst mNil) (mCons (mC (.int 0)) (mCons (mCall 3 f_law_next (mCons (mVar 0) (mCons (mC (.int 0)) (mCons (mC .non) mNil)))) mNil))))
    (sSeq (sWhile (mB (mOp dNotN (mVar 3) (mC .non))) (sSeq (sAsg (mCall 3 f_law_next (mCons (mVar 0) (mCons (mOp dAdd (mVar 2) (mC (.int 1))) (mCons (mOp dIx (mVar 3) (mC (.int 0))) mNil)))) (gSet 4))
    (sSeq (sIf (mB (mOp dIsN (mVar 4) (mC .non))) (sRet (mOp dAdd (mVar 1) (mLst (mCons (mTup (mCons (mVar 2) (mCons (mVar 2) (mCons (mOp dIx (mVar 3) (mC (.int 0))) (mCons (mC .non) mNil))))) mNil)))) sNext)
    (sSeq (sAsg (mCB dMin2 (mCons (mOp dDiv (mOp dSub (mOp dIx (mVar 3) (mC (.int 1))) (mVar 2)) (mC (.int 2))) (mCons (mOp dDiv (mOp dSub (mOp dSub (mOp dIx (mVar 4) (mC (.int 1))) (mVar 2)) (mC (.int 1))) (mC (.int 2))) mNil))) (gSet 5))
    (sSeq (sAsg (mOp dAdd (mOp dAdd (mVar 2) (mOp dMul (mC (.int 2)) (mVar 5))) (mC (.int 1))) (gSet 6))
    (sSeq (sAsg (mCB dInt (mCons (mOp dGt (mOp dIx (mVar 3) (mC (.int 1))) (mVar 6)) mNil)) (gSet 7))
    (sSeq (sDrop (mMtL dAppend (mVar 1) (mCons (mTup (mCons (mVar 2) (mCons (mOp dAdd (mVar 6) (mVar 7)) (mCons (mOp dIx (mVar 3) (mC (.int 0))) (mCons (mOp dIx (mVar 4) (mC (.int 0))) mNil))))) mNil)))
    (sSeq (sAsg (mOp dAdd (mOp dAdd (mVar 6) (mVar 7)) (mC (.int 1))) (gSet 2))
    (sAsg (mCall 3 f_law_next (mCons (mVar 0) (mCons (mVar 2) (mCons (mOp dIx (mLst (mCons (mOp dIx (mVar 4) (mC (.int 0))) (mCons (mOp dIx (mVar 3) (mC (.int 0))) mNil))) (mVar 7)) mNil)))) (gSet 3))))))))) 1000000)
    (sRet (mVar 1))))
noncomputable def f_law_rows : List D → M D := runM 8 b_law_rows
abbrev s_law_parted : Stmt := topS 58
abbrev n_law_parted : List Str := ["_law_pen_here", "_law_row", "_law_first", "_law_last", "_law_one", "_law_other_here", "_law_at"]
theorem sc_law_parted : FnScope n_law_parted ["_law_pen_here", "_law_row"] (defScope s_law_parted) := ⟨rfl, rfl, rfl, by decide +kernel, rfl, by decide +kernel, by decide +kernel⟩
noncomputable def b_law_parted : MS :=
    (sSeq (sAsg (mVar 1) (gTupM 4 (gConsM (gSet 2) (gConsM (gSet 3) (gConsM (gSet 4) (gConsM (gSet 5) gNilM))))))
    (sSeq (sIf (mB (mOp dLt (mOp dSub (mVar 3) (mVar 2)) (mC (.int 3)))) (sRet (mLst (mCons (mVar 1) (mCons (mVar 1) mNil)))) sNext)
    (sSeq (sAsg (mOp dAdd (mOp dAdd (mVar 2) (mC (.int 2))) (mOp dMul (mCall 2 f_law_draw (mCons (mVar 0) (mCons (mOp dDiv (mOp dSub (mOp dSub (mVar 3) (mVar 2)) (mC (.int 1))) (mC (.int 2))) mNil))) (mC (.int 2)))) (gSet 6))
    (sRet (mLst (mCons (mTup (mCons (mVar 2) (mCons (mOp dSub (mVar 6) (mC (.int 1))) (mCons (mVar 4) (mCons (mVar 5) mNil))))) (mCons (mTup (mCons (mVar 6) (mCons (mVar 3) (mCons (mVar 4) (mCons (mIfE (mB (mOp dLt (mVar 6) (mVar 3))) (mVar 5) (mC .non)) mNil))))) mNil)))))))
noncomputable def f_law_parted : List D → M D := runM 7 b_law_parted
abbrev s_is_floor_and_step : Stmt := topS 17
abbrev n_is_floor_and_step : List Str := ["thing"]
theorem sc_is_floor_and_step : FnScope n_is_floor_and_step ["thing"] (defScope s_is_floor_and_step) := ⟨rfl, rfl, rfl, by decide +kernel, rfl, by decide +kernel, by decide +kernel⟩
noncomputable def b_is_floor_and_step : MS :=
    (sSeq (sIf (mNot (mTru (mCall 3 f_is_tuple_of (mCons (mVar 0) (mCons (mC (.int 2)) (mCons (mC (.int 2)) mNil)))))) (sRet (mC (.bl false))) sNext)
    (sRet (mAndT (mCall 3 f_is_within (mCons (mOp dIx (mVar 0) (mC (.int 0))) (mCons (mC (.int 0)) (mCons (mC (.int 1000000)) mNil)))) (mCall 3 f_is_within (mCons (mOp dIx (mVar 0) (mC (.int 1))) (mCons (mC (.int 1)) (mCons (mC (.int 100000)) mNil)))))))
noncomputable def f_is_floor_and_step : List D → M D := runM 1 b_is_floor_and_step
abbrev s_check_price : Stmt := topS 21
abbrev n_check_price : List Str := ["thing", "low", "high"]
theorem sc_check_price : FnScope n_check_price ["thing", "low", "high"] (defScope s_check_price) := ⟨rfl, rfl, rfl, by decide +kernel, rfl, by decide +kernel, by decide +kernel⟩
noncomputable def b_check_price : MS :=
    (sIf (mNot (mTru (mCall 3 f_is_within (mCons (mVar 0) (mCons (mVar 1) (mCons (mVar 2) mNil)))))) sNever sNext)
noncomputable def f_check_price : List D → M D := runM 3 b_check_price
abbrev s_is_lot : Stmt := topS 25
abbrev n_is_lot : List Str := ["thing", "start", "least"]
theorem sc_is_lot : FnScope n_is_lot ["thing"] (defScope s_is_lot) := ⟨rfl, rfl, rfl, by decide +kernel, rfl, by decide +kernel, by decide +kernel⟩
noncomputable def b_is_lot : MS :=
    (sSeq (sIf (mNot (mTru (mCall 3 f_is_tuple_of (mCons (mVar 0) (mCons (mC (.int 2)) (mCons (mC (.int 2)) mNil)))))) (sRet (mC (.bl false))) sNext)
    (sSeq (sAsg (mVar 0) (gTupM 2 (gConsM (gSet 1) (gConsM (gSet 2) gNilM))))
    (sRet (mAndT (mCall 3 f_is_within (mCons (mVar 1) (mCons (mC (.int 1)) (mCons (mC (.int 1000000)) mNil)))) (mCall 3 f_is_within (mCons (mVar 2) (mCons (mVar 1) (mCons (mC (.int 1000000)) mNil))))))))
noncomputable def f_is_lot : List D → M D := runM 3 b_is_lot
abbrev s_is_buyer : Stmt := topS 28
abbrev n_is_buyer : List Str := ["thing"]
theorem sc_is_buyer : FnScope n_is_buyer ["thing"] (defScope s_is_buyer) := ⟨rfl, rfl, rfl, by decide +kernel, rfl, by decide +kernel, by decide +kernel⟩
noncomputable def b_is_buyer : MS :=
    (sRet (mCall 3 f_is_within (mCons (mVar 0) (mCons (mC (.int 0)) (mCons (mC (.int 7)) mNil)))))
noncomputable def f_is_buyer : List D → M D := runM 1 b_is_buyer
abbrev s_law_anything : Stmt := topS 49
abbrev n_law_anything : List Str := ["_law_pen_here", "_law_odd"]
theorem sc_law_anything : FnScope n_law_anything ["_law_pen_here"] (defScope s_law_anything) := ⟨rfl, rfl, rfl, by decide +kernel, rfl, by decide +kernel, by decide +kernel⟩
noncomputable def b_law_anything : MS :=
    (sSeq (sAsg (mLst (mCons (mC .non) (mCons (mC (.bl true)) (mCons (mC (.bl false)) (mCons (mC (.str "")) (mCons (mC (.str "0")) (mCons (mTup mNil) (mCons (mLst mNil) (mCons mDict0 (mCons (mUn dNeg (mC (.int 1))) (mCons (mOp dPow (mC (.int 10)) (mC (.int 39))) (mCons (mC (.int 0)) (mCons (mC (.int 7)) (mCons (mTup (mCons (mC (.int 0)) mNil)) (mCons (mLst (mCons (mC (.int 0)) mNil)) (mCons (mTup (mCons (mTup mNil) mNil)) (mCons (mTup (mCons (mC (.int 0)) (mCons (mC (.int 1)) mNil))) (mCons (fun e m => (mDict [((mC (.int 0)), (mC (.int 0)))] e m).calm) (mCons (mTup (mCons (mTup (mCons (mC (.int 0)) (mCons (mC (.int 1)) mNil))) mNil)) mNil))))))))))))))))))) (gSet 1))
    (sRet (mCall 2 f_law_pick (mCons (mVar 0) (mCons (mVar 1) mNil)))))
noncomputable def f_law_anything : List D → M D := runM 2 b_law_anything
abbrev s_law_ladder : Stmt := topS 50
abbrev n_law_ladder : List Str := ["_law_pen_here", "_law_near", "_law_floors", "_law_turn", "_law_steps", "_law_one"]
theorem sc_law_ladder : FnScope n_law_ladder ["_law_pen_here"] (defScope s_law_ladder) := ⟨rfl, rfl, rfl, by decide +kernel, rfl, by decide +kernel, by decide +kernel⟩
noncomputable def b_law_ladder : MS :=
    (sSeq (sAsg (mCall 2 f_law_pick (mCons (mVar 0) (mCons (mLst (mCons (mC (.int 9)) (mCons (mC (.int 60)) (mCons (mC (.int 1000)) (mCons (mOp dPow (mC (.int 10)) (mC (.int 6))) mNil))))) mNil))) (gSet 1))
    (sSeq (sAsg (fun e m => (mDict [((mC (.int 0)), (mC (.bl true)))] e m).calm) (gSet 2))
    (sSeq (sFor (Mi.iRng1 (mCons (mCall 2 f_law_draw (mCons (mVar 0) (mCons (mC (.int 4)) mNil))) mNil)) (gSet 3) (sAsg (mC (.bl true)) (gItem (mVar 2) (mOp dAdd (mCall 2 f_law_draw (mCons (mVar 0) (mCons (mVar 1) mNil))) (mC (.int 1))))))
    (sSeq (sAsg (mLst (mCons (mC (.int 1)) (mCons (mC (.int 1)) (mCons (mC (.int 2)) (mCons (mC (.int 5)) (mCons (mOp dAdd (mC (.int 1)) (mCall 2 f_law_draw (mCons (mVar 0) (mCons (mC (.int 9)) mNil)))) (mCons (mOp dAdd (mC (.int 1)) (mCall 2 f_law_draw (mCons (mVar 0) (mCons (mOp dPow (mC (.int 10)) (mC (.int 5))) mNil)))) mNil))))))) (gSet 4))
    (sRet (mCB dTuple (mCons (mLc (iSeq (mCB dSorted (mCons (mVar 2) mNil))) (.one 5) mYes (mTup (mCons (mVar 5) (mCons (mCall 2 f_law_pick (mCons (mVar 0) (mCons (mVar 4) mNil))) mNil))) [5]) mNil)))))))
noncomputable def f_law_ladder : List D → M D := runM 6 b_law_ladder
abbrev s_law_lot : Stmt := topS 51
abbrev n_law_lot : List Str := ["_law_pen_here", "_law_reach", "_law_start", "_law_least"]
theorem sc_law_lot : FnScope n_law_lot ["_law_pen_here", "_law_reach"] (defScope s_law_lot) := ⟨rfl, rfl, rfl, by decide +kernel, rfl, by decide +kernel, by decide +kernel⟩
noncomputable def b_law_lot : MS :=
    (sSeq (sAsg (mCall 2 f_law_pick (mCons (mVar 0) (mCons (mLst (mCons (mC (.int 1)) (mCons (mC (.int 5)) (mCons (mOp dAdd (mC (.int 1)) (mCall 2 f_law_draw (mCons (mVar 0) (mCons (mC (.int 100)) mNil)))) (mCons (mOp dAdd (mC (.int 1)) (mCall 2 f_law_draw (mCons (mVar 0) (mCons (mOp dPow (mC (.int 10)) (mC (.int 6))) mNil)))) (mCons (mOp dPow (mC (.int 10)) (mC (.int 6))) mNil)))))) mNil))) (gSet 2))
    (sSeq (sAsg (mOp dAdd (mVar 2) (mCall 2 f_law_pick (mCons (mVar 0) (mCons (mLst (mCons (mC (.int 0)) (mCons (mC (.int 0)) (mCons (mCall 2 f_law_draw (mCons (mVar 0) (mCons (mVar 1) mNil))) mNil)))) mNil)))) (gSet 3))
    (sRet (mTup (mCons (mVar 2) (mCons (mCB dMin2 (mCons (mOp dPow (mC (.int 10)) (mC (.int 6))) (mCons (mVar 3) mNil))) mNil))))))
noncomputable def f_law_lot : List D → M D := runM 4 b_law_lot
abbrev s_law_bids : Stmt := topS 52
abbrev n_law_bids : List Str := ["_law_pen_here", "_law_start", "_law_reach", "_law_bids_here", "_law_buyer", "_law_bound"]
theorem sc_law_bids : FnScope n_law_bids ["_law_pen_here", "_law_start", "_law_reach"] (defScope s_law_bids) := ⟨rfl, rfl, rfl, by decide +kernel, rfl, by decide +kernel, by decide +kernel⟩
noncomputable def b_law_bids : MS :=
    (sSeq (sAsg (mLst mNil) (gSet 3))
    (sSeq (sFor (iSeq (mCut (mCall 2 f_law_mixed (mCons (mVar 0) (mCons (mListRg (mCons (mC (.int 8)) mNil)) mNil))) oNone (oSome (mCall 2 f_law_pick (mCons (mVar 0) (mCons (mLst (mCons (mC (.int 0)) (mCons (mC (.int 1)) (mCons (mC (.int 2)) (mCons (mC (.int 2)) (mCons (mC (.int 3)) (mCons (mC (.int 4)) (mCons (mC (.int 6)) (mCons (mC (.int 8)) mNil))))))))) mNil)))))) (gSet 4) (sSeq (sAsg (mOp dAdd (mOp dSub (mVar 1) (mC (.int 2))) (mCall 2 f_law_draw (mCons (mVar 0) (mCons (mVar 2) mNil)))) (gSet 5))
    (sSeq (sIf (mAnd (mB (mOp dNe (mVar 3) (mLst mNil))) (mB (mOp dEq (mCall 2 f_law_draw (mCons (mVar 0) (mCons (mC (.int 4)) mNil))) (mC (.int 0))))) (sAsg (mOp dSub (mOp dAdd (mOp dIx (mOp dIx (mVar 3) (mUn dNeg (mC (.int 1)))) (mC (.int 1))) (mCall 2 f_law_draw (mCons (mVar 0) (mCons (mC (.int 3)) mNil)))) (mC (.int 1))) (gSet 5)) sNext)
    (sDrop (mMtL dAppend (mVar 3) (mCons (mTup (mCons (mVar 4) (mCons (mCB dMin2 (mCons (mOp dPow (mC (.int 10)) (mC (.int 6))) (mCons (mCB dMax2 (mCons (mC (.int 1)) (mCons (mVar 5) mNil))) mNil))) mNil))) mNil))))))
    (sRet (mCB dTuple (mCons (mVar 3) mNil)))))
noncomputable def f_law_bids : List D → M D := runM 6 b_law_bids
abbrev s_is_ladder : Stmt := topS 16
abbrev n_is_ladder : List Str := ["thing", "floors", "pair", "floor", "step"]
theorem sc_is_ladder : FnScope n_is_ladder ["thing"] (defScope s_is_ladder) := ⟨rfl, rfl, rfl, by decide +kernel, rfl, by decide +kernel, by decide +kernel⟩
noncomputable def b_is_ladder : MS :=
    (sSeq (sIf (mNot (mTru (mCall 3 f_is_tuple_of (mCons (mVar 0) (mCons (mC (.int 1)) (mCons (mC (.int 4)) mNil)))))) (sRet (mC (.bl false))) sNext)
    (sSeq (sIf (mNot (mTru (mCB dAll (mCons (mLc (iSeq (mVar 0)) (.one 2) mYes (mCall 1 f_is_floor_and_step (mCons (mVar 2) mNil)) [2]) mNil)))) (sRet (mC (.bl false))) sNext)
    (sSeq (sAsg (mLc (iSeq (mVar 0)) (.many [3, 4]) mYes (mVar 3) [3, 4]) (gSet 1))
    (sRet (mAndT (mOp dEq (mOp dIx (mVar 1) (mC (.int 0))) (mC (.int 0))) (mCall 1 f_is_rising (mCons (mVar 1) mNil)))))))
noncomputable def f_is_ladder : List D → M D := runM 5 b_is_ladder
abbrev s_is_bid : Stmt := topS 27
abbrev n_is_bid : List Str := ["thing"]
theorem sc_is_bid : FnScope n_is_bid ["thing"] (defScope s_is_bid) := ⟨rfl, rfl, rfl, by decide +kernel, rfl, by decide +kernel, by decide +kernel⟩
noncomputable def b_is_bid : MS :=
    (sSeq (sIf (mNot (mTru (mCall 3 f_is_tuple_of (mCons (mVar 0) (mCons (mC (.int 2)) (mCons (mC (.int 2)) mNil)))))) (sRet (mC (.bl false))) sNext)
    (sRet (mAndT (mCall 1 f_is_buyer (mCons (mOp dIx (mVar 0) (mC (.int 0))) mNil)) (mCall 3 f_is_within (mCons (mOp dIx (mVar 0) (mC (.int 1))) (mCons (mC (.int 1)) (mCons (mC (.int 1000000)) mNil)))))))
noncomputable def f_is_bid : List D → M D := runM 1 b_is_bid
abbrev s_check_lot : Stmt := topS 31
abbrev n_check_lot : List Str := ["thing"]
theorem sc_check_lot : FnScope n_check_lot ["thing"] (defScope s_check_lot) := ⟨rfl, rfl, rfl, by decide +kernel, rfl, by decide +kernel, by decide +kernel⟩
noncomputable def b_check_lot : MS :=
    (sIf (mNot (mTru (mCall 1 f_is_lot (mCons (mVar 0) mNil)))) sNever sNext)
noncomputable def f_check_lot : List D → M D := runM 1 b_check_lot
abbrev s_law_scene : Stmt := topS 53
abbrev n_law_scene : List Str := ["_law_pen_here", "_law_reach", "_law_ladder_here", "_law_lot_here"]
theorem sc_law_scene : FnScope n_law_scene ["_law_pen_here", "_law_reach"] (defScope s_law_scene) := ⟨rfl, rfl, rfl, by decide +kernel, rfl, by decide +kernel, by decide +kernel⟩
noncomputable def b_law_scene : MS :=
    (sSeq (sPar 2 3 (mCons (mCall 1 f_law_ladder (mCons (mVar 0) mNil)) (mCons (mCall 2 f_law_lot (mCons (mVar 0) (mCons (mVar 1) mNil))) mNil)))
    (sRet (mTup (mCons (mVar 2) (mCons (mVar 3) (mCons (mCall 3 f_law_bids (mCons (mVar 0) (mCons (mOp dIx (mVar 3) (mC (.int 0))) (mCons (mVar 1) mNil)))) mNil))))))
noncomputable def f_law_scene : List D → M D := runM 4 b_law_scene
abbrev s_law_other : Stmt := topS 59
abbrev n_law_other : List Str := ["_law_pen_here", "_law_rows_here", "_law_at", "_law_row", "_law_spot", "_law_odd", "_law_more", "_law_things", "_law_turned", "_law_some"]
theorem sc_law_other : FnScope n_law_other ["_law_pen_here", "_law_rows_here"] (defScope s_law_other) := ⟨rfl, rfl, rfl, by decide +kernel, rfl, by decide +kernel, by decide +kernel⟩
noncomputable def b_law_other : MS :=
    (sSeq (sIf (mB (mOp dEq (mVar 1) (mLst mNil))) (sRet (mCall 2 f_law_pick (mCons (mVar 0) (mCons (mLst (mCons (mLst (mCons (mTup mNil) mNil)) (mCons (mTup mNil) (mCons (mC .non) (mCons (mLst (mCons (mTup (mCons (mC (.int 0)) (mCons (mC (.int 0)) (mCons (mC (.int 0)) (mCons (mC .non) mNil))))) mNil)) (mCons (mLst (mCons (mTup (mCons (mC (.int 0)) (mCons (mC (.int 0)) (mCons (mC .non) (mCons (mC .non) mNil))))) mNil)) mNil)))))) mNil)))) sNext)
    (sSeq (sAsg (mCall 2 f_law_draw (mCons (mVar 0) (mCons (mCB dLen (mCons (mVar 1) mNil)) mNil))) (gSet 2))
    (sSeq (sPar 3 4 (mCons (mOp dIx (mVar 1) (mVar 2)) (mCons (mCall 2 f_law_draw (mCons (mVar 0) (mCons (mC (.int 4)) mNil))) mNil)))
    (sSeq (sAsg (mCall 2 f_law_pick (mCons (mVar 0) (mCons (mLst (mCons (mC (.int 0)) (mCons (mC (.int 1)) (mCons (mC (.bl true)) (mCons (mC (.bl false)) (mCons (mC .non) (mCons (mC (.str "0")) (mCons (mOp dPow (mC (.int 10)) (mC (.int 39))) (mCons (mC (.int 7)) (mCons (mC (.int 8)) mNil)))))))))) mNil))) (gSet 5))
    (sSeq (sAsg (mOp dAdd (mOp dAdd (mCut (mVar 3) oNone (oSome (mC (.int 1)))) (mTup (mCons (mOp dAdd (mOp dIx (mVar 3) (mC (.int 1))) (mC (.int 1))) mNil))) (mCut (mVar 3) (oSome (mC (.int 2))) oNone)) (gSet 6))
    (sSeq (sAsg (mLst (mCons (mOp dAdd (mOp dAdd (mCut (mVar 3) oNone (oSome (mVar 4))) (mTup (mCons (mVar 5) mNil))) (mCut (mVar 3) (oSome (mOp dAdd (mVar 4) (mC (.int 1)))) oNone)) (mCons (mVar 6) (mCons (mTup (mCons (mOp dIx (mVar 3) (mC (.int 0))) (mCons (mOp dIx (mVar 3) (mC (.int 1))) (mCons (mOp dIx (mVar 3) (mC (.int 3))) (mCons (mOp dIx (mVar 3) (mC (.int 2))) mNil))))) (mCons (mCB dList (mCons (mVar 3) mNil)) (mCons (mOp dAdd (mVar 3) (mTup (mCons (mC (.int 0)) mNil))) mNil)))))) (gSet 7))
    (sSeq (sAsg (mOp dAdd (mVar 7) (mLst (mCons (mOp dAdd (mTup (mCons (mOp dAdd (mOp dIx (mVar 3) (mC (.int 0))) (mC (.int 1))) mNil)) (mCut (mVar 3) (oSome (mC (.int 1))) oNone)) (mCons (mOp dAdd (mCut (mVar 3) oNone (oSome (mC (.int 3)))) (mTup (mCons (mC .non) mNil))) mNil)))) (gSet 7))
    (sSeq (sAsg (mOp dAdd (mOp dAdd (mCut (mVar 1) oNone (oSome (mVar 2))) (mLst (mCons (mCall 2 f_law_pick (mCons (mVar 0) (mCons (mVar 7) mNil))) mNil))) (mCut (mVar 1) (oSome (mOp dAdd (mVar 2) (mC (.int 1)))) oNone)) (gSet 8))
    (sSeq (sAsg (mLst (mCons (mVar 8) (mCons (mVar 8) (mCons (mVar 8) (mCons (mOp dAdd (mOp dAdd (mCut (mVar 1) oNone (oSome (mVar 2))) (mCall 2 f_law_parted (mCons (mVar 0) (mCons (mVar 3) mNil)))) (mCut (mVar 1) (oSome (mOp dAdd (mVar 2) (mC (.int 1)))) oNone)) (mCons (mOp dAdd (mCut (mVar 1) oNone (oSome (mVar 2))) (mCut (mVar 1) (oSome (mOp dAdd (mVar 2) (mC (.int 1)))) oNone)) mNil)))))) (gSet 9))
    (sSeq (sAsg (mOp dAdd (mVar 9) (mLst (mCons (mOp dAdd (mVar 1) (mCut (mVar 1) (oSome (mUn dNeg (mC (.int 1)))) oNone)) (mCons (mUn dRev2 (mVar 1)) (mCons (mCB dTuple (mCons (mVar 1) mNil)) (mCons (mOp dAdd (mOp dAdd (mCut (mVar 1) oNone (oSome (mVar 2))) (mLst (mCons (mVar 3) (mCons (mVar 3) mNil)))) (mCut (mVar 1) (oSome (mOp dAdd (mVar 2) (mC (.int 1)))) oNone)) mNil)))))) (gSet 9))
    (sRet (mCall 2 f_law_pick (mCons (mVar 0) (mCons (mOp dAdd (mVar 9) (mLst (mCons (mCall 1 f_law_anything (mCons (mVar 0) mNil)) mNil))) mNil))))))))))))))
noncomputable def f_law_other : List D → M D := runM 10 b_law_other
abbrev s_check_ladder : Stmt := topS 20
abbrev n_check_ladder : List Str := ["thing"]
theorem sc_check_ladder : FnScope n_check_ladder ["thing"] (defScope s_check_ladder) := ⟨rfl, rfl, rfl, by decide +kernel, rfl, by decide +kernel, by decide +kernel⟩
noncomputable def b_check_ladder : MS :=
    (sIf (mNot (mTru (mCall 1 f_is_ladder (mCons (mVar 0) mNil)))) sNever sNext)
noncomputable def f_check_ladder : List D → M D := runM 1 b_check_ladder
abbrev s_are_bids : Stmt := topS 26
abbrev n_are_bids : List Str := ["thing", "pair", "buyer", "bound"]
theorem sc_are_bids : FnScope n_are_bids ["thing"] (defScope s_are_bids) := ⟨rfl, rfl, rfl, by decide +kernel, rfl, by decide +kernel, by decide +kernel⟩
noncomputable def b_are_bids : MS :=
    (sSeq (sIf (mNot (mTru (mCall 3 f_is_tuple_of (mCons (mVar 0) (mCons (mC (.int 0)) (mCons (mC (.int 8)) mNil)))))) (sRet (mC (.bl false))) sNext)
    (sSeq (sIf (mNot (mTru (mCB dAll (mCons (mLc (iSeq (mVar 0)) (.one 1) mYes (mCall 1 f_is_bid (mCons (mVar 1) mNil)) [1]) mNil)))) (sRet (mC (.bl false))) sNext)
    (sRet (mOp dEq (mLenSc (iSeq (mVar 0)) (.many [2, 3]) mYes (mVar 2) [2, 3]) (mCB dLen (mCons (mVar 0) mNil))))))
noncomputable def f_are_bids : List D → M D := runM 4 b_are_bids
abbrev s_last_rung : Stmt := topS 18
abbrev n_last_rung : List Str := ["ladder", "start", "bound", "reached", "first", "price", "step", "flight"]
theorem sc_last_rung : FnScope n_last_rung ["ladder", "start", "bound"] (defScope s_last_rung) := ⟨rfl, rfl, rfl, by decide +kernel, rfl, by decide +kernel, by decide +kernel⟩
noncomputable def b_last_rung : MS :=
    (sSeq (sDrop (mCall 1 f_check_ladder (mCons (mVar 0) mNil)))
    (sSeq (sDrop (mCall 3 f_check_price (mCons (mVar 1) (mCons (mC (.int 1)) (mCons (mC (.int 1000000)) mNil)))))
    (sSeq (sDrop (mCall 3 f_check_price (mCons (mVar 2) (mCons (mC (.int 1)) (mCons (mC (.int 1000000)) mNil)))))
    (sSeq (sAsg (mLc (iSeq (mCall 2 f_flights_of (mCons (mVar 0) (mCons (mVar 1) mNil)))) (.one 7) (mB (mOp dLe (mOp dIx (mVar 7) (mC (.int 1))) (mVar 2))) (mVar 7) [7]) (gSet 3))
    (sSeq (sIf (mNot (mTru (mVar 3))) (sRet (mC .non)) sNext)
    (sSeq (sAsg (mOp dIx (mVar 3) (mUn dNeg (mC (.int 1)))) (gTupM 3 (gConsM (gSet 4) (gConsM (gSet 5) (gConsM (gSet 6) gNilM)))))
    (sRet (mOp dAdd (mVar 4) (mOp dDiv (mOp dSub (mVar 2) (mVar 5)) (mVar 6))))))))))
noncomputable def f_last_rung : List D → M D := runM 8 b_last_rung
abbrev s_check_bids : Stmt := topS 32
abbrev n_check_bids : List Str := ["thing"]
theorem sc_check_bids : FnScope n_check_bids ["thing"] (defScope s_check_bids) := ⟨rfl, rfl, rfl, by decide +kernel, rfl, by decide +kernel, by decide +kernel⟩
noncomputable def b_check_bids : MS :=
    (sIf (mNot (mTru (mCall 1 f_are_bids (mCons (mVar 0) mNil)))) sNever sNext)
noncomputable def f_check_bids : List D → M D := runM 1 b_check_bids
abbrev s_check_offer : Stmt := topS 30
abbrev n_check_offer : List Str := ["ladder", "lot", "bids"]
theorem sc_check_offer : FnScope n_check_offer ["ladder", "lot", "bids"] (defScope s_check_offer) := ⟨rfl, rfl, rfl, by decide +kernel, rfl, by decide +kernel, by decide +kernel⟩
noncomputable def b_check_offer : MS :=
    (sSeq (sDrop (mCall 1 f_check_ladder (mCons (mVar 0) mNil)))
    (sSeq (sDrop (mCall 1 f_check_lot (mCons (mVar 1) mNil)))
    (sDrop (mCall 1 f_check_bids (mCons (mVar 2) mNil)))))
noncomputable def f_check_offer : List D → M D := runM 3 b_check_offer
abbrev s_tops_of : Stmt := topS 29
abbrev n_tops_of : List Str := ["ladder", "lot", "bids", "start", "buyer", "bound"]
theorem sc_tops_of : FnScope n_tops_of ["ladder", "lot", "bids"] (defScope s_tops_of) := ⟨rfl, rfl, rfl, by decide +kernel, rfl, by decide +kernel, by decide +kernel⟩
noncomputable def b_tops_of : MS :=
    (sSeq (sDrop (mCall 3 f_check_offer (mCons (mVar 0) (mCons (mVar 1) (mCons (mVar 2) mNil)))))
    (sSeq (sAsg (mOp dIx (mVar 1) (mC (.int 0))) (gSet 3))
    (sRet (mLc (iSeq (mVar 2)) (.many [4, 5]) mYes (mCall 3 f_last_rung (mCons (mVar 0) (mCons (mVar 3) (mCons (mVar 5) mNil)))) [4, 5]))))
noncomputable def f_tops_of : List D → M D := runM 6 b_tops_of
abbrev s_tops_by_buyer : Stmt := topS 35
abbrev n_tops_by_buyer : List Str := ["ladder", "lot", "bids", "tops", "buyer", "bound", "top"]
theorem sc_tops_by_buyer : FnScope n_tops_by_buyer ["ladder", "lot", "bids"] (defScope s_tops_by_buyer) := ⟨rfl, rfl, rfl, by decide +kernel, rfl, by decide +kernel, by decide +kernel⟩
noncomputable def b_tops_by_buyer : MS :=
    (sSeq (sAsg (mCall 3 f_tops_of (mCons (mVar 0) (mCons (mVar 1) (mCons (mVar 2) mNil)))) (gSet 3))
    (sRet (mSeal (mDc (iZipTL (mCons (mVar 2) (mCons (mVar 3) mNil))) (.nest [4, 5] 6) (mB (mOp dNotN (mVar 6) (mC .non))) (mVar 4) (mVar 6) [4, 5, 6]))))
noncomputable def f_tops_by_buyer : List D → M D := runM 7 b_tops_by_buyer
abbrev s_course_of : Stmt := topS 34
abbrev n_course_of : List Str := ["ladder", "lot", "bids", "tops", "course", "rung", "taker", "stretch", "last"]
theorem sc_course_of : FnScope n_course_of ["ladder", "lot", "bids"] (defScope s_course_of) := ⟨rfl, rfl, rfl, by decide +kernel, rfl, by decide +kernel, by decide +kernel⟩
noncomputable def b_course_of : MS :=
    (sSeq (sAsg (mCall 3 f_tops_by_buyer (mCons (mVar 0) (mCons (mVar 1) (mCons (mVar 2) mNil)))) (gSet 3))
    (sSeq (sAsg (mLst mNil) (gSet 4))
    (sSeq (sAsg (mC (.int 0)) (gSet 5))
    (sSeq (sAsg (mCall 3 f_taker_behind (mCons (mVar 3) (mCons (mVar 5) (mCons (mC .non) mNil)))) (gSet 6))
    (sSeq (sWhile (mB (mOp dNotN (mVar 6) (mC .non))) (sSeq (sAsg (mCall 3 f_stretch_from (mCons (mVar 3) (mCons (mVar 5) (mCons (mVar 6) mNil)))) (gSet 7))
    (sSeq (sDrop (mMtL dAppend (mVar 4) (mCons (mVar 7) mNil)))
    (sSeq (sAsg (mOp dIx (mVar 7) (mC (.int 1))) (gSet 8))
    (sSeq (sAsg (mOp dAdd (mVar 8) (mC (.int 1))) (gSet 5))
    (sAsg (mCall 3 f_taker_behind (mCons (mVar 3) (mCons (mVar 5) (mCons (mCall 2 f_taker_in (mCons (mVar 7) (mCons (mVar 8) mNil))) mNil)))) (gSet 6)))))) 1000000)
    (sRet (mVar 4)))))))
noncomputable def f_course_of : List D → M D := runM 9 b_course_of
abbrev s_is_course : Stmt := topS 40
abbrev n_is_course : List Str := ["ladder", "lot", "bids", "thing", "course", "told", "stretch"]
theorem sc_is_course : FnScope n_is_course ["ladder", "lot", "bids", "thing"] (defScope s_is_course) := ⟨rfl, rfl, rfl, by decide +kernel, rfl, by decide +kernel, by decide +kernel⟩
noncomputable def b_is_course : MS :=
    (sSeq (sAsg (mCall 3 f_course_of (mCons (mVar 0) (mCons (mVar 1) (mCons (mVar 2) mNil)))) (gSet 4))
    (sSeq (sIf (mOr (mNot (mTru (mIsi ["list"] (mVar 3)))) (mB (mOp dNe (mCB dLen (mCons (mVar 3) mNil)) (mCB dLen (mCons (mVar 4) mNil))))) (sRet (mC (.bl false))) sNext)
    (sRet (mCB dAll (mCons (mLc (iZipM (mCons (mVar 3) (mCons (mVar 4) mNil))) (.many [5, 6]) mYes (mCall 2 f_is_stretch (mCons (mVar 5) (mCons (mVar 6) mNil))) [5, 6]) mNil)))))
noncomputable def f_is_course : List D → M D := runM 7 b_is_course
abbrev s_law : Stmt := topS 60
abbrev n_law : List Str := ["_law_script", "_law_cell_here", "_law_pen_here", "_law_ladder_here", "_law_lot_here", "_law_bids_here", "_law_rows_here", "_law_thing", "_law_kept", "_law_told", "_law_turn"]
theorem sc_law : FnScope n_law ["_law_script"] (defScope s_law) := ⟨rfl, rfl, rfl, by decide +kernel, rfl, by decide +kernel, by decide +kernel⟩
noncomputable def b_law : MS :=
    (sSeq (sFor (iSeq (mOp dAdd (mLst (mCons (mCall 2 f_law_cell (mCons (mVar 0) (mCons (mC (.int 0)) mNil))) mNil)) (mCut (mVar 0) (oSome (mC (.int 1))) (oSome (mC (.int 4)))))) (gSet 1) (sSeq (sAsg (mCall 1 f_law_pen (mCons (mVar 1) mNil)) (gSet 2))
    (sSeq (sAsg (mCall 2 f_law_scene (mCons (mVar 2) (mCons (mCall 2 f_law_pick (mCons (mVar 2) (mCons (mLst (mCons (mC (.int 9)) (mCons (mC (.int 40)) (mCons (mOp dPow (mC (.int 10)) (mC (.int 6))) mNil)))) mNil))) mNil))) (gTupM 3 (gConsM (gSet 3) (gConsM (gSet 4) (gConsM (gSet 5) gNilM)))))
    (sSeq (sAsg (mCall 1 f_law_rows (mCons (mCall 3 f_law_runners (mCons (mVar 3) (mCons (mVar 4) (mCons (mVar 5) mNil)))) mNil)) (gSet 6))
    (sFor (iSeq (mOp dAdd (mLst (mCons (mVar 6) mNil)) (mLc (Mi.iRng1 (mCons (mC (.int 8)) mNil)) (.one 10) mYes (mCall 2 f_law_other (mCons (mVar 2) (mCons (mVar 6) mNil))) [10]))) (gSet 7) (sSeq (sAsg (mCB dReprX (mCons (mVar 7) mNil)) (gSet 8))
    (sSeq (sAsg (mCall 4 f_is_course (mCons (mVar 3) (mCons (mVar 4) (mCons (mVar 5) (mCons (mVar 7) mNil))))) (gSet 9))
    (sIf (mOr (mNot (mTru (mCall 2 (f_law_same 4) (mCons (mVar 9) (mCons (mOp dEq (mVar 8) (mCB dReprX (mCons (mVar 6) mNil))) mNil))))) (mB (mOp dNe (mCB dReprX (mCons (mVar 7) mNil)) (mVar 8)))) (sRet (mC (.bl false))) sNext))))))))
    (sRet (mC (.bl true))))
noncomputable def f_law : List D → M D := runM 11 b_law
section
variable {P : Program} {w : World} {K : PySem.W.Frag} {mg : Str → Option Value} {base : Heap}
theorem cal_is_number (T : Top K mg) {f : Addr} {fd : FuncData} (F : Fun K "is_number" "is_number" s_is_number f fd) (hm : mg "is_number" = some (.ref f)) : Cal P w K mg base 1 "is_number" 1 f_is_number := by
  have hB : Binds K fd ["thing"] [] := F.binds fun _ _ _ _ _ _ us hl => match us, hl with | [_], _ => rfl
  show Cal P w K mg base (0 + 1) "is_number" 1 (runM n_is_number.length b_is_number)
  refine cal_of (k := 0) (b := b_is_number) F sc_is_number hm hB rfl ?_
  intro cdv A outer s H E hr
  have hu := hu_of hr
  have hu64 := hr.units
  have tk := takes_of (X := cxOf (L2.CX P w) P w K mg base n_is_number "is_number" (defScope s_is_number) f cdv A outer s H E) rfl rfl rfl rfl
  have po := passes_of (X := cxOf (L2.CX P w) P w K mg base n_is_number "is_number" (defScope s_is_number) f cdv A outer s H E) rfl
  exact (sb_one (ss_ret (so_andT (so_isi (so_var (pv 0)) rfl T.z_isinstance rfl T.z_int (by decide +kernel) (by decide) (by decide) (by decide)) (so_one (so_notT (so_isi (so_var (pv 0)) rfl T.z_isinstance rfl T.z_bool (by decide +kernel) (by decide) (by decide) (by decide)))))))
theorem cal_is_tuple_of (T : Top K mg) {f : Addr} {fd : FuncData} (F : Fun K "is_tuple_of" "is_tuple_of" s_is_tuple_of f fd) (hm : mg "is_tuple_of" = some (.ref f)) : Cal P w K mg base 1 "is_tuple_of" 3 f_is_tuple_of := by
  have hB : Binds K fd ["thing", "fewest", "most"] [] := F.binds fun _ _ _ _ _ _ us hl => match us, hl with | [_, _, _], _ => rfl
  show Cal P w K mg base (0 + 1) "is_tuple_of" 3 (runM n_is_tuple_of.length b_is_tuple_of)
  refine cal_of (k := 0) (b := b_is_tuple_of) F sc_is_tuple_of hm hB rfl ?_
  intro cdv A outer s H E hr
  have hu := hu_of hr
  have hu64 := hr.units
  have tk := takes_of (X := cxOf (L2.CX P w) P w K mg base n_is_tuple_of "is_tuple_of" (defScope s_is_tuple_of) f cdv A outer s H E) rfl rfl rfl rfl
  have po := passes_of (X := cxOf (L2.CX P w) P w K mg base n_is_tuple_of "is_tuple_of" (defScope s_is_tuple_of) f cdv A outer s H E) rfl
  exact (sb_one (ss_ret (so_andT (so_isi (so_var (pv 0)) rfl T.z_isinstance rfl T.z_tuple (by decide +kernel) (by decide) (by decide) (by decide)) (so_one (so_chain od_le od_le (so_var (pv 1)) (so_blt cd_len rfl T.z_len (by decide +kernel) (sa_cons (so_var (pv 0)) sa_nil)) (so_var (pv 2)))))))
theorem cal_is_rising (T : Top K mg) {f : Addr} {fd : FuncData} (F : Fun K "is_rising" "is_rising" s_is_rising f fd) (hm : mg "is_rising" = some (.ref f)) : Cal P w K mg base 1 "is_rising" 1 f_is_rising := by
  have hB : Binds K fd ["things"] [] := F.binds fun _ _ _ _ _ _ us hl => match us, hl with | [_], _ => rfl
  show Cal P w K mg base (0 + 1) "is_rising" 1 (runM n_is_rising.length b_is_rising)
  refine cal_of (k := 0) (b := b_is_rising) F sc_is_rising hm hB rfl ?_
  intro cdv A outer s H E hr
  have hu := hu_of hr
  have hu64 := hr.units
  have tk := takes_of (X := cxOf (L2.CX P w) P w K mg base n_is_rising "is_rising" (defScope s_is_rising) f cdv A outer s H E) rfl rfl rfl rfl
  have po := passes_of (X := cxOf (L2.CX P w) P w K mg base n_is_rising "is_rising" (defScope s_is_rising) f cdv A outer s H E) rfl
  exact (sb_one (ss_ret (so_blt (cd_all rfl) rfl T.z_all (by decide +kernel) (sa_cons (so_lc (own := [("ahead", 1), ("behind", 2)]) (pt := (.many [1, 2])) rfl sc_is_rising.nd (si_zip rfl T.z_zip (sa_cons (so_var (pv 0)) (sa_cons (so_cut (so_var (pv 0)) (so_yes so_int) so_no) sa_nil))) (blkOk_by (own := [("ahead", 1), ("behind", 2)]) (N := n_is_rising) (sc := defScope s_is_rising) (by decide +kernel)) (fun _ _ _ _ _ => (pg_tup rfl (pgs_cons (pg_name (i := 1) sc_is_rising.nd rfl (Or.inl rfl)) (pgs_cons (pg_name (i := 2) sc_is_rising.nd rfl (Or.inl rfl)) pgs_nil)))) (fun _ _ _ _ _ => pts_none) (fun _ _ _ _ _ => (so_cmp od_lt (so_var (pv 1)) (so_var (pv 2)) (nomark _)))) sa_nil))))
theorem cal_flights_of (T : Top K mg) {f : Addr} {fd : FuncData} (F : Fun K "flights_of" "flights_of" s_flights_of f fd) (hm : mg "flights_of" = some (.ref f)) : Cal P w K mg base 1 "flights_of" 2 f_flights_of := by
  have hB : Binds K fd ["ladder", "start"] [] := F.binds fun _ _ _ _ _ _ us hl => match us, hl with | [_, _], _ => rfl
  show Cal P w K mg base (0 + 1) "flights_of" 2 (runM n_flights_of.length b_flights_of)
  refine cal_of (k := 0) (b := b_flights_of) F sc_flights_of hm hB rfl ?_
  intro cdv A outer s H E hr
  have hu := hu_of hr
  have hu64 := hr.units
  have tk := takes_of (X := cxOf (L2.CX P w) P w K mg base n_flights_of "flights_of" (defScope s_flights_of) f cdv A outer s H E) rfl rfl rfl rfl
  have po := passes_of (X := cxOf (L2.CX P w) P w K mg base n_flights_of "flights_of" (defScope s_flights_of) f cdv A outer s H E) rfl
  exact (sb_cons (ss_set (ps_set (i := 2) sc_flights_of.nd rfl (Or.inl rfl) so_int))
    (sb_cons (ss_set (ps_set (i := 3) sc_flights_of.nd rfl (Or.inl rfl) (so_var (pv 1))))
    (sb_cons (ss_set (ps_set (i := 4) sc_flights_of.nd rfl (Or.inl rfl) (so_ix xd_ix (so_ix xd_ix (so_var (pv 0)) so_int (fun _ _ => rfl)) so_int (fun _ _ => rfl))))
    (sb_cons (ss_set (ps_set (i := 5) sc_flights_of.nd rfl (Or.inl rfl) (so_lst sa_nil)))
    (sb_cons (ss_forx po rfl (si_seq (so_var (pv 0))) (sg_tup rfl (sgs_cons (W := fun c d _ H => E c d H) (sg_name (pg_name (i := 6) sc_flights_of.nd rfl (Or.inl rfl))) (sgs_cons (W := fun c d _ H => E c d H) (sg_name (pg_name (i := 7) sc_flights_of.nd rfl (Or.inl rfl))) sgs_nil))) (sb_cons (ss_if (st_cmp od_lt (so_var (pv 3)) (so_var (pv 6)) (nomark _)) (sb_cons (ss_set (ps_set (i := 8) sc_flights_of.nd rfl (Or.inl rfl) (so_op od_div (so_op od_sub (so_op od_add (so_op od_sub (so_var (pv 6)) (so_var (pv 3))) (so_var (pv 4))) so_int) (so_var (pv 4)))))
    (sb_cons (ss_aug (ps_aug (i := 2) sc_flights_of.nd rfl (Or.inl rfl) (so_var (pv 8)) ip_addD))
    (sb_one (ss_aug (ps_aug (i := 3) sc_flights_of.nd rfl (Or.inl rfl) (so_op od_mul (so_var (pv 8)) (so_var (pv 4))) ip_addD))))) sb_nil)
    (sb_cons (ss_drop (so_mtL PySem.F.slot_list_append PySem.F.type_list_append td_append (so_var (pv 5)) (sa_cons (so_tup (sa_cons (so_var (pv 2)) (sa_cons (so_var (pv 3)) (sa_cons (so_var (pv 7)) sa_nil)))) sa_nil) (pe_bm PySem.F.plainAttrs_list PySem.F.slot_list_append PySem.F.type_list_append td_append (so_var (pv 5)) (sa_cons (so_tup (sa_cons (so_var (pv 2)) (sa_cons (so_var (pv 3)) (sa_cons (so_var (pv 7)) sa_nil)))) sa_nil))))
    (sb_one (ss_set (ps_set (i := 4) sc_flights_of.nd rfl (Or.inl rfl) (so_var (pv 7))))))))
    (sb_one (ss_ret (so_var (pv 5)))))))))
theorem cal_taker_behind (T : Top K mg) {f : Addr} {fd : FuncData} (F : Fun K "taker_behind" "taker_behind" s_taker_behind f fd) (hm : mg "taker_behind" = some (.ref f)) : Cal P w K mg base 1 "taker_behind" 3 f_taker_behind := by
  have hB : Binds K fd ["tops", "rung", "ahead"] [] := F.binds fun _ _ _ _ _ _ us hl => match us, hl with | [_, _, _], _ => rfl
  show Cal P w K mg base (0 + 1) "taker_behind" 3 (runM n_taker_behind.length b_taker_behind)
  refine cal_of (k := 0) (b := b_taker_behind) F sc_taker_behind hm hB rfl ?_
  intro cdv A outer s H E hr
  have hu := hu_of hr
  have hu64 := hr.units
  have tk := takes_of (X := cxOf (L2.CX P w) P w K mg base n_taker_behind "taker_behind" (defScope s_taker_behind) f cdv A outer s H E) rfl rfl rfl rfl
  have po := passes_of (X := cxOf (L2.CX P w) P w K mg base n_taker_behind "taker_behind" (defScope s_taker_behind) f cdv A outer s H E) rfl
  exact (sb_cons (ss_forx po rfl (si_keys (so_seal (so_var (pv 0)))) (sg_name (pg_name (i := 3) sc_taker_behind.nd rfl (Or.inl rfl))) (sb_one (ss_if (SW.st (sw_and (st_cmp od_ge (so_dget hu (so_var (pv 0)) (so_var (pv 3)) (fun _ _ => rfl)) (so_var (pv 1)) (nomark _)) (sw_and1 (st_cmp (od_ne hu64) (so_var (pv 3)) (so_var (pv 2)) (nomark _))))) (sb_one (ss_ret (so_var (pv 3)))) sb_nil)))
    (sb_one (ss_ret so_non)))
theorem cal_turn_missed (T : Top K mg) {f : Addr} {fd : FuncData} (F : Fun K "turn_missed" "turn_missed" s_turn_missed f fd) (hm : mg "turn_missed" = some (.ref f)) : Cal P w K mg base 1 "turn_missed" 2 f_turn_missed := by
  have hB : Binds K fd ["turn", "top"] [] := F.binds fun _ _ _ _ _ _ us hl => match us, hl with | [_, _], _ => rfl
  show Cal P w K mg base (0 + 1) "turn_missed" 2 (runM n_turn_missed.length b_turn_missed)
  refine cal_of (k := 0) (b := b_turn_missed) F sc_turn_missed hm hB rfl ?_
  intro cdv A outer s H E hr
  have hu := hu_of hr
  have hu64 := hr.units
  have tk := takes_of (X := cxOf (L2.CX P w) P w K mg base n_turn_missed "turn_missed" (defScope s_turn_missed) f cdv A outer s H E) rfl rfl rfl rfl
  have po := passes_of (X := cxOf (L2.CX P w) P w K mg base n_turn_missed "turn_missed" (defScope s_turn_missed) f cdv A outer s H E) rfl
  exact (sb_one (ss_ret (so_op od_add (so_var (pv 0)) (so_op od_mul (so_op od_add (so_op od_div (so_op od_sub (so_var (pv 1)) (so_var (pv 0))) so_int) so_int) so_int))))
theorem cal_taker_in (T : Top K mg) {f : Addr} {fd : FuncData} (F : Fun K "taker_in" "taker_in" s_taker_in f fd) (hm : mg "taker_in" = some (.ref f)) : Cal P w K mg base 1 "taker_in" 2 f_taker_in := by
  have hB : Binds K fd ["stretch", "rung"] [] := F.binds fun _ _ _ _ _ _ us hl => match us, hl with | [_, _], _ => rfl
  show Cal P w K mg base (0 + 1) "taker_in" 2 (runM n_taker_in.length b_taker_in)
  refine cal_of (k := 0) (b := b_taker_in) F sc_taker_in hm hB rfl ?_
  intro cdv A outer s H E hr
  have hu := hu_of hr
  have hu64 := hr.units
  have tk := takes_of (X := cxOf (L2.CX P w) P w K mg base n_taker_in "taker_in" (defScope s_taker_in) f cdv A outer s H E) rfl rfl rfl rfl
  have po := passes_of (X := cxOf (L2.CX P w) P w K mg base n_taker_in "taker_in" (defScope s_taker_in) f cdv A outer s H E) rfl
  exact (sb_cons (ss_asg (so_var (pv 0)) (sg_tup rfl (sgs_cons (W := fun c d _ H => E c d H) (sg_name (pg_name (i := 2) sc_taker_in.nd rfl (Or.inl rfl))) (sgs_cons (W := fun c d _ H => E c d H) (sg_name (pg_name (i := 3) sc_taker_in.nd rfl (Or.inl rfl))) (sgs_cons (W := fun c d _ H => E c d H) (sg_name (pg_name (i := 4) sc_taker_in.nd rfl (Or.inl rfl))) (sgs_cons (W := fun c d _ H => E c d H) (sg_name (pg_name (i := 5) sc_taker_in.nd rfl (Or.inl rfl))) sgs_nil))))))
    (sb_one (ss_ret (so_ifE (st_cmp (od_eq hu64) (so_op od_mod (so_op od_sub (so_var (pv 1)) (so_var (pv 2))) so_int) so_int (nomark _)) (so_var (pv 4)) (so_var (pv 5))))))
theorem cal_law_cell (T : Top K mg) {f : Addr} {fd : FuncData} (F : Fun K "_law_cell" "_law_cell" s_law_cell f fd) (hm : mg "_law_cell" = some (.ref f)) : Cal P w K mg base 1 "_law_cell" 2 f_law_cell := by
  have hB : Binds K fd ["_law_script", "_law_k"] [] := F.binds fun _ _ _ _ _ _ us hl => match us, hl with | [_, _], _ => rfl
  show Cal P w K mg base (0 + 1) "_law_cell" 2 (runM n_law_cell.length b_law_cell)
  refine cal_of (k := 0) (b := b_law_cell) F sc_law_cell hm hB rfl ?_
  intro cdv A outer s H E hr
  have hu := hu_of hr
  have hu64 := hr.units
  have tk := takes_of (X := cxOf (L2.CX P w) P w K mg base n_law_cell "_law_cell" (defScope s_law_cell) f cdv A outer s H E) rfl rfl rfl rfl
  have po := passes_of (X := cxOf (L2.CX P w) P w K mg base n_law_cell "_law_cell" (defScope s_law_cell) f cdv A outer s H E) rfl
  exact (sb_cons (ss_if (st_cmp od_lt (so_var (pv 1)) (so_blt cd_len rfl T.z_len (by decide +kernel) (sa_cons (so_var (pv 0)) sa_nil)) (nomark _)) (sb_one (ss_ret (so_ix xd_ix (so_var (pv 0)) (so_var (pv 1)) (fun _ _ => rfl)))) sb_nil)
    (sb_one (ss_ret so_int)))
theorem cal_law_pen (T : Top K mg) {f : Addr} {fd : FuncData} (F : Fun K "_law_pen" "_law_pen" s_law_pen f fd) (hm : mg "_law_pen" = some (.ref f)) : Cal P w K mg base 1 "_law_pen" 1 f_law_pen := by
  have hB : Binds K fd ["_law_cell_here"] [] := F.binds fun _ _ _ _ _ _ us hl => match us, hl with | [_], _ => rfl
  show Cal P w K mg base (0 + 1) "_law_pen" 1 (runM n_law_pen.length b_law_pen)
  refine cal_of (k := 0) (b := b_law_pen) F sc_law_pen hm hB rfl ?_
  intro cdv A outer s H E hr
  have hu := hu_of hr
  have hu64 := hr.units
  have tk := takes_of (X := cxOf (L2.CX P w) P w K mg base n_law_pen "_law_pen" (defScope s_law_pen) f cdv A outer s H E) rfl rfl rfl rfl
  have po := passes_of (X := cxOf (L2.CX P w) P w K mg base n_law_pen "_law_pen" (defScope s_law_pen) f cdv A outer s H E) rfl
  exact (sb_one (ss_ret (so_lst (sa_cons (so_var (pv 0)) (sa_cons (so_ty cd_int rfl T.z_int (by decide +kernel) (sa_cons (so_cmp od_ge (so_var (pv 0)) (so_op od_pow so_int so_int) (nomark _)) sa_nil)) sa_nil)))))
theorem cal_law_draw (T : Top K mg) {f : Addr} {fd : FuncData} (F : Fun K "_law_draw" "_law_draw" s_law_draw f fd) (hm : mg "_law_draw" = some (.ref f)) : Cal P w K mg base 1 "_law_draw" 2 f_law_draw := by
  have hB : Binds K fd ["_law_pen_here", "_law_many"] [] := F.binds fun _ _ _ _ _ _ us hl => match us, hl with | [_, _], _ => rfl
  show Cal P w K mg base (0 + 1) "_law_draw" 2 (runM n_law_draw.length b_law_draw)
  refine cal_of (k := 0) (b := b_law_draw) F sc_law_draw hm hB rfl ?_
  intro cdv A outer s H E hr
  have hu := hu_of hr
  have hu64 := hr.units
  have tk := takes_of (X := cxOf (L2.CX P w) P w K mg base n_law_draw "_law_draw" (defScope s_law_draw) f cdv A outer s H E) rfl rfl rfl rfl
  have po := passes_of (X := cxOf (L2.CX P w) P w K mg base n_law_draw "_law_draw" (defScope s_law_draw) f cdv A outer s H E) rfl
  exact (sb_cons (ss_if (st_cmp (od_eq hu64) (so_ix xd_ix (so_var (pv 0)) so_int (fun _ _ => rfl)) so_int (nomark _)) (sb_cons (ss_set (ps_set (i := 2) sc_law_draw.nd rfl (Or.inl rfl) (so_op od_mod (so_ix xd_ix (so_var (pv 0)) so_int (fun _ _ => rfl)) (so_var (pv 1)))))
    (sb_cons (ss_asg (so_op od_div (so_ix xd_ix (so_var (pv 0)) so_int (fun _ _ => rfl)) (so_var (pv 1))) (sg_item hu (so_var (pv 0)) so_int (pg_sub (so_var (pv 0)) so_int (ps_setItem hu))))
    (sb_one (ss_ret (so_var (pv 2)))))) sb_nil)
    (sb_cons (ss_asg (so_op od_mod (so_op od_add (so_op od_mul (so_op od_mod (so_ix xd_ix (so_var (pv 0)) so_int (fun _ _ => rfl)) so_int) so_int) so_int) so_int) (sg_item hu (so_var (pv 0)) so_int (pg_sub (so_var (pv 0)) so_int (ps_setItem hu))))
    (sb_one (ss_ret (so_op od_mod (so_op od_div (so_op od_mod (so_op od_add (so_op od_mul (so_ix xd_ix (so_var (pv 0)) so_int (fun _ _ => rfl)) (so_ix xd_ix (so_var (pv 0)) so_int (fun _ _ => rfl))) (so_op od_mul so_int (so_ix xd_ix (so_var (pv 0)) so_int (fun _ _ => rfl)))) so_int) so_int) (so_var (pv 1)))))))
theorem cal_law_same (T : Top K mg) {f : Addr} {fd : FuncData} (F : Fun K "_law_same" "_law_same" s_law_same f fd) (hm : mg "_law_same" = some (.ref f)) : ∀ j, Cal P w K mg base (1 + j) "_law_same" 2 (f_law_same j) := by
  have hB : Binds K fd ["_law_told", "_law_due"] [] := F.binds fun _ _ _ _ _ _ us hl => match us, hl with | [_, _], _ => rfl
  intro j
  induction j with
  | zero => exact cal_bad (ps := ["_law_told", "_law_due"]) F hm hB
  | succ j cr =>
  show Cal P w K mg base ((1 + j) + 1) "_law_same" 2 (runM n_law_same.length (b_law_same (f_law_same j)))
  refine cal_of (k := 1 + j) (b := b_law_same (f_law_same j)) F sc_law_same hm hB rfl ?_
  intro cdv A outer s H E hr
  have hu := hu_of hr
  have hu64 := hr.units
  have tk := takes_of (X := cxOf (L2.CX P w) P w K mg base n_law_same "_law_same" (defScope s_law_same) f cdv A outer s H E) rfl rfl rfl rfl
  have po := passes_of (X := cxOf (L2.CX P w) P w K mg base n_law_same "_law_same" (defScope s_law_same) f cdv A outer s H E) rfl
  exact (sb_cons (ss_if (st_tru (so_isi2 (so_var (pv 1)) rfl T.z_isinstance rfl T.z_list (by decide +kernel) (by decide) (by decide) (by decide) rfl T.z_tuple (by decide +kernel) (by decide) (by decide) (by decide))) (sb_cons (ss_if (SW.st (sw_or (st_not (st_tru (so_isi2 (so_var (pv 0)) rfl T.z_isinstance rfl T.z_list (by decide +kernel) (by decide) (by decide) (by decide) rfl T.z_tuple (by decide +kernel) (by decide) (by decide) (by decide)))) (sw_or1 (st_cmp (od_ne hu64) (so_isi (so_var (pv 0)) rfl T.z_isinstance rfl T.z_list (by decide +kernel) (by decide) (by decide) (by decide)) (so_isi (so_var (pv 1)) rfl T.z_isinstance rfl T.z_list (by decide +kernel) (by decide) (by decide) (by decide)) (nomark _))))) (sb_one (ss_ret so_bl)) sb_nil)
    (sb_cons (ss_if (st_cmp (od_ne hu64) (so_blt cd_len rfl T.z_len (by decide +kernel) (sa_cons (so_var (pv 0)) sa_nil)) (so_blt cd_len rfl T.z_len (by decide +kernel) (sa_cons (so_var (pv 1)) sa_nil)) (nomark _)) (sb_one (ss_ret so_bl)) sb_nil)
    (sb_one (ss_ret (so_blt (cd_all rfl) rfl T.z_all (by decide +kernel) (sa_cons (so_lc (own := [("_law_one", 2), ("_law_other_here", 3)]) (pt := (.many [2, 3])) rfl sc_law_same.nd (si_zip rfl T.z_zip (sa_cons (so_var (pv 0)) (sa_cons (so_var (pv 1)) sa_nil))) (blkOk_by (own := [("_law_one", 2), ("_law_other_here", 3)]) (N := n_law_same) (sc := defScope s_law_same) (by decide +kernel)) (fun _ _ _ _ _ => (pg_tup rfl (pgs_cons (pg_name (i := 2) sc_law_same.nd rfl (Or.inl rfl)) (pgs_cons (pg_name (i := 3) sc_law_same.nd rfl (Or.inl rfl)) pgs_nil)))) (fun _ _ _ _ _ => pts_none) (fun _ _ _ _ _ => (so_fun cr takes0 hr (by omega) rfl (sa_cons (so_var (pv 2)) (sa_cons (so_var (pv 3)) sa_nil))))) sa_nil)))))) sb_nil)
    (sb_one (ss_ret (so_andT (so_cmp (od_eq hu64) (so_isi (so_var (pv 0)) rfl T.z_isinstance rfl T.z_bool (by decide +kernel) (by decide) (by decide) (by decide)) (so_isi (so_var (pv 1)) rfl T.z_isinstance rfl T.z_bool (by decide +kernel) (by decide) (by decide) (by decide)) (nomark _)) (so_one (so_cmp (od_eq hu64) (so_var (pv 0)) (so_var (pv 1)) (nomark _)))))))
theorem cal_law_top (T : Top K mg) {f : Addr} {fd : FuncData} (F : Fun K "_law_top" "_law_top" s_law_top f fd) (hm : mg "_law_top" = some (.ref f)) : Cal P w K mg base 1 "_law_top" 3 f_law_top := by
  have hB : Binds K fd ["_law_ladder_here", "_law_start", "_law_bound"] [] := F.binds fun _ _ _ _ _ _ us hl => match us, hl with | [_, _, _], _ => rfl
  show Cal P w K mg base (0 + 1) "_law_top" 3 (runM n_law_top.length b_law_top)
  refine cal_of (k := 0) (b := b_law_top) F sc_law_top hm hB rfl ?_
  intro cdv A outer s H E hr
  have hu := hu_of hr
  have hu64 := hr.units
  have tk := takes_of (X := cxOf (L2.CX P w) P w K mg base n_law_top "_law_top" (defScope s_law_top) f cdv A outer s H E) rfl rfl rfl rfl
  have po := passes_of (X := cxOf (L2.CX P w) P w K mg base n_law_top "_law_top" (defScope s_law_top) f cdv A outer s H E) rfl
  exact (sb_cons (ss_if (st_cmp od_gt (so_var (pv 1)) (so_var (pv 2)) (nomark _)) (sb_one (ss_ret so_non)) sb_nil)
    (sb_cons (ss_par (ps_par (i := 3) (j := 4) rfl sc_law_top.nd rfl rfl (by decide) rfl rfl (sa_cons (so_var (pv 1)) (sa_cons so_int sa_nil)) (by rfl)))
    (sb_cons (ss_forx po rfl (si_enum rfl T.z_enumerate (sa_cons (so_var (pv 0)) sa_nil)) (sg_tup rfl (sgs_cons (W := fun c d _ H => E c d H) (sg_name (pg_name (i := 5) sc_law_top.nd rfl (Or.inl rfl))) (sgs_cons (W := fun c d _ H => E c d H) (sg_tup rfl (sgs_cons (W := fun c d _ H => E c d H) (sg_name (pg_name (i := 6) sc_law_top.nd rfl (Or.inl rfl))) (sgs_cons (W := fun c d _ H => E c d H) (sg_name (pg_name (i := 7) sc_law_top.nd rfl (Or.inl rfl))) sgs_nil))) sgs_nil))) (sb_cons (ss_set (ps_set (i := 8) sc_law_top.nd rfl (Or.inl rfl) (so_ifE (st_cmp (od_eq hu64) (so_op od_add (so_var (pv 5)) so_int) (so_blt cd_len rfl T.z_len (by decide +kernel) (sa_cons (so_var (pv 0)) sa_nil)) (nomark _)) (so_var (pv 2)) (so_blt (cd_min2 rfl) rfl T.z_min (by decide +kernel) (sa_cons (so_var (pv 2)) (sa_cons (so_op od_sub (so_ix xd_ix (so_ix xd_ix (so_var (pv 0)) (so_op od_add (so_var (pv 5)) so_int) (fun _ _ => rfl)) so_int (fun _ _ => rfl)) so_int) sa_nil))))))
    (sb_one (ss_if (st_cmp od_le (so_var (pv 3)) (so_var (pv 8)) (nomark _)) (sb_cons (ss_set (ps_set (i := 9) sc_law_top.nd rfl (Or.inl rfl) (so_op od_add (so_op od_div (so_op od_sub (so_var (pv 8)) (so_var (pv 3))) (so_var (pv 7))) so_int)))
    (sb_one (ss_par (ps_par (i := 3) (j := 4) rfl sc_law_top.nd rfl rfl (by decide) rfl rfl (sa_cons (so_op od_add (so_var (pv 3)) (so_op od_mul (so_var (pv 9)) (so_var (pv 7)))) (sa_cons (so_op od_add (so_var (pv 4)) (so_var (pv 9))) sa_nil)) (by rfl))))) sb_nil))))
    (sb_one (ss_ret (so_op od_sub (so_var (pv 4)) so_int))))))
theorem cal_law_next (T : Top K mg) {f : Addr} {fd : FuncData} (F : Fun K "_law_next" "_law_next" s_law_next f fd) (hm : mg "_law_next" = some (.ref f)) : Cal P w K mg base 1 "_law_next" 3 f_law_next := by
  have hB : Binds K fd ["_law_runners_here", "_law_rung", "_law_holder"] [] := F.binds fun _ _ _ _ _ _ us hl => match us, hl with | [_, _, _], _ => rfl
  show Cal P w K mg base (0 + 1) "_law_next" 3 (runM n_law_next.length b_law_next)
  refine cal_of (k := 0) (b := b_law_next) F sc_law_next hm hB rfl ?_
  intro cdv A outer s H E hr
  have hu := hu_of hr
  have hu64 := hr.units
  have tk := takes_of (X := cxOf (L2.CX P w) P w K mg base n_law_next "_law_next" (defScope s_law_next) f cdv A outer s H E) rfl rfl rfl rfl
  have po := passes_of (X := cxOf (L2.CX P w) P w K mg base n_law_next "_law_next" (defScope s_law_next) f cdv A outer s H E) rfl
  exact (sb_cons (ss_setLc (i := 3) (own := [("_law_one", 4)]) (pt := (.one 4)) rfl sc_law_next.nd rfl rfl (sw_true rfl rfl rfl (by decide +kernel)) (si_seq (so_var (pv 0))) (blkOk_by (own := [("_law_one", 4)]) (N := n_law_next) (sc := defScope s_law_next) (by decide +kernel)) (fun _ _ _ _ _ => (pg_name (i := 4) sc_law_next.nd rfl (Or.inl rfl))) (fun _ _ _ _ _ => (pts_some (SW.st (sw_and (st_cmp od_ge (so_ix xd_ix (so_var (pv 4)) so_int (fun _ _ => rfl)) (so_var (pv 1)) (nomark _)) (sw_and1 (st_cmp (od_ne hu64) (so_ix xd_ix (so_var (pv 4)) so_int (fun _ _ => rfl)) (so_var (pv 2)) (nomark _))))))) (fun _ _ _ _ _ => (so_var (pv 4))))
    (sb_one (ss_ret (so_ifE (st_cmp (od_ne hu64) (so_var (pv 3)) (so_lst sa_nil) (nomark _)) (so_ix xd_ix (so_var (pv 3)) so_int (fun _ _ => rfl)) so_non))))
theorem cal_is_within (T : Top K mg) {f : Addr} {fd : FuncData} (F : Fun K "is_within" "is_within" s_is_within f fd) (hm : mg "is_within" = some (.ref f)) (k_is_number : Cal P w K mg base 1 "is_number" 1 f_is_number) : Cal P w K mg base 2 "is_within" 3 f_is_within := by
  have hB : Binds K fd ["thing", "low", "high"] [] := F.binds fun _ _ _ _ _ _ us hl => match us, hl with | [_, _, _], _ => rfl
  show Cal P w K mg base (1 + 1) "is_within" 3 (runM n_is_within.length b_is_within)
  refine cal_of (k := 1) (b := b_is_within) F sc_is_within hm hB rfl ?_
  intro cdv A outer s H E hr
  have hu := hu_of hr
  have hu64 := hr.units
  have tk := takes_of (X := cxOf (L2.CX P w) P w K mg base n_is_within "is_within" (defScope s_is_within) f cdv A outer s H E) rfl rfl rfl rfl
  have po := passes_of (X := cxOf (L2.CX P w) P w K mg base n_is_within "is_within" (defScope s_is_within) f cdv A outer s H E) rfl
  exact (sb_one (ss_ret (so_andT (so_fun k_is_number tk hr (by decide) rfl (sa_cons (so_var (pv 0)) sa_nil)) (so_one (so_chain od_le od_le (so_var (pv 1)) (so_var (pv 0)) (so_var (pv 2)))))))
theorem cal_stretch_from (T : Top K mg) {f : Addr} {fd : FuncData} (F : Fun K "stretch_from" "stretch_from" s_stretch_from f fd) (hm : mg "stretch_from" = some (.ref f)) (k_taker_behind : Cal P w K mg base 1 "taker_behind" 3 f_taker_behind) (k_turn_missed : Cal P w K mg base 1 "turn_missed" 2 f_turn_missed) : Cal P w K mg base 2 "stretch_from" 3 f_stretch_from := by
  have hB : Binds K fd ["tops", "first", "one"] [] := F.binds fun _ _ _ _ _ _ us hl => match us, hl with | [_, _, _], _ => rfl
  show Cal P w K mg base (1 + 1) "stretch_from" 3 (runM n_stretch_from.length b_stretch_from)
  refine cal_of (k := 1) (b := b_stretch_from) F sc_stretch_from hm hB rfl ?_
  intro cdv A outer s H E hr
  have hu := hu_of hr
  have hu64 := hr.units
  have tk := takes_of (X := cxOf (L2.CX P w) P w K mg base n_stretch_from "stretch_from" (defScope s_stretch_from) f cdv A outer s H E) rfl rfl rfl rfl
  have po := passes_of (X := cxOf (L2.CX P w) P w K mg base n_stretch_from "stretch_from" (defScope s_stretch_from) f cdv A outer s H E) rfl
  exact (sb_cons (ss_set (ps_set (i := 3) sc_stretch_from.nd rfl (Or.inl rfl) (so_fun k_taker_behind tk hr (by decide) rfl (sa_cons (so_var (pv 0)) (sa_cons (so_op od_add (so_var (pv 1)) so_int) (sa_cons (so_var (pv 2)) sa_nil))))))
    (sb_cons (ss_if (st_cmp od_isN (so_var (pv 3)) so_non (nomark _)) (sb_one (ss_ret (so_tup (sa_cons (so_var (pv 1)) (sa_cons (so_var (pv 1)) (sa_cons (so_var (pv 2)) (sa_cons so_non sa_nil))))))) sb_nil)
    (sb_cons (ss_set (ps_set (i := 4) sc_stretch_from.nd rfl (Or.inl rfl) (so_blt (cd_min2 rfl) rfl T.z_min (by decide +kernel) (sa_cons (so_fun k_turn_missed tk hr (by decide) rfl (sa_cons (so_var (pv 1)) (sa_cons (so_dget hu (so_var (pv 0)) (so_var (pv 2)) (fun _ _ => rfl)) sa_nil))) (sa_cons (so_fun k_turn_missed tk hr (by decide) rfl (sa_cons (so_op od_add (so_var (pv 1)) so_int) (sa_cons (so_dget hu (so_var (pv 0)) (so_var (pv 3)) (fun _ _ => rfl)) sa_nil))) sa_nil)))))
    (sb_one (ss_ret (so_tup (sa_cons (so_var (pv 1)) (sa_cons (so_op od_sub (so_var (pv 4)) so_int) (sa_cons (so_var (pv 2)) (sa_cons (so_var (pv 3)) sa_nil))))))))))
theorem cal_is_stretch (T : Top K mg) {f : Addr} {fd : FuncData} (F : Fun K "is_stretch" "is_stretch" s_is_stretch f fd) (hm : mg "is_stretch" = some (.ref f)) (k_is_number : Cal P w K mg base 1 "is_number" 1 f_is_number) : Cal P w K mg base 2 "is_stretch" 2 f_is_stretch := by
  have hB : Binds K fd ["thing", "stretch"] [] := F.binds fun _ _ _ _ _ _ us hl => match us, hl with | [_, _], _ => rfl
  show Cal P w K mg base (1 + 1) "is_stretch" 2 (runM n_is_stretch.length b_is_stretch)
  refine cal_of (k := 1) (b := b_is_stretch) F sc_is_stretch hm hB rfl ?_
  intro cdv A outer s H E hr
  have hu := hu_of hr
  have hu64 := hr.units
  have tk := takes_of (X := cxOf (L2.CX P w) P w K mg base n_is_stretch "is_stretch" (defScope s_is_stretch) f cdv A outer s H E) rfl rfl rfl rfl
  have po := passes_of (X := cxOf (L2.CX P w) P w K mg base n_is_stretch "is_stretch" (defScope s_is_stretch) f cdv A outer s H E) rfl
  exact (sb_one (ss_ret (so_andT (so_cmp (od_eq hu64) (so_var (pv 0)) (so_var (pv 1)) (nomark _)) (so_one (so_blt (cd_all rfl) rfl T.z_all (by decide +kernel) (sa_cons (so_lc (own := [("one", 2)]) (pt := (.one 2)) rfl sc_is_stretch.nd (si_seq (so_var (pv 0))) (blkOk_by (own := [("one", 2)]) (N := n_is_stretch) (sc := defScope s_is_stretch) (by decide +kernel)) (fun _ _ _ _ _ => (pg_name (i := 2) sc_is_stretch.nd rfl (Or.inl rfl))) (fun _ _ _ _ _ => pts_none) (fun _ _ _ _ _ => (so_orT (so_cmp od_isN (so_var (pv 2)) so_non (nomark _)) (so_one (so_fun k_is_number takes0 hr (by decide) rfl (sa_cons (so_var (pv 2)) sa_nil)))))) sa_nil))))))
theorem cal_law_pick (T : Top K mg) {f : Addr} {fd : FuncData} (F : Fun K "_law_pick" "_law_pick" s_law_pick f fd) (hm : mg "_law_pick" = some (.ref f)) (k_law_draw : Cal P w K mg base 1 "_law_draw" 2 f_law_draw) : Cal P w K mg base 2 "_law_pick" 2 f_law_pick := by
  have hB : Binds K fd ["_law_pen_here", "_law_things"] [] := F.binds fun _ _ _ _ _ _ us hl => match us, hl with | [_, _], _ => rfl
  show Cal P w K mg base (1 + 1) "_law_pick" 2 (runM n_law_pick.length b_law_pick)
  refine cal_of (k := 1) (b := b_law_pick) F sc_law_pick hm hB rfl ?_
  intro cdv A outer s H E hr
  have hu := hu_of hr
  have hu64 := hr.units
  have tk := takes_of (X := cxOf (L2.CX P w) P w K mg base n_law_pick "_law_pick" (defScope s_law_pick) f cdv A outer s H E) rfl rfl rfl rfl
  have po := passes_of (X := cxOf (L2.CX P w) P w K mg base n_law_pick "_law_pick" (defScope s_law_pick) f cdv A outer s H E) rfl
  exact (sb_one (ss_ret (so_ix xd_ix (so_var (pv 1)) (so_fun k_law_draw tk hr (by decide) rfl (sa_cons (so_var (pv 0)) (sa_cons (so_blt cd_len rfl T.z_len (by decide +kernel) (sa_cons (so_var (pv 1)) sa_nil)) sa_nil))) (fun _ _ => rfl))))
theorem cal_law_mixed (T : Top K mg) {f : Addr} {fd : FuncData} (F : Fun K "_law_mixed" "_law_mixed" s_law_mixed f fd) (hm : mg "_law_mixed" = some (.ref f)) (k_law_draw : Cal P w K mg base 1 "_law_draw" 2 f_law_draw) : Cal P w K mg base 2 "_law_mixed" 2 f_law_mixed := by
  have hB : Binds K fd ["_law_pen_here", "_law_things"] [] := F.binds fun _ _ _ _ _ _ us hl => match us, hl with | [_, _], _ => rfl
  show Cal P w K mg base (1 + 1) "_law_mixed" 2 (runM n_law_mixed.length b_law_mixed)
  refine cal_of (k := 1) (b := b_law_mixed) F sc_law_mixed hm hB rfl ?_
  intro cdv A outer s H E hr
  have hu := hu_of hr
  have hu64 := hr.units
  have tk := takes_of (X := cxOf (L2.CX P w) P w K mg base n_law_mixed "_law_mixed" (defScope s_law_mixed) f cdv A outer s H E) rfl rfl rfl rfl
  have po := passes_of (X := cxOf (L2.CX P w) P w K mg base n_law_mixed "_law_mixed" (defScope s_law_mixed) f cdv A outer s H E) rfl
  exact (sb_cons (ss_par (ps_par (i := 2) (j := 3) rfl sc_law_mixed.nd rfl rfl (by decide) rfl rfl (sa_cons (so_ty (cd_list rfl) rfl T.z_list (by decide +kernel) (sa_cons (so_var (pv 1)) sa_nil)) (sa_cons (so_lst sa_nil) sa_nil)) (by rfl)))
    (sb_cons (ss_while 1000000 po (st_cmp (od_ne hu64) (so_var (pv 2)) (so_lst sa_nil) (nomark _)) (sb_one (ss_drop (so_mtL PySem.F.slot_list_append PySem.F.type_list_append td_append (so_var (pv 3)) (sa_cons (so_mtL PySem.F.slot_list_pop PySem.F.type_list_pop td_popAt (so_var (pv 2)) (sa_cons (so_fun k_law_draw tk hr (by decide) rfl (sa_cons (so_var (pv 0)) (sa_cons (so_blt cd_len rfl T.z_len (by decide +kernel) (sa_cons (so_var (pv 2)) sa_nil)) sa_nil))) sa_nil) (pe_bm PySem.F.plainAttrs_list PySem.F.slot_list_pop PySem.F.type_list_pop td_popAt (so_var (pv 2)) (sa_cons (so_fun k_law_draw tk hr (by decide) rfl (sa_cons (so_var (pv 0)) (sa_cons (so_blt cd_len rfl T.z_len (by decide +kernel) (sa_cons (so_var (pv 2)) sa_nil)) sa_nil))) sa_nil))) sa_nil) (pe_bm PySem.F.plainAttrs_list PySem.F.slot_list_append PySem.F.type_list_append td_append (so_var (pv 3)) (sa_cons (so_mtL PySem.F.slot_list_pop PySem.F.type_list_pop td_popAt (so_var (pv 2)) (sa_cons (so_fun k_law_draw tk hr (by decide) rfl (sa_cons (so_var (pv 0)) (sa_cons (so_blt cd_len rfl T.z_len (by decide +kernel) (sa_cons (so_var (pv 2)) sa_nil)) sa_nil))) sa_nil) (pe_bm PySem.F.plainAttrs_list PySem.F.slot_list_pop PySem.F.type_list_pop td_popAt (so_var (pv 2)) (sa_cons (so_fun k_law_draw tk hr (by decide) rfl (sa_cons (so_var (pv 0)) (sa_cons (so_blt cd_len rfl T.z_len (by decide +kernel) (sa_cons (so_var (pv 2)) sa_nil)) sa_nil))) sa_nil))) sa_nil))))))
    (sb_one (ss_ret (so_var (pv 3))))))
theorem cal_law_runners (T : Top K mg) {f : Addr} {fd : FuncData} (F : Fun K "_law_runners" "_law_runners" s_law_runners f fd) (hm : mg "_law_runners" = some (.ref f)) (k_law_top : Cal P w K mg base 1 "_law_top" 3 f_law_top) : Cal P w K mg base 2 "_law_runners" 3 f_law_runners := by
  have hB : Binds K fd ["_law_ladder_here", "_law_lot_here", "_law_bids_here"] [] := F.binds fun _ _ _ _ _ _ us hl => match us, hl with | [_, _, _], _ => rfl
  show Cal P w K mg base (1 + 1) "_law_runners" 3 (runM n_law_runners.length b_law_runners)
  refine cal_of (k := 1) (b := b_law_runners) F sc_law_runners hm hB rfl ?_
  intro cdv A outer s H E hr
  have hu := hu_of hr
  have hu64 := hr.units
  have tk := takes_of (X := cxOf (L2.CX P w) P w K mg base n_law_runners "_law_runners" (defScope s_law_runners) f cdv A outer s H E) rfl rfl rfl rfl
  have po := passes_of (X := cxOf (L2.CX P w) P w K mg base n_law_runners "_law_runners" (defScope s_law_runners) f cdv A outer s H E) rfl
  exact (sb_cons (ss_setLc (i := 3) (own := [("_law_buyer", 4), ("_law_bound", 5)]) (pt := (.many [4, 5])) rfl sc_law_runners.nd rfl rfl (sw_true rfl rfl rfl (by decide +kernel)) (si_seq (so_var (pv 2))) (blkOk_by (own := [("_law_buyer", 4), ("_law_bound", 5)]) (N := n_law_runners) (sc := defScope s_law_runners) (by decide +kernel)) (fun _ _ _ _ _ => (pg_tup rfl (pgs_cons (pg_name (i := 4) sc_law_runners.nd rfl (Or.inl rfl)) (pgs_cons (pg_name (i := 5) sc_law_runners.nd rfl (Or.inl rfl)) pgs_nil)))) (fun _ _ _ _ _ => pts_none) (fun _ _ _ _ _ => (so_tup (sa_cons (so_var (pv 4)) (sa_cons (so_fun k_law_top takes0 hr (by decide) rfl (sa_cons (so_var (pv 0)) (sa_cons (so_ix xd_ix (so_var (pv 1)) so_int (fun _ _ => rfl)) (sa_cons (so_var (pv 5)) sa_nil)))) sa_nil)))))
    (sb_one (ss_ret (so_lc (own := [("_law_one", 6)]) (pt := (.one 6)) rfl sc_law_runners.nd (si_seq (so_var (pv 3))) (blkOk_by (own := [("_law_one", 6)]) (N := n_law_runners) (sc := defScope s_law_runners) (by decide +kernel)) (fun _ _ _ _ _ => (pg_name (i := 6) sc_law_runners.nd rfl (Or.inl rfl))) (fun _ _ _ _ _ => (pts_some (st_cmp od_notN (so_ix xd_ix (so_var (pv 6)) so_int (fun _ _ => rfl)) so_non (nomark _)))) (fun _ _ _ _ _ => (so_var (pv 6)))))))
theorem cal_law_rows (T : Top K mg) {f : Addr} {fd : FuncData} (F : Fun K "_law_rows" "_law_rows" s_law_rows f fd) (hm : mg "_law_rows" = some (.ref f)) (k_law_next : Cal P w K mg base 1 "_law_next" 3 f_law_next) : Cal P w K mg base 2 "_law_rows" 1 f_law_rows := by
  have hB : Binds K fd ["_law_runners_here"] [] := F.binds fun _ _ _ _ _ _ us hl => match us, hl with | [_], _ => rfl
  show Cal P w K mg base (1 + 1) "_law_rows" 1 (runM n_law_rows.length b_law_rows)
  refine cal_of (k := 1) (b := b_law_rows) F sc_law_rows hm hB rfl ?_
  intro cdv A outer s H E hr
  have hu := hu_of hr
  have hu64 := hr.units
  have tk := takes_of (X := cxOf (L2.CX P w) P w K mg base n_law_rows "_law_rows" (defScope s_law_rows) f cdv A outer s H E) rfl rfl rfl rfl
  have po := passes_of (X := cxOf (L2.CX P w) P w K mg base n_law_rows "_law_rows" (defScope s_law_rows) f cdv A outer s H E) rfl
  exact (sb_cons (ss_par3 (ps_par3 (i := 1) (j := 2) (l := 3) rfl sc_law_rows.nd rfl rfl rfl (by decide) (by decide) (by decide) rfl rfl rfl (sa_cons (so_lst sa_nil) (sa_cons so_int (sa_cons (so_fun k_law_next tk hr (by decide) rfl (sa_cons (so_var (pv 0)) (sa_cons so_int (sa_cons so_non sa_nil)))) sa_nil))) (by rfl)))
    (sb_cons (ss_while 1000000 po (st_cmp od_notN (so_var (pv 3)) so_non (nomark _)) (sb_cons (ss_set (ps_set (i := 4) sc_law_rows.nd rfl (Or.inl rfl) (so_fun k_law_next tk hr (by decide) rfl (sa_cons (so_var (pv 0)) (sa_cons (so_op od_add (so_var (pv 2)) so_int) (sa_cons (so_ix xd_ix (so_var (pv 3)) so_int (fun _ _ => rfl)) sa_nil))))))
    (sb_cons (ss_if (st_cmp od_isN (so_var (pv 4)) so_non (nomark _)) (sb_one (ss_ret (so_op od_add (so_var (pv 1)) (so_lst (sa_cons (so_tup (sa_cons (so_var (pv 2)) (sa_cons (so_var (pv 2)) (sa_cons (so_ix xd_ix (so_var (pv 3)) so_int (fun _ _ => rfl)) (sa_cons so_non sa_nil))))) sa_nil))))) sb_nil)
    (sb_cons (ss_set (ps_set (i := 5) sc_law_rows.nd rfl (Or.inl rfl) (so_blt (cd_min2 rfl) rfl T.z_min (by decide +kernel) (sa_cons (so_op od_div (so_op od_sub (so_ix xd_ix (so_var (pv 3)) so_int (fun _ _ => rfl)) (so_var (pv 2))) so_int) (sa_cons (so_op od_div (so_op od_sub (so_op od_sub (so_ix xd_ix (so_var (pv 4)) so_int (fun _ _ => rfl)) (so_var (pv 2))) so_int) so_int) sa_nil)))))
    (sb_cons (ss_set (ps_set (i := 6) sc_law_rows.nd rfl (Or.inl rfl) (so_op od_add (so_op od_add (so_var (pv 2)) (so_op od_mul so_int (so_var (pv 5)))) so_int)))
    (sb_cons (ss_set (ps_set (i := 7) sc_law_rows.nd rfl (Or.inl rfl) (so_ty cd_int rfl T.z_int (by decide +kernel) (sa_cons (so_cmp od_gt (so_ix xd_ix (so_var (pv 3)) so_int (fun _ _ => rfl)) (so_var (pv 6)) (nomark _)) sa_nil))))
    (sb_cons (ss_drop (so_mtL PySem.F.slot_list_append PySem.F.type_list_append td_append (so_var (pv 1)) (sa_cons (so_tup (sa_cons (so_var (pv 2)) (sa_cons (so_op od_add (so_var (pv 6)) (so_var (pv 7))) (sa_cons (so_ix xd_ix (so_var (pv 3)) so_int (fun _ _ => rfl)) (sa_cons (so_ix xd_ix (so_var (pv 4)) so_int (fun _ _ => rfl)) sa_nil))))) sa_nil) (pe_bm PySem.F.plainAttrs_list PySem.F.slot_list_append PySem.F.type_list_append td_append (so_var (pv 1)) (sa_cons (so_tup (sa_cons (so_var (pv 2)) (sa_cons (so_op od_add (so_var (pv 6)) (so_var (pv 7))) (sa_cons (so_ix xd_ix (so_var (pv 3)) so_int (fun _ _ => rfl)) (sa_cons (so_ix xd_ix (so_var (pv 4)) so_int (fun _ _ => rfl)) sa_nil))))) sa_nil))))
    (sb_cons (ss_set (ps_set (i := 2) sc_law_rows.nd rfl (Or.inl rfl) (so_op od_add (so_op od_add (so_var (pv 6)) (so_var (pv 7))) so_int)))
    (sb_one (ss_set (ps_set (i := 3) sc_law_rows.nd rfl (Or.inl rfl) (so_fun k_law_next tk hr (by decide) rfl (sa_cons (so_var (pv 0)) (sa_cons (so_var (pv 2)) (sa_cons (so_ix xd_ix (so_lst (sa_cons (so_ix xd_ix (so_var (pv 4)) so_int (fun _ _ => rfl)) (sa_cons (so_ix xd_ix (so_var (pv 3)) so_int (fun _ _ => rfl)) sa_nil))) (so_var (pv 7)) (fun _ _ => rfl)) sa_nil)))))))))))))))
    (sb_one (ss_ret (so_var (pv 1))))))
theorem cal_law_parted (T : Top K mg) {f : Addr} {fd : FuncData} (F : Fun K "_law_parted" "_law_parted" s_law_parted f fd) (hm : mg "_law_parted" = some (.ref f)) (k_law_draw : Cal P w K mg base 1 "_law_draw" 2 f_law_draw) : Cal P w K mg base 2 "_law_parted" 2 f_law_parted := by
  have hB : Binds K fd ["_law_pen_here", "_law_row"] [] := F.binds fun _ _ _ _ _ _ us hl => match us, hl with | [_, _], _ => rfl
  show Cal P w K mg base (1 + 1) "_law_parted" 2 (runM n_law_parted.length b_law_parted)
  refine cal_of (k := 1) (b := b_law_parted) F sc_law_parted hm hB rfl ?_
  intro cdv A outer s H E hr
  have hu := hu_of hr
  have hu64 := hr.units
  have tk := takes_of (X := cxOf (L2.CX P w) P w K mg base n_law_parted "_law_parted" (defScope s_law_parted) f cdv A outer s H E) rfl rfl rfl rfl
  have po := passes_of (X := cxOf (L2.CX P w) P w K mg base n_law_parted "_law_parted" (defScope s_law_parted) f cdv A outer s H E) rfl
  exact (sb_cons (ss_asg (so_var (pv 1)) (sg_tup rfl (sgs_cons (W := fun c d _ H => E c d H) (sg_name (pg_name (i := 2) sc_law_parted.nd rfl (Or.inl rfl))) (sgs_cons (W := fun c d _ H => E c d H) (sg_name (pg_name (i := 3) sc_law_parted.nd rfl (Or.inl rfl))) (sgs_cons (W := fun c d _ H => E c d H) (sg_name (pg_name (i := 4) sc_law_parted.nd rfl (Or.inl rfl))) (sgs_cons (W := fun c d _ H => E c d H) (sg_name (pg_name (i := 5) sc_law_parted.nd rfl (Or.inl rfl))) sgs_nil))))))
    (sb_cons (ss_if (st_cmp od_lt (so_op od_sub (so_var (pv 3)) (so_var (pv 2))) so_int (nomark _)) (sb_one (ss_ret (so_lst (sa_cons (so_var (pv 1)) (sa_cons (so_var (pv 1)) sa_nil))))) sb_nil)
    (sb_cons (ss_set (ps_set (i := 6) sc_law_parted.nd rfl (Or.inl rfl) (so_op od_add (so_op od_add (so_var (pv 2)) so_int) (so_op od_mul (so_fun k_law_draw tk hr (by decide) rfl (sa_cons (so_var (pv 0)) (sa_cons (so_op od_div (so_op od_sub (so_op od_sub (so_var (pv 3)) (so_var (pv 2))) so_int) so_int) sa_nil))) so_int))))
    (sb_one (ss_ret (so_lst (sa_cons (so_tup (sa_cons (so_var (pv 2)) (sa_cons (so_op od_sub (so_var (pv 6)) so_int) (sa_cons (so_var (pv 4)) (sa_cons (so_var (pv 5)) sa_nil))))) (sa_cons (so_tup (sa_cons (so_var (pv 6)) (sa_cons (so_var (pv 3)) (sa_cons (so_var (pv 4)) (sa_cons (so_ifE (st_cmp od_lt (so_var (pv 6)) (so_var (pv 3)) (nomark _)) (so_var (pv 5)) so_non) sa_nil))))) sa_nil))))))))
theorem cal_is_floor_and_step (T : Top K mg) {f : Addr} {fd : FuncData} (F : Fun K "is_floor_and_step" "is_floor_and_step" s_is_floor_and_step f fd) (hm : mg "is_floor_and_step" = some (.ref f)) (k_is_tuple_of : Cal P w K mg base 1 "is_tuple_of" 3 f_is_tuple_of) (k_is_within : Cal P w K mg base 2 "is_within" 3 f_is_within) : Cal P w K mg base 3 "is_floor_and_step" 1 f_is_floor_and_step := by
  have hB : Binds K fd ["thing"] [] := F.binds fun _ _ _ _ _ _ us hl => match us, hl with | [_], _ => rfl
  obtain ⟨tc_GREATEST_FLOOR, hc_GREATEST_FLOOR⟩ := T.x_GREATEST_FLOOR
  obtain ⟨tc_GREATEST_STEP, hc_GREATEST_STEP⟩ := T.x_GREATEST_STEP
  show Cal P w K mg base (2 + 1) "is_floor_and_step" 1 (runM n_is_floor_and_step.length b_is_floor_and_step)
  refine cal_of (k := 2) (b := b_is_floor_and_step) F sc_is_floor_and_step hm hB rfl ?_
  intro cdv A outer s H E hr
  have hu := hu_of hr
  have hu64 := hr.units
  have tk := takes_of (X := cxOf (L2.CX P w) P w K mg base n_is_floor_and_step "is_floor_and_step" (defScope s_is_floor_and_step) f cdv A outer s H E) rfl rfl rfl rfl
  have po := passes_of (X := cxOf (L2.CX P w) P w K mg base n_is_floor_and_step "is_floor_and_step" (defScope s_is_floor_and_step) f cdv A outer s H E) rfl
  exact (sb_cons (ss_if (st_not (st_tru (so_fun k_is_tuple_of tk hr (by decide) rfl (sa_cons (so_var (pv 0)) (sa_cons so_int (sa_cons so_int sa_nil)))))) (sb_one (ss_ret so_bl)) sb_nil)
    (sb_one (ss_ret (so_andT (so_fun k_is_within tk hr (by decide) rfl (sa_cons (so_ix xd_ix (so_var (pv 0)) so_int (fun _ _ => rfl)) (sa_cons so_int (sa_cons (so_glob rfl hc_GREATEST_FLOOR) sa_nil)))) (so_one (so_fun k_is_within tk hr (by decide) rfl (sa_cons (so_ix xd_ix (so_var (pv 0)) so_int (fun _ _ => rfl)) (sa_cons so_int (sa_cons (so_glob rfl hc_GREATEST_STEP) sa_nil)))))))))
theorem cal_check_price (T : Top K mg) {f : Addr} {fd : FuncData} (F : Fun K "check_price" "check_price" s_check_price f fd) (hm : mg "check_price" = some (.ref f)) (k_is_within : Cal P w K mg base 2 "is_within" 3 f_is_within) : Cal P w K mg base 3 "check_price" 3 f_check_price := by
  have hB : Binds K fd ["thing", "low", "high"] [] := F.binds fun _ _ _ _ _ _ us hl => match us, hl with | [_, _, _], _ => rfl
  show Cal P w K mg base (2 + 1) "check_price" 3 (runM n_check_price.length b_check_price)
  refine cal_of (k := 2) (b := b_check_price) F sc_check_price hm hB rfl ?_
  intro cdv A outer s H E hr
  have hu := hu_of hr
  have hu64 := hr.units
  have tk := takes_of (X := cxOf (L2.CX P w) P w K mg base n_check_price "check_price" (defScope s_check_price) f cdv A outer s H E) rfl rfl rfl rfl
  have po := passes_of (X := cxOf (L2.CX P w) P w K mg base n_check_price "check_price" (defScope s_check_price) f cdv A outer s H E) rfl
  exact (sb_one (ss_if (st_not (st_tru (so_fun k_is_within tk hr (by decide) rfl (sa_cons (so_var (pv 0)) (sa_cons (so_var (pv 1)) (sa_cons (so_var (pv 2)) sa_nil)))))) (sb_one ss_never) sb_nil))
theorem cal_is_lot (T : Top K mg) {f : Addr} {fd : FuncData} (F : Fun K "is_lot" "is_lot" s_is_lot f fd) (hm : mg "is_lot" = some (.ref f)) (k_is_tuple_of : Cal P w K mg base 1 "is_tuple_of" 3 f_is_tuple_of) (k_is_within : Cal P w K mg base 2 "is_within" 3 f_is_within) : Cal P w K mg base 3 "is_lot" 1 f_is_lot := by
  have hB : Binds K fd ["thing"] [] := F.binds fun _ _ _ _ _ _ us hl => match us, hl with | [_], _ => rfl
  obtain ⟨tc_GREATEST_BOUND, hc_GREATEST_BOUND⟩ := T.x_GREATEST_BOUND
  show Cal P w K mg base (2 + 1) "is_lot" 1 (runM n_is_lot.length b_is_lot)
  refine cal_of (k := 2) (b := b_is_lot) F sc_is_lot hm hB rfl ?_
  intro cdv A outer s H E hr
  have hu := hu_of hr
  have hu64 := hr.units
  have tk := takes_of (X := cxOf (L2.CX P w) P w K mg base n_is_lot "is_lot" (defScope s_is_lot) f cdv A outer s H E) rfl rfl rfl rfl
  have po := passes_of (X := cxOf (L2.CX P w) P w K mg base n_is_lot "is_lot" (defScope s_is_lot) f cdv A outer s H E) rfl
  exact (sb_cons (ss_if (st_not (st_tru (so_fun k_is_tuple_of tk hr (by decide) rfl (sa_cons (so_var (pv 0)) (sa_cons so_int (sa_cons so_int sa_nil)))))) (sb_one (ss_ret so_bl)) sb_nil)
    (sb_cons (ss_asg (so_var (pv 0)) (sg_tup rfl (sgs_cons (W := fun c d _ H => E c d H) (sg_name (pg_name (i := 1) sc_is_lot.nd rfl (Or.inl rfl))) (sgs_cons (W := fun c d _ H => E c d H) (sg_name (pg_name (i := 2) sc_is_lot.nd rfl (Or.inl rfl))) sgs_nil))))
    (sb_one (ss_ret (so_andT (so_fun k_is_within tk hr (by decide) rfl (sa_cons (so_var (pv 1)) (sa_cons so_int (sa_cons (so_glob rfl hc_GREATEST_BOUND) sa_nil)))) (so_one (so_fun k_is_within tk hr (by decide) rfl (sa_cons (so_var (pv 2)) (sa_cons (so_var (pv 1)) (sa_cons (so_glob rfl hc_GREATEST_BOUND) sa_nil))))))))))
theorem cal_is_buyer (T : Top K mg) {f : Addr} {fd : FuncData} (F : Fun K "is_buyer" "is_buyer" s_is_buyer f fd) (hm : mg "is_buyer" = some (.ref f)) (k_is_within : Cal P w K mg base 2 "is_within" 3 f_is_within) : Cal P w K mg base 3 "is_buyer" 1 f_is_buyer := by
  have hB : Binds K fd ["thing"] [] := F.binds fun _ _ _ _ _ _ us hl => match us, hl with | [_], _ => rfl
  obtain ⟨tc_GREATEST_BUYER, hc_GREATEST_BUYER⟩ := T.x_GREATEST_BUYER
  show Cal P w K mg base (2 + 1) "is_buyer" 1 (runM n_is_buyer.length b_is_buyer)
  refine cal_of (k := 2) (b := b_is_buyer) F sc_is_buyer hm hB rfl ?_
  intro cdv A outer s H E hr
  have hu := hu_of hr
  have hu64 := hr.units
  have tk := takes_of (X := cxOf (L2.CX P w) P w K mg base n_is_buyer "is_buyer" (defScope s_is_buyer) f cdv A outer s H E) rfl rfl rfl rfl
  have po := passes_of (X := cxOf (L2.CX P w) P w K mg base n_is_buyer "is_buyer" (defScope s_is_buyer) f cdv A outer s H E) rfl
  exact (sb_one (ss_ret (so_fun k_is_within tk hr (by decide) rfl (sa_cons (so_var (pv 0)) (sa_cons so_int (sa_cons (so_glob rfl hc_GREATEST_BUYER) sa_nil))))))
theorem cal_law_anything (T : Top K mg) {f : Addr} {fd : FuncData} (F : Fun K "_law_anything" "_law_anything" s_law_anything f fd) (hm : mg "_law_anything" = some (.ref f)) (k_law_pick : Cal P w K mg base 2 "_law_pick" 2 f_law_pick) : Cal P w K mg base 3 "_law_anything" 1 f_law_anything := by
  have hB : Binds K fd ["_law_pen_here"] [] := F.binds fun _ _ _ _ _ _ us hl => match us, hl with | [_], _ => rfl
  show Cal P w K mg base (2 + 1) "_law_anything" 1 (runM n_law_anything.length b_law_anything)
  refine cal_of (k := 2) (b := b_law_anything) F sc_law_anything hm hB rfl ?_
  intro cdv A outer s H E hr
  have hu := hu_of hr
  have hu64 := hr.units
  have tk := takes_of (X := cxOf (L2.CX P w) P w K mg base n_law_anything "_law_anything" (defScope s_law_anything) f cdv A outer s H E) rfl rfl rfl rfl
  have po := passes_of (X := cxOf (L2.CX P w) P w K mg base n_law_anything "_law_anything" (defScope s_law_anything) f cdv A outer s H E) rfl
  exact (sb_cons (ss_set (ps_set (i := 1) sc_law_anything.nd rfl (Or.inl rfl) (so_lst (sa_cons so_non (sa_cons so_bl (sa_cons so_bl (sa_cons so_str (sa_cons so_str (sa_cons (so_tup sa_nil) (sa_cons (so_lst sa_nil) (sa_cons so_dict0 (sa_cons (so_un ud_neg so_int) (sa_cons (so_op od_pow so_int so_int) (sa_cons so_int (sa_cons so_int (sa_cons (so_tup (sa_cons so_int sa_nil)) (sa_cons (so_lst (sa_cons so_int sa_nil)) (sa_cons (so_tup (sa_cons (so_tup sa_nil) sa_nil)) (sa_cons (so_tup (sa_cons so_int (sa_cons so_int sa_nil))) (sa_cons (so_dict (ps := [((mC (.int 0)), (mC (.int 0)))]) (pps_cons so_int so_int pps_nil) (by rfl) (by rfl) (fun z => by cases z) (by decide)) (sa_cons (so_tup (sa_cons (so_tup (sa_cons so_int (sa_cons so_int sa_nil))) sa_nil)) sa_nil)))))))))))))))))))))
    (sb_one (ss_ret (so_fun k_law_pick tk hr (by decide) rfl (sa_cons (so_var (pv 0)) (sa_cons (so_var (pv 1)) sa_nil))))))
theorem cal_law_ladder (T : Top K mg) {f : Addr} {fd : FuncData} (F : Fun K "_law_ladder" "_law_ladder" s_law_ladder f fd) (hm : mg "_law_ladder" = some (.ref f)) (k_law_draw : Cal P w K mg base 1 "_law_draw" 2 f_law_draw) (k_law_pick : Cal P w K mg base 2 "_law_pick" 2 f_law_pick) : Cal P w K mg base 3 "_law_ladder" 1 f_law_ladder := by
  have hB : Binds K fd ["_law_pen_here"] [] := F.binds fun _ _ _ _ _ _ us hl => match us, hl with | [_], _ => rfl
  show Cal P w K mg base (2 + 1) "_law_ladder" 1 (runM n_law_ladder.length b_law_ladder)
  refine cal_of (k := 2) (b := b_law_ladder) F sc_law_ladder hm hB rfl ?_
  intro cdv A outer s H E hr
  have hu := hu_of hr
  have hu64 := hr.units
  have tk := takes_of (X := cxOf (L2.CX P w) P w K mg base n_law_ladder "_law_ladder" (defScope s_law_ladder) f cdv A outer s H E) rfl rfl rfl rfl
  have po := passes_of (X := cxOf (L2.CX P w) P w K mg base n_law_ladder "_law_ladder" (defScope s_law_ladder) f cdv A outer s H E) rfl
  exact (sb_cons (ss_set (ps_set (i := 1) sc_law_ladder.nd rfl (Or.inl rfl) (so_fun k_law_pick tk hr (by decide) rfl (sa_cons (so_var (pv 0)) (sa_cons (so_lst (sa_cons so_int (sa_cons so_int (sa_cons so_int (sa_cons (so_op od_pow so_int so_int) sa_nil))))) sa_nil)))))
    (sb_cons (ss_set (ps_set (i := 2) sc_law_ladder.nd rfl (Or.inl rfl) (so_dict (ps := [((mC (.int 0)), (mC (.bl true)))]) (pps_cons so_int so_bl pps_nil) (by rfl) (by rfl) (fun z => by cases z) (by decide))))
    (sb_cons (ss_forx po rfl (si_rng1 rfl T.z_range (sa_cons (so_fun k_law_draw tk hr (by decide) rfl (sa_cons (so_var (pv 0)) (sa_cons so_int sa_nil))) sa_nil)) (sg_name (pg_name (i := 3) sc_law_ladder.nd rfl (Or.inl rfl))) (sb_one (ss_asg so_bl (sg_item hu (so_var (pv 2)) (so_op od_add (so_fun k_law_draw tk hr (by decide) rfl (sa_cons (so_var (pv 0)) (sa_cons (so_var (pv 1)) sa_nil))) so_int) (pg_sub (so_var (pv 2)) (so_op od_add (so_fun k_law_draw tk hr (by decide) rfl (sa_cons (so_var (pv 0)) (sa_cons (so_var (pv 1)) sa_nil))) so_int) (ps_setItem hu))))))
    (sb_cons (ss_set (ps_set (i := 4) sc_law_ladder.nd rfl (Or.inr rfl) (so_lst (sa_cons so_int (sa_cons so_int (sa_cons so_int (sa_cons so_int (sa_cons (so_op od_add so_int (so_fun k_law_draw tk hr (by decide) rfl (sa_cons (so_var (pv 0)) (sa_cons so_int sa_nil)))) (sa_cons (so_op od_add so_int (so_fun k_law_draw tk hr (by decide) rfl (sa_cons (so_var (pv 0)) (sa_cons (so_op od_pow so_int so_int) sa_nil)))) sa_nil)))))))))
    (sb_one (ss_ret (so_ty cd_tuple rfl T.z_tuple (by decide +kernel) (sa_cons (so_lc (own := [("_law_one", 5)]) (pt := (.one 5)) rfl sc_law_ladder.nd (si_seq (so_blt (cd_sorted rfl) rfl T.z_sorted (by decide +kernel) (sa_cons (so_var (pv 2)) sa_nil))) (blkOk_by (own := [("_law_one", 5)]) (N := n_law_ladder) (sc := defScope s_law_ladder) (by decide +kernel)) (fun _ _ _ _ _ => (pg_name (i := 5) sc_law_ladder.nd rfl (Or.inl rfl))) (fun _ _ _ _ _ => pts_none) (fun _ _ _ _ _ => (so_tup (sa_cons (so_var (pv 5)) (sa_cons (so_fun k_law_pick takes0 hr (by decide) rfl (sa_cons (so_var (pv 0)) (sa_cons (so_var (pv 4)) sa_nil))) sa_nil))))) sa_nil))))))))
theorem cal_law_lot (T : Top K mg) {f : Addr} {fd : FuncData} (F : Fun K "_law_lot" "_law_lot" s_law_lot f fd) (hm : mg "_law_lot" = some (.ref f)) (k_law_draw : Cal P w K mg base 1 "_law_draw" 2 f_law_draw) (k_law_pick : Cal P w K mg base 2 "_law_pick" 2 f_law_pick) : Cal P w K mg base 3 "_law_lot" 2 f_law_lot := by
  have hB : Binds K fd ["_law_pen_here", "_law_reach"] [] := F.binds fun _ _ _ _ _ _ us hl => match us, hl with | [_, _], _ => rfl
  show Cal P w K mg base (2 + 1) "_law_lot" 2 (runM n_law_lot.length b_law_lot)
  refine cal_of (k := 2) (b := b_law_lot) F sc_law_lot hm hB rfl ?_
  intro cdv A outer s H E hr
  have hu := hu_of hr
  have hu64 := hr.units
  have tk := takes_of (X := cxOf (L2.CX P w) P w K mg base n_law_lot "_law_lot" (defScope s_law_lot) f cdv A outer s H E) rfl rfl rfl rfl
  have po := passes_of (X := cxOf (L2.CX P w) P w K mg base n_law_lot "_law_lot" (defScope s_law_lot) f cdv A outer s H E) rfl
  exact (sb_cons (ss_set (ps_set (i := 2) sc_law_lot.nd rfl (Or.inl rfl) (so_fun k_law_pick tk hr (by decide) rfl (sa_cons (so_var (pv 0)) (sa_cons (so_lst (sa_cons so_int (sa_cons so_int (sa_cons (so_op od_add so_int (so_fun k_law_draw tk hr (by decide) rfl (sa_cons (so_var (pv 0)) (sa_cons so_int sa_nil)))) (sa_cons (so_op od_add so_int (so_fun k_law_draw tk hr (by decide) rfl (sa_cons (so_var (pv 0)) (sa_cons (so_op od_pow so_int so_int) sa_nil)))) (sa_cons (so_op od_pow so_int so_int) sa_nil)))))) sa_nil)))))
    (sb_cons (ss_set (ps_set (i := 3) sc_law_lot.nd rfl (Or.inl rfl) (so_op od_add (so_var (pv 2)) (so_fun k_law_pick tk hr (by decide) rfl (sa_cons (so_var (pv 0)) (sa_cons (so_lst (sa_cons so_int (sa_cons so_int (sa_cons (so_fun k_law_draw tk hr (by decide) rfl (sa_cons (so_var (pv 0)) (sa_cons (so_var (pv 1)) sa_nil))) sa_nil)))) sa_nil))))))
    (sb_one (ss_ret (so_tup (sa_cons (so_var (pv 2)) (sa_cons (so_blt (cd_min2 rfl) rfl T.z_min (by decide +kernel) (sa_cons (so_op od_pow so_int so_int) (sa_cons (so_var (pv 3)) sa_nil))) sa_nil)))))))
theorem cal_law_bids (T : Top K mg) {f : Addr} {fd : FuncData} (F : Fun K "_law_bids" "_law_bids" s_law_bids f fd) (hm : mg "_law_bids" = some (.ref f)) (k_law_draw : Cal P w K mg base 1 "_law_draw" 2 f_law_draw) (k_law_pick : Cal P w K mg base 2 "_law_pick" 2 f_law_pick) (k_law_mixed : Cal P w K mg base 2 "_law_mixed" 2 f_law_mixed) : Cal P w K mg base 3 "_law_bids" 3 f_law_bids := by
  have hB : Binds K fd ["_law_pen_here", "_law_start", "_law_reach"] [] := F.binds fun _ _ _ _ _ _ us hl => match us, hl with | [_, _, _], _ => rfl
  show Cal P w K mg base (2 + 1) "_law_bids" 3 (runM n_law_bids.length b_law_bids)
  refine cal_of (k := 2) (b := b_law_bids) F sc_law_bids hm hB rfl ?_
  intro cdv A outer s H E hr
  have hu := hu_of hr
  have hu64 := hr.units
  have tk := takes_of (X := cxOf (L2.CX P w) P w K mg base n_law_bids "_law_bids" (defScope s_law_bids) f cdv A outer s H E) rfl rfl rfl rfl
  have po := passes_of (X := cxOf (L2.CX P w) P w K mg base n_law_bids "_law_bids" (defScope s_law_bids) f cdv A outer s H E) rfl
  exact (sb_cons (ss_set (ps_set (i := 3) sc_law_bids.nd rfl (Or.inl rfl) (so_lst sa_nil)))
    (sb_cons (ss_forx po rfl (si_seq (so_cut (so_fun k_law_mixed tk hr (by decide) rfl (sa_cons (so_var (pv 0)) (sa_cons (so_listRg rfl rfl T.z_list rfl T.z_range so_int rfl) sa_nil))) so_no (so_yes (so_fun k_law_pick tk hr (by decide) rfl (sa_cons (so_var (pv 0)) (sa_cons (so_lst (sa_cons so_int (sa_cons so_int (sa_cons so_int (sa_cons so_int (sa_cons so_int (sa_cons so_int (sa_cons so_int (sa_cons so_int sa_nil))))))))) sa_nil)))))) (sg_name (pg_name (i := 4) sc_law_bids.nd rfl (Or.inl rfl))) (sb_cons (ss_set (ps_set (i := 5) sc_law_bids.nd rfl (Or.inl rfl) (so_op od_add (so_op od_sub (so_var (pv 1)) so_int) (so_fun k_law_draw tk hr (by decide) rfl (sa_cons (so_var (pv 0)) (sa_cons (so_var (pv 2)) sa_nil))))))
    (sb_cons (ss_if (SW.st (sw_and (st_cmp (od_ne hu64) (so_var (pv 3)) (so_lst sa_nil) (nomark _)) (sw_and1 (st_cmp (od_eq hu64) (so_fun k_law_draw tk hr (by decide) rfl (sa_cons (so_var (pv 0)) (sa_cons so_int sa_nil))) so_int (nomark _))))) (sb_one (ss_set (ps_set (i := 5) sc_law_bids.nd rfl (Or.inl rfl) (so_op od_sub (so_op od_add (so_ix xd_ix (so_ix xd_ix (so_var (pv 3)) (so_un ud_neg so_int) (fun _ _ => rfl)) so_int (fun _ _ => rfl)) (so_fun k_law_draw tk hr (by decide) rfl (sa_cons (so_var (pv 0)) (sa_cons so_int sa_nil)))) so_int)))) sb_nil)
    (sb_one (ss_drop (so_mtL PySem.F.slot_list_append PySem.F.type_list_append td_append (so_var (pv 3)) (sa_cons (so_tup (sa_cons (so_var (pv 4)) (sa_cons (so_blt (cd_min2 rfl) rfl T.z_min (by decide +kernel) (sa_cons (so_op od_pow so_int so_int) (sa_cons (so_blt (cd_max2 rfl) rfl T.z_max (by decide +kernel) (sa_cons so_int (sa_cons (so_var (pv 5)) sa_nil))) sa_nil))) sa_nil))) sa_nil) (pe_bm PySem.F.plainAttrs_list PySem.F.slot_list_append PySem.F.type_list_append td_append (so_var (pv 3)) (sa_cons (so_tup (sa_cons (so_var (pv 4)) (sa_cons (so_blt (cd_min2 rfl) rfl T.z_min (by decide +kernel) (sa_cons (so_op od_pow so_int so_int) (sa_cons (so_blt (cd_max2 rfl) rfl T.z_max (by decide +kernel) (sa_cons so_int (sa_cons (so_var (pv 5)) sa_nil))) sa_nil))) sa_nil))) sa_nil))))))))
    (sb_one (ss_ret (so_ty cd_tuple rfl T.z_tuple (by decide +kernel) (sa_cons (so_var (pv 3)) sa_nil))))))
theorem cal_is_ladder (T : Top K mg) {f : Addr} {fd : FuncData} (F : Fun K "is_ladder" "is_ladder" s_is_ladder f fd) (hm : mg "is_ladder" = some (.ref f)) (k_is_tuple_of : Cal P w K mg base 1 "is_tuple_of" 3 f_is_tuple_of) (k_is_rising : Cal P w K mg base 1 "is_rising" 1 f_is_rising) (k_is_floor_and_step : Cal P w K mg base 3 "is_floor_and_step" 1 f_is_floor_and_step) : Cal P w K mg base 4 "is_ladder" 1 f_is_ladder := by
  have hB : Binds K fd ["thing"] [] := F.binds fun _ _ _ _ _ _ us hl => match us, hl with | [_], _ => rfl
  obtain ⟨tc_MOST_FLOORS, hc_MOST_FLOORS⟩ := T.x_MOST_FLOORS
  show Cal P w K mg base (3 + 1) "is_ladder" 1 (runM n_is_ladder.length b_is_ladder)
  refine cal_of (k := 3) (b := b_is_ladder) F sc_is_ladder hm hB rfl ?_
  intro cdv A outer s H E hr
  have hu := hu_of hr
  have hu64 := hr.units
  have tk := takes_of (X := cxOf (L2.CX P w) P w K mg base n_is_ladder "is_ladder" (defScope s_is_ladder) f cdv A outer s H E) rfl rfl rfl rfl
  have po := passes_of (X := cxOf (L2.CX P w) P w K mg base n_is_ladder "is_ladder" (defScope s_is_ladder) f cdv A outer s H E) rfl
  exact (sb_cons (ss_if (st_not (st_tru (so_fun k_is_tuple_of tk hr (by decide) rfl (sa_cons (so_var (pv 0)) (sa_cons so_int (sa_cons (so_glob rfl hc_MOST_FLOORS) sa_nil)))))) (sb_one (ss_ret so_bl)) sb_nil)
    (sb_cons (ss_if (st_not (st_tru (so_blt (cd_all rfl) rfl T.z_all (by decide +kernel) (sa_cons (so_lc (own := [("pair", 2)]) (pt := (.one 2)) rfl sc_is_ladder.nd (si_seq (so_var (pv 0))) (blkOk_by (own := [("pair", 2)]) (N := n_is_ladder) (sc := defScope s_is_ladder) (by decide +kernel)) (fun _ _ _ _ _ => (pg_name (i := 2) sc_is_ladder.nd rfl (Or.inl rfl))) (fun _ _ _ _ _ => pts_none) (fun _ _ _ _ _ => (so_fun k_is_floor_and_step takes0 hr (by decide) rfl (sa_cons (so_var (pv 2)) sa_nil)))) sa_nil)))) (sb_one (ss_ret so_bl)) sb_nil)
    (sb_cons (ss_setLc (i := 1) (own := [("floor", 3), ("step", 4)]) (pt := (.many [3, 4])) rfl sc_is_ladder.nd rfl rfl (sw_true rfl rfl rfl (by decide +kernel)) (si_seq (so_var (pv 0))) (blkOk_by (own := [("floor", 3), ("step", 4)]) (N := n_is_ladder) (sc := defScope s_is_ladder) (by decide +kernel)) (fun _ _ _ _ _ => (pg_tup rfl (pgs_cons (pg_name (i := 3) sc_is_ladder.nd rfl (Or.inl rfl)) (pgs_cons (pg_name (i := 4) sc_is_ladder.nd rfl (Or.inl rfl)) pgs_nil)))) (fun _ _ _ _ _ => pts_none) (fun _ _ _ _ _ => (so_var (pv 3))))
    (sb_one (ss_ret (so_andT (so_cmp (od_eq hu64) (so_ix xd_ix (so_var (pv 1)) so_int (fun _ _ => rfl)) so_int (nomark _)) (so_one (so_fun k_is_rising tk hr (by decide) rfl (sa_cons (so_var (pv 1)) sa_nil)))))))))
theorem cal_is_bid (T : Top K mg) {f : Addr} {fd : FuncData} (F : Fun K "is_bid" "is_bid" s_is_bid f fd) (hm : mg "is_bid" = some (.ref f)) (k_is_tuple_of : Cal P w K mg base 1 "is_tuple_of" 3 f_is_tuple_of) (k_is_within : Cal P w K mg base 2 "is_within" 3 f_is_within) (k_is_buyer : Cal P w K mg base 3 "is_buyer" 1 f_is_buyer) : Cal P w K mg base 4 "is_bid" 1 f_is_bid := by
  have hB : Binds K fd ["thing"] [] := F.binds fun _ _ _ _ _ _ us hl => match us, hl with | [_], _ => rfl
  obtain ⟨tc_GREATEST_BOUND, hc_GREATEST_BOUND⟩ := T.x_GREATEST_BOUND
  show Cal P w K mg base (3 + 1) "is_bid" 1 (runM n_is_bid.length b_is_bid)
  refine cal_of (k := 3) (b := b_is_bid) F sc_is_bid hm hB rfl ?_
  intro cdv A outer s H E hr
  have hu := hu_of hr
  have hu64 := hr.units
  have tk := takes_of (X := cxOf (L2.CX P w) P w K mg base n_is_bid "is_bid" (defScope s_is_bid) f cdv A outer s H E) rfl rfl rfl rfl
  have po := passes_of (X := cxOf (L2.CX P w) P w K mg base n_is_bid "is_bid" (defScope s_is_bid) f cdv A outer s H E) rfl
  exact (sb_cons (ss_if (st_not (st_tru (so_fun k_is_tuple_of tk hr (by decide) rfl (sa_cons (so_var (pv 0)) (sa_cons so_int (sa_cons so_int sa_nil)))))) (sb_one (ss_ret so_bl)) sb_nil)
    (sb_one (ss_ret (so_andT (so_fun k_is_buyer tk hr (by decide) rfl (sa_cons (so_ix xd_ix (so_var (pv 0)) so_int (fun _ _ => rfl)) sa_nil)) (so_one (so_fun k_is_within tk hr (by decide) rfl (sa_cons (so_ix xd_ix (so_var (pv 0)) so_int (fun _ _ => rfl)) (sa_cons so_int (sa_cons (so_glob rfl hc_GREATEST_BOUND) sa_nil)))))))))
theorem cal_check_lot (T : Top K mg) {f : Addr} {fd : FuncData} (F : Fun K "check_lot" "check_lot" s_check_lot f fd) (hm : mg "check_lot" = some (.ref f)) (k_is_lot : Cal P w K mg base 3 "is_lot" 1 f_is_lot) : Cal P w K mg base 4 "check_lot" 1 f_check_lot := by
  have hB : Binds K fd ["thing"] [] := F.binds fun _ _ _ _ _ _ us hl => match us, hl with | [_], _ => rfl
  show Cal P w K mg base (3 + 1) "check_lot" 1 (runM n_check_lot.length b_check_lot)
  refine cal_of (k := 3) (b := b_check_lot) F sc_check_lot hm hB rfl ?_
  intro cdv A outer s H E hr
  have hu := hu_of hr
  have hu64 := hr.units
  have tk := takes_of (X := cxOf (L2.CX P w) P w K mg base n_check_lot "check_lot" (defScope s_check_lot) f cdv A outer s H E) rfl rfl rfl rfl
  have po := passes_of (X := cxOf (L2.CX P w) P w K mg base n_check_lot "check_lot" (defScope s_check_lot) f cdv A outer s H E) rfl
  exact (sb_one (ss_if (st_not (st_tru (so_fun k_is_lot tk hr (by decide) rfl (sa_cons (so_var (pv 0)) sa_nil)))) (sb_one ss_never) sb_nil))
theorem cal_law_scene (T : Top K mg) {f : Addr} {fd : FuncData} (F : Fun K "_law_scene" "_law_scene" s_law_scene f fd) (hm : mg "_law_scene" = some (.ref f)) (k_law_ladder : Cal P w K mg base 3 "_law_ladder" 1 f_law_ladder) (k_law_lot : Cal P w K mg base 3 "_law_lot" 2 f_law_lot) (k_law_bids : Cal P w K mg base 3 "_law_bids" 3 f_law_bids) : Cal P w K mg base 4 "_law_scene" 2 f_law_scene := by
  have hB : Binds K fd ["_law_pen_here", "_law_reach"] [] := F.binds fun _ _ _ _ _ _ us hl => match us, hl with | [_, _], _ => rfl
  show Cal P w K mg base (3 + 1) "_law_scene" 2 (runM n_law_scene.length b_law_scene)
  refine cal_of (k := 3) (b := b_law_scene) F sc_law_scene hm hB rfl ?_
  intro cdv A outer s H E hr
  have hu := hu_of hr
  have hu64 := hr.units
  have tk := takes_of (X := cxOf (L2.CX P w) P w K mg base n_law_scene "_law_scene" (defScope s_law_scene) f cdv A outer s H E) rfl rfl rfl rfl
  have po := passes_of (X := cxOf (L2.CX P w) P w K mg base n_law_scene "_law_scene" (defScope s_law_scene) f cdv A outer s H E) rfl
  exact (sb_cons (ss_par (ps_par (i := 2) (j := 3) rfl sc_law_scene.nd rfl rfl (by decide) rfl rfl (sa_cons (so_fun k_law_ladder tk hr (by decide) rfl (sa_cons (so_var (pv 0)) sa_nil)) (sa_cons (so_fun k_law_lot tk hr (by decide) rfl (sa_cons (so_var (pv 0)) (sa_cons (so_var (pv 1)) sa_nil))) sa_nil)) (by rfl)))
    (sb_one (ss_ret (so_tup (sa_cons (so_var (pv 2)) (sa_cons (so_var (pv 3)) (sa_cons (so_fun k_law_bids tk hr (by decide) rfl (sa_cons (so_var (pv 0)) (sa_cons (so_ix xd_ix (so_var (pv 3)) so_int (fun _ _ => rfl)) (sa_cons (so_var (pv 1)) sa_nil)))) sa_nil)))))))
theorem cal_law_other (T : Top K mg) {f : Addr} {fd : FuncData} (F : Fun K "_law_other" "_law_other" s_law_other f fd) (hm : mg "_law_other" = some (.ref f)) (k_law_draw : Cal P w K mg base 1 "_law_draw" 2 f_law_draw) (k_law_pick : Cal P w K mg base 2 "_law_pick" 2 f_law_pick) (k_law_parted : Cal P w K mg base 2 "_law_parted" 2 f_law_parted) (k_law_anything : Cal P w K mg base 3 "_law_anything" 1 f_law_anything) : Cal P w K mg base 4 "_law_other" 2 f_law_other := by
  have hB : Binds K fd ["_law_pen_here", "_law_rows_here"] [] := F.binds fun _ _ _ _ _ _ us hl => match us, hl with | [_, _], _ => rfl
  show Cal P w K mg base (3 + 1) "_law_other" 2 (runM n_law_other.length b_law_other)
  refine cal_of (k := 3) (b := b_law_other) F sc_law_other hm hB rfl ?_
  intro cdv A outer s H E hr
  have hu := hu_of hr
  have hu64 := hr.units
  have tk := takes_of (X := cxOf (L2.CX P w) P w K mg base n_law_other "_law_other" (defScope s_law_other) f cdv A outer s H E) rfl rfl rfl rfl
  have po := passes_of (X := cxOf (L2.CX P w) P w K mg base n_law_other "_law_other" (defScope s_law_other) f cdv A outer s H E) rfl
  exact (sb_cons (ss_if (st_cmp (od_eq hu64) (so_var (pv 1)) (so_lst sa_nil) (nomark _)) (sb_one (ss_ret (so_fun k_law_pick tk hr (by decide) rfl (sa_cons (so_var (pv 0)) (sa_cons (so_lst (sa_cons (so_lst (sa_cons (so_tup sa_nil) sa_nil)) (sa_cons (so_tup sa_nil) (sa_cons so_non (sa_cons (so_lst (sa_cons (so_tup (sa_cons so_int (sa_cons so_int (sa_cons so_int (sa_cons so_non sa_nil))))) sa_nil)) (sa_cons (so_lst (sa_cons (so_tup (sa_cons so_int (sa_cons so_int (sa_cons so_non (sa_cons so_non sa_nil))))) sa_nil)) sa_nil)))))) sa_nil))))) sb_nil)
    (sb_cons (ss_set (ps_set (i := 2) sc_law_other.nd rfl (Or.inl rfl) (so_fun k_law_draw tk hr (by decide) rfl (sa_cons (so_var (pv 0)) (sa_cons (so_blt cd_len rfl T.z_len (by decide +kernel) (sa_cons (so_var (pv 1)) sa_nil)) sa_nil)))))
    (sb_cons (ss_par (ps_par (i := 3) (j := 4) rfl sc_law_other.nd rfl rfl (by decide) rfl rfl (sa_cons (so_ix xd_ix (so_var (pv 1)) (so_var (pv 2)) (fun _ _ => rfl)) (sa_cons (so_fun k_law_draw tk hr (by decide) rfl (sa_cons (so_var (pv 0)) (sa_cons so_int sa_nil))) sa_nil)) (by rfl)))
    (sb_cons (ss_set (ps_set (i := 5) sc_law_other.nd rfl (Or.inl rfl) (so_fun k_law_pick tk hr (by decide) rfl (sa_cons (so_var (pv 0)) (sa_cons (so_lst (sa_cons so_int (sa_cons so_int (sa_cons so_bl (sa_cons so_bl (sa_cons so_non (sa_cons so_str (sa_cons (so_op od_pow so_int so_int) (sa_cons so_int (sa_cons so_int sa_nil)))))))))) sa_nil)))))
    (sb_cons (ss_set (ps_set (i := 6) sc_law_other.nd rfl (Or.inl rfl) (so_op od_add (so_op od_add (so_cut (so_var (pv 3)) so_no (so_yes so_int)) (so_tup (sa_cons (so_op od_add (so_ix xd_ix (so_var (pv 3)) so_int (fun _ _ => rfl)) so_int) sa_nil))) (so_cut (so_var (pv 3)) (so_yes so_int) so_no))))
    (sb_cons (ss_set (ps_set (i := 7) sc_law_other.nd rfl (Or.inl rfl) (so_lst (sa_cons (so_op od_add (so_op od_add (so_cut (so_var (pv 3)) so_no (so_yes (so_var (pv 4)))) (so_tup (sa_cons (so_var (pv 5)) sa_nil))) (so_cut (so_var (pv 3)) (so_yes (so_op od_add (so_var (pv 4)) so_int)) so_no)) (sa_cons (so_var (pv 6)) (sa_cons (so_tup (sa_cons (so_ix xd_ix (so_var (pv 3)) so_int (fun _ _ => rfl)) (sa_cons (so_ix xd_ix (so_var (pv 3)) so_int (fun _ _ => rfl)) (sa_cons (so_ix xd_ix (so_var (pv 3)) so_int (fun _ _ => rfl)) (sa_cons (so_ix xd_ix (so_var (pv 3)) so_int (fun _ _ => rfl)) sa_nil))))) (sa_cons (so_ty (cd_list rfl) rfl T.z_list (by decide +kernel) (sa_cons (so_var (pv 3)) sa_nil)) (sa_cons (so_op od_add (so_var (pv 3)) (so_tup (sa_cons so_int sa_nil))) sa_nil))))))))
    (sb_cons (ss_set (ps_set (i := 7) sc_law_other.nd rfl (Or.inl rfl) (so_op od_add (so_var (pv 7)) (so_lst (sa_cons (so_op od_add (so_tup (sa_cons (so_op od_add (so_ix xd_ix (so_var (pv 3)) so_int (fun _ _ => rfl)) so_int) sa_nil)) (so_cut (so_var (pv 3)) (so_yes so_int) so_no)) (sa_cons (so_op od_add (so_cut (so_var (pv 3)) so_no (so_yes so_int)) (so_tup (sa_cons so_non sa_nil))) sa_nil))))))
    (sb_cons (ss_set (ps_set (i := 8) sc_law_other.nd rfl (Or.inl rfl) (so_op od_add (so_op od_add (so_cut (so_var (pv 1)) so_no (so_yes (so_var (pv 2)))) (so_lst (sa_cons (so_fun k_law_pick tk hr (by decide) rfl (sa_cons (so_var (pv 0)) (sa_cons (so_var (pv 7)) sa_nil))) sa_nil))) (so_cut (so_var (pv 1)) (so_yes (so_op od_add (so_var (pv 2)) so_int)) so_no))))
    (sb_cons (ss_set (ps_set (i := 9) sc_law_other.nd rfl (Or.inl rfl) (so_lst (sa_cons (so_var (pv 8)) (sa_cons (so_var (pv 8)) (sa_cons (so_var (pv 8)) (sa_cons (so_op od_add (so_op od_add (so_cut (so_var (pv 1)) so_no (so_yes (so_var (pv 2)))) (so_fun k_law_parted tk hr (by decide) rfl (sa_cons (so_var (pv 0)) (sa_cons (so_var (pv 3)) sa_nil)))) (so_cut (so_var (pv 1)) (so_yes (so_op od_add (so_var (pv 2)) so_int)) so_no)) (sa_cons (so_op od_add (so_cut (so_var (pv 1)) so_no (so_yes (so_var (pv 2)))) (so_cut (so_var (pv 1)) (so_yes (so_op od_add (so_var (pv 2)) so_int)) so_no)) sa_nil))))))))
    (sb_cons (ss_set (ps_set (i := 9) sc_law_other.nd rfl (Or.inl rfl) (so_op od_add (so_var (pv 9)) (so_lst (sa_cons (so_op od_add (so_var (pv 1)) (so_cut (so_var (pv 1)) (so_yes (so_un ud_neg so_int)) so_no)) (sa_cons (so_rev2 (so_var (pv 1))) (sa_cons (so_ty cd_tuple rfl T.z_tuple (by decide +kernel) (sa_cons (so_var (pv 1)) sa_nil)) (sa_cons (so_op od_add (so_op od_add (so_cut (so_var (pv 1)) so_no (so_yes (so_var (pv 2)))) (so_lst (sa_cons (so_var (pv 3)) (sa_cons (so_var (pv 3)) sa_nil)))) (so_cut (so_var (pv 1)) (so_yes (so_op od_add (so_var (pv 2)) so_int)) so_no)) sa_nil))))))))
    (sb_one (ss_ret (so_fun k_law_pick tk hr (by decide) rfl (sa_cons (so_var (pv 0)) (sa_cons (so_op od_add (so_var (pv 9)) (so_lst (sa_cons (so_fun k_law_anything tk hr (by decide) rfl (sa_cons (so_var (pv 0)) sa_nil)) sa_nil))) sa_nil)))))))))))))))
theorem cal_check_ladder (T : Top K mg) {f : Addr} {fd : FuncData} (F : Fun K "check_ladder" "check_ladder" s_check_ladder f fd) (hm : mg "check_ladder" = some (.ref f)) (k_is_ladder : Cal P w K mg base 4 "is_ladder" 1 f_is_ladder) : Cal P w K mg base 5 "check_ladder" 1 f_check_ladder := by
  have hB : Binds K fd ["thing"] [] := F.binds fun _ _ _ _ _ _ us hl => match us, hl with | [_], _ => rfl
  show Cal P w K mg base (4 + 1) "check_ladder" 1 (runM n_check_ladder.length b_check_ladder)
  refine cal_of (k := 4) (b := b_check_ladder) F sc_check_ladder hm hB rfl ?_
  intro cdv A outer s H E hr
  have hu := hu_of hr
  have hu64 := hr.units
  have tk := takes_of (X := cxOf (L2.CX P w) P w K mg base n_check_ladder "check_ladder" (defScope s_check_ladder) f cdv A outer s H E) rfl rfl rfl rfl
  have po := passes_of (X := cxOf (L2.CX P w) P w K mg base n_check_ladder "check_ladder" (defScope s_check_ladder) f cdv A outer s H E) rfl
  exact (sb_one (ss_if (st_not (st_tru (so_fun k_is_ladder tk hr (by decide) rfl (sa_cons (so_var (pv 0)) sa_nil)))) (sb_one ss_never) sb_nil))
theorem cal_are_bids (T : Top K mg) {f : Addr} {fd : FuncData} (F : Fun K "are_bids" "are_bids" s_are_bids f fd) (hm : mg "are_bids" = some (.ref f)) (k_is_tuple_of : Cal P w K mg base 1 "is_tuple_of" 3 f_is_tuple_of) (k_is_bid : Cal P w K mg base 4 "is_bid" 1 f_is_bid) : Cal P w K mg base 5 "are_bids" 1 f_are_bids := by
  have hB : Binds K fd ["thing"] [] := F.binds fun _ _ _ _ _ _ us hl => match us, hl with | [_], _ => rfl
  obtain ⟨tc_MOST_BIDS, hc_MOST_BIDS⟩ := T.x_MOST_BIDS
  show Cal P w K mg base (4 + 1) "are_bids" 1 (runM n_are_bids.length b_are_bids)
  refine cal_of (k := 4) (b := b_are_bids) F sc_are_bids hm hB rfl ?_
  intro cdv A outer s H E hr
  have hu := hu_of hr
  have hu64 := hr.units
  have tk := takes_of (X := cxOf (L2.CX P w) P w K mg base n_are_bids "are_bids" (defScope s_are_bids) f cdv A outer s H E) rfl rfl rfl rfl
  have po := passes_of (X := cxOf (L2.CX P w) P w K mg base n_are_bids "are_bids" (defScope s_are_bids) f cdv A outer s H E) rfl
  exact (sb_cons (ss_if (st_not (st_tru (so_fun k_is_tuple_of tk hr (by decide) rfl (sa_cons (so_var (pv 0)) (sa_cons so_int (sa_cons (so_glob rfl hc_MOST_BIDS) sa_nil)))))) (sb_one (ss_ret so_bl)) sb_nil)
    (sb_cons (ss_if (st_not (st_tru (so_blt (cd_all rfl) rfl T.z_all (by decide +kernel) (sa_cons (so_lc (own := [("pair", 1)]) (pt := (.one 1)) rfl sc_are_bids.nd (si_seq (so_var (pv 0))) (blkOk_by (own := [("pair", 1)]) (N := n_are_bids) (sc := defScope s_are_bids) (by decide +kernel)) (fun _ _ _ _ _ => (pg_name (i := 1) sc_are_bids.nd rfl (Or.inl rfl))) (fun _ _ _ _ _ => pts_none) (fun _ _ _ _ _ => (so_fun k_is_bid takes0 hr (by decide) rfl (sa_cons (so_var (pv 1)) sa_nil)))) sa_nil)))) (sb_one (ss_ret so_bl)) sb_nil)
    (sb_one (ss_ret (so_cmp (od_eq hu64) (so_lenSc (own := [("buyer", 2), ("bound", 3)]) (pt := (.many [2, 3])) rfl sc_are_bids.nd rfl T.z_len (si_seq (so_var (pv 0))) (blkOk_by (own := [("buyer", 2), ("bound", 3)]) (N := n_are_bids) (sc := defScope s_are_bids) (by decide +kernel)) (fun _ _ _ _ _ => (pg_tup rfl (pgs_cons (pg_name (i := 2) sc_are_bids.nd rfl (Or.inl rfl)) (pgs_cons (pg_name (i := 3) sc_are_bids.nd rfl (Or.inl rfl)) pgs_nil)))) (fun _ _ _ _ _ => pts_none) (fun _ _ _ _ _ => (so_var (pv 2)))) (so_blt cd_len rfl T.z_len (by decide +kernel) (sa_cons (so_var (pv 0)) sa_nil)) (nomark _))))))
theorem cal_last_rung (T : Top K mg) {f : Addr} {fd : FuncData} (F : Fun K "last_rung" "last_rung" s_last_rung f fd) (hm : mg "last_rung" = some (.ref f)) (k_flights_of : Cal P w K mg base 1 "flights_of" 2 f_flights_of) (k_check_price : Cal P w K mg base 3 "check_price" 3 f_check_price) (k_check_ladder : Cal P w K mg base 5 "check_ladder" 1 f_check_ladder) : Cal P w K mg base 6 "last_rung" 3 f_last_rung := by
  have hB : Binds K fd ["ladder", "start", "bound"] [] := F.binds fun _ _ _ _ _ _ us hl => match us, hl with | [_, _, _], _ => rfl
  obtain ⟨tc_GREATEST_BOUND, hc_GREATEST_BOUND⟩ := T.x_GREATEST_BOUND
  show Cal P w K mg base (5 + 1) "last_rung" 3 (runM n_last_rung.length b_last_rung)
  refine cal_of (k := 5) (b := b_last_rung) F sc_last_rung hm hB rfl ?_
  intro cdv A outer s H E hr
  have hu := hu_of hr
  have hu64 := hr.units
  have tk := takes_of (X := cxOf (L2.CX P w) P w K mg base n_last_rung "last_rung" (defScope s_last_rung) f cdv A outer s H E) rfl rfl rfl rfl
  have po := passes_of (X := cxOf (L2.CX P w) P w K mg base n_last_rung "last_rung" (defScope s_last_rung) f cdv A outer s H E) rfl
  exact (sb_cons (ss_drop (so_fun k_check_ladder tk hr (by decide) rfl (sa_cons (so_var (pv 0)) sa_nil)))
    (sb_cons (ss_drop (so_fun k_check_price tk hr (by decide) rfl (sa_cons (so_var (pv 1)) (sa_cons so_int (sa_cons (so_glob rfl hc_GREATEST_BOUND) sa_nil)))))
    (sb_cons (ss_drop (so_fun k_check_price tk hr (by decide) rfl (sa_cons (so_var (pv 2)) (sa_cons so_int (sa_cons (so_glob rfl hc_GREATEST_BOUND) sa_nil)))))
    (sb_cons (ss_setLc (i := 3) (own := [("flight", 7)]) (pt := (.one 7)) rfl sc_last_rung.nd rfl rfl (sw_true rfl rfl rfl (by decide +kernel)) (si_seq (so_fun k_flights_of tk hr (by decide) rfl (sa_cons (so_var (pv 0)) (sa_cons (so_var (pv 1)) sa_nil)))) (blkOk_by (own := [("flight", 7)]) (N := n_last_rung) (sc := defScope s_last_rung) (by decide +kernel)) (fun _ _ _ _ _ => (pg_name (i := 7) sc_last_rung.nd rfl (Or.inl rfl))) (fun _ _ _ _ _ => (pts_some (st_cmp od_le (so_ix xd_ix (so_var (pv 7)) so_int (fun _ _ => rfl)) (so_var (pv 2)) (nomark _)))) (fun _ _ _ _ _ => (so_var (pv 7))))
    (sb_cons (ss_if (st_not (st_tru (so_var (pv 3)))) (sb_one (ss_ret so_non)) sb_nil)
    (sb_cons (ss_asg (so_ix xd_ix (so_var (pv 3)) (so_un ud_neg so_int) (fun _ _ => rfl)) (sg_tup rfl (sgs_cons (W := fun c d _ H => E c d H) (sg_name (pg_name (i := 4) sc_last_rung.nd rfl (Or.inl rfl))) (sgs_cons (W := fun c d _ H => E c d H) (sg_name (pg_name (i := 5) sc_last_rung.nd rfl (Or.inl rfl))) (sgs_cons (W := fun c d _ H => E c d H) (sg_name (pg_name (i := 6) sc_last_rung.nd rfl (Or.inl rfl))) sgs_nil)))))
    (sb_one (ss_ret (so_op od_add (so_var (pv 4)) (so_op od_div (so_op od_sub (so_var (pv 2)) (so_var (pv 5))) (so_var (pv 6))))))))))))
theorem cal_check_bids (T : Top K mg) {f : Addr} {fd : FuncData} (F : Fun K "check_bids" "check_bids" s_check_bids f fd) (hm : mg "check_bids" = some (.ref f)) (k_are_bids : Cal P w K mg base 5 "are_bids" 1 f_are_bids) : Cal P w K mg base 6 "check_bids" 1 f_check_bids := by
  have hB : Binds K fd ["thing"] [] := F.binds fun _ _ _ _ _ _ us hl => match us, hl with | [_], _ => rfl
  show Cal P w K mg base (5 + 1) "check_bids" 1 (runM n_check_bids.length b_check_bids)
  refine cal_of (k := 5) (b := b_check_bids) F sc_check_bids hm hB rfl ?_
  intro cdv A outer s H E hr
  have hu := hu_of hr
  have hu64 := hr.units
  have tk := takes_of (X := cxOf (L2.CX P w) P w K mg base n_check_bids "check_bids" (defScope s_check_bids) f cdv A outer s H E) rfl rfl rfl rfl
  have po := passes_of (X := cxOf (L2.CX P w) P w K mg base n_check_bids "check_bids" (defScope s_check_bids) f cdv A outer s H E) rfl
  exact (sb_one (ss_if (st_not (st_tru (so_fun k_are_bids tk hr (by decide) rfl (sa_cons (so_var (pv 0)) sa_nil)))) (sb_one ss_never) sb_nil))
theorem cal_check_offer (T : Top K mg) {f : Addr} {fd : FuncData} (F : Fun K "check_offer" "check_offer" s_check_offer f fd) (hm : mg "check_offer" = some (.ref f)) (k_check_lot : Cal P w K mg base 4 "check_lot" 1 f_check_lot) (k_check_ladder : Cal P w K mg base 5 "check_ladder" 1 f_check_ladder) (k_check_bids : Cal P w K mg base 6 "check_bids" 1 f_check_bids) : Cal P w K mg base 7 "check_offer" 3 f_check_offer := by
  have hB : Binds K fd ["ladder", "lot", "bids"] [] := F.binds fun _ _ _ _ _ _ us hl => match us, hl with | [_, _, _], _ => rfl
  show Cal P w K mg base (6 + 1) "check_offer" 3 (runM n_check_offer.length b_check_offer)
  refine cal_of (k := 6) (b := b_check_offer) F sc_check_offer hm hB rfl ?_
  intro cdv A outer s H E hr
  have hu := hu_of hr
  have hu64 := hr.units
  have tk := takes_of (X := cxOf (L2.CX P w) P w K mg base n_check_offer "check_offer" (defScope s_check_offer) f cdv A outer s H E) rfl rfl rfl rfl
  have po := passes_of (X := cxOf (L2.CX P w) P w K mg base n_check_offer "check_offer" (defScope s_check_offer) f cdv A outer s H E) rfl
  exact (sb_cons (ss_drop (so_fun k_check_ladder tk hr (by decide) rfl (sa_cons (so_var (pv 0)) sa_nil)))
    (sb_cons (ss_drop (so_fun k_check_lot tk hr (by decide) rfl (sa_cons (so_var (pv 1)) sa_nil)))
    (sb_one (ss_drop (so_fun k_check_bids tk hr (by decide) rfl (sa_cons (so_var (pv 2)) sa_nil))))))
theorem cal_tops_of (T : Top K mg) {f : Addr} {fd : FuncData} (F : Fun K "tops_of" "tops_of" s_tops_of f fd) (hm : mg "tops_of" = some (.ref f)) (k_last_rung : Cal P w K mg base 6 "last_rung" 3 f_last_rung) (k_check_offer : Cal P w K mg base 7 "check_offer" 3 f_check_offer) : Cal P w K mg base 8 "tops_of" 3 f_tops_of := by
  have hB : Binds K fd ["ladder", "lot", "bids"] [] := F.binds fun _ _ _ _ _ _ us hl => match us, hl with | [_, _, _], _ => rfl
  show Cal P w K mg base (7 + 1) "tops_of" 3 (runM n_tops_of.length b_tops_of)
  refine cal_of (k := 7) (b := b_tops_of) F sc_tops_of hm hB rfl ?_
  intro cdv A outer s H E hr
  have hu := hu_of hr
  have hu64 := hr.units
  have tk := takes_of (X := cxOf (L2.CX P w) P w K mg base n_tops_of "tops_of" (defScope s_tops_of) f cdv A outer s H E) rfl rfl rfl rfl
  have po := passes_of (X := cxOf (L2.CX P w) P w K mg base n_tops_of "tops_of" (defScope s_tops_of) f cdv A outer s H E) rfl
  exact (sb_cons (ss_drop (so_fun k_check_offer tk hr (by decide) rfl (sa_cons (so_var (pv 0)) (sa_cons (so_var (pv 1)) (sa_cons (so_var (pv 2)) sa_nil)))))
    (sb_cons (ss_set (ps_set (i := 3) sc_tops_of.nd rfl (Or.inr rfl) (so_ix xd_ix (so_var (pv 1)) so_int (fun _ _ => rfl))))
    (sb_one (ss_ret (so_lc (own := [("buyer", 4), ("bound", 5)]) (pt := (.many [4, 5])) rfl sc_tops_of.nd (si_seq (so_var (pv 2))) (blkOk_by (own := [("buyer", 4), ("bound", 5)]) (N := n_tops_of) (sc := defScope s_tops_of) (by decide +kernel)) (fun _ _ _ _ _ => (pg_tup rfl (pgs_cons (pg_name (i := 4) sc_tops_of.nd rfl (Or.inl rfl)) (pgs_cons (pg_name (i := 5) sc_tops_of.nd rfl (Or.inl rfl)) pgs_nil)))) (fun _ _ _ _ _ => pts_none) (fun _ _ _ _ _ => (so_fun k_last_rung takes0 hr (by decide) rfl (sa_cons (so_var (pv 0)) (sa_cons (so_var (pv 3)) (sa_cons (so_var (pv 5)) sa_nil))))))))))
theorem cal_tops_by_buyer (T : Top K mg) {f : Addr} {fd : FuncData} (F : Fun K "tops_by_buyer" "tops_by_buyer" s_tops_by_buyer f fd) (hm : mg "tops_by_buyer" = some (.ref f)) (k_tops_of : Cal P w K mg base 8 "tops_of" 3 f_tops_of) : Cal P w K mg base 9 "tops_by_buyer" 3 f_tops_by_buyer := by
  have hB : Binds K fd ["ladder", "lot", "bids"] [] := F.binds fun _ _ _ _ _ _ us hl => match us, hl with | [_, _, _], _ => rfl
  show Cal P w K mg base (8 + 1) "tops_by_buyer" 3 (runM n_tops_by_buyer.length b_tops_by_buyer)
  refine cal_of (k := 8) (b := b_tops_by_buyer) F sc_tops_by_buyer hm hB rfl ?_
  intro cdv A outer s H E hr
  have hu := hu_of hr
  have hu64 := hr.units
  have tk := takes_of (X := cxOf (L2.CX P w) P w K mg base n_tops_by_buyer "tops_by_buyer" (defScope s_tops_by_buyer) f cdv A outer s H E) rfl rfl rfl rfl
  have po := passes_of (X := cxOf (L2.CX P w) P w K mg base n_tops_by_buyer "tops_by_buyer" (defScope s_tops_by_buyer) f cdv A outer s H E) rfl
  exact (sb_cons (ss_set (ps_set (i := 3) sc_tops_by_buyer.nd rfl (Or.inl rfl) (so_fun k_tops_of tk hr (by decide) rfl (sa_cons (so_var (pv 0)) (sa_cons (so_var (pv 1)) (sa_cons (so_var (pv 2)) sa_nil))))))
    (sb_one (ss_ret (so_seal (so_dc (own := [("buyer", 4), ("bound", 5), ("top", 6)]) (pt := (.nest [4, 5] 6)) rfl sc_tops_by_buyer.nd (si_zipTL rfl T.z_zip (sa_cons (so_var (pv 2)) (sa_cons (so_var (pv 3)) sa_nil))) (blkOk_by (own := [("buyer", 4), ("bound", 5), ("top", 6)]) (N := n_tops_by_buyer) (sc := defScope s_tops_by_buyer) (by decide +kernel)) (fun _ _ _ _ _ => (pg_tup rfl (pgs_cons (pg_tup rfl (pgs_cons (pg_name (i := 4) sc_tops_by_buyer.nd rfl (Or.inl rfl)) (pgs_cons (pg_name (i := 5) sc_tops_by_buyer.nd rfl (Or.inl rfl)) pgs_nil))) (pgs_cons (pg_name (i := 6) sc_tops_by_buyer.nd rfl (Or.inl rfl)) pgs_nil)))) (fun _ _ _ _ _ => (pts_some (st_cmp od_notN (so_var (pv 6)) so_non (nomark _)))) (fun _ _ _ _ _ => (so_var (pv 4))) (fun _ _ _ _ _ => (so_var (pv 6))))))))
theorem cal_course_of (T : Top K mg) {f : Addr} {fd : FuncData} (F : Fun K "course_of" "course_of" s_course_of f fd) (hm : mg "course_of" = some (.ref f)) (k_taker_behind : Cal P w K mg base 1 "taker_behind" 3 f_taker_behind) (k_taker_in : Cal P w K mg base 1 "taker_in" 2 f_taker_in) (k_stretch_from : Cal P w K mg base 2 "stretch_from" 3 f_stretch_from) (k_tops_by_buyer : Cal P w K mg base 9 "tops_by_buyer" 3 f_tops_by_buyer) : Cal P w K mg base 10 "course_of" 3 f_course_of := by
  have hB : Binds K fd ["ladder", "lot", "bids"] [] := F.binds fun _ _ _ _ _ _ us hl => match us, hl with | [_, _, _], _ => rfl
  show Cal P w K mg base (9 + 1) "course_of" 3 (runM n_course_of.length b_course_of)
  refine cal_of (k := 9) (b := b_course_of) F sc_course_of hm hB rfl ?_
  intro cdv A outer s H E hr
  have hu := hu_of hr
  have hu64 := hr.units
  have tk := takes_of (X := cxOf (L2.CX P w) P w K mg base n_course_of "course_of" (defScope s_course_of) f cdv A outer s H E) rfl rfl rfl rfl
  have po := passes_of (X := cxOf (L2.CX P w) P w K mg base n_course_of "course_of" (defScope s_course_of) f cdv A outer s H E) rfl
  exact (sb_cons (ss_set (ps_set (i := 3) sc_course_of.nd rfl (Or.inl rfl) (so_fun k_tops_by_buyer tk hr (by decide) rfl (sa_cons (so_var (pv 0)) (sa_cons (so_var (pv 1)) (sa_cons (so_var (pv 2)) sa_nil))))))
    (sb_cons (ss_set (ps_set (i := 4) sc_course_of.nd rfl (Or.inl rfl) (so_lst sa_nil)))
    (sb_cons (ss_set (ps_set (i := 5) sc_course_of.nd rfl (Or.inl rfl) so_int))
    (sb_cons (ss_set (ps_set (i := 6) sc_course_of.nd rfl (Or.inl rfl) (so_fun k_taker_behind tk hr (by decide) rfl (sa_cons (so_var (pv 3)) (sa_cons (so_var (pv 5)) (sa_cons so_non sa_nil))))))
    (sb_cons (ss_while 1000000 po (st_cmp od_notN (so_var (pv 6)) so_non (nomark _)) (sb_cons (ss_set (ps_set (i := 7) sc_course_of.nd rfl (Or.inl rfl) (so_fun k_stretch_from tk hr (by decide) rfl (sa_cons (so_var (pv 3)) (sa_cons (so_var (pv 5)) (sa_cons (so_var (pv 6)) sa_nil))))))
    (sb_cons (ss_drop (so_mtL PySem.F.slot_list_append PySem.F.type_list_append td_append (so_var (pv 4)) (sa_cons (so_var (pv 7)) sa_nil) (pe_bm PySem.F.plainAttrs_list PySem.F.slot_list_append PySem.F.type_list_append td_append (so_var (pv 4)) (sa_cons (so_var (pv 7)) sa_nil))))
    (sb_cons (ss_set (ps_set (i := 8) sc_course_of.nd rfl (Or.inl rfl) (so_ix xd_ix (so_var (pv 7)) so_int (fun _ _ => rfl))))
    (sb_cons (ss_set (ps_set (i := 5) sc_course_of.nd rfl (Or.inl rfl) (so_op od_add (so_var (pv 8)) so_int)))
    (sb_one (ss_set (ps_set (i := 6) sc_course_of.nd rfl (Or.inl rfl) (so_fun k_taker_behind tk hr (by decide) rfl (sa_cons (so_var (pv 3)) (sa_cons (so_var (pv 5)) (sa_cons (so_fun k_taker_in tk hr (by decide) rfl (sa_cons (so_var (pv 7)) (sa_cons (so_var (pv 8)) sa_nil))) sa_nil))))))))))))
    (sb_one (ss_ret (so_var (pv 4)))))))))
theorem cal_is_course (T : Top K mg) {f : Addr} {fd : FuncData} (F : Fun K "is_course" "is_course" s_is_course f fd) (hm : mg "is_course" = some (.ref f)) (k_is_stretch : Cal P w K mg base 2 "is_stretch" 2 f_is_stretch) (k_course_of : Cal P w K mg base 10 "course_of" 3 f_course_of) : Cal P w K mg base 11 "is_course" 4 f_is_course := by
  have hB : Binds K fd ["ladder", "lot", "bids", "thing"] [] := F.binds fun _ _ _ _ _ _ us hl => match us, hl with | [_, _, _, _], _ => rfl
  show Cal P w K mg base (10 + 1) "is_course" 4 (runM n_is_course.length b_is_course)
  refine cal_of (k := 10) (b := b_is_course) F sc_is_course hm hB rfl ?_
  intro cdv A outer s H E hr
  have hu := hu_of hr
  have hu64 := hr.units
  have tk := takes_of (X := cxOf (L2.CX P w) P w K mg base n_is_course "is_course" (defScope s_is_course) f cdv A outer s H E) rfl rfl rfl rfl
  have po := passes_of (X := cxOf (L2.CX P w) P w K mg base n_is_course "is_course" (defScope s_is_course) f cdv A outer s H E) rfl
  exact (sb_cons (ss_set (ps_set (i := 4) sc_is_course.nd rfl (Or.inl rfl) (so_fun k_course_of tk hr (by decide) rfl (sa_cons (so_var (pv 0)) (sa_cons (so_var (pv 1)) (sa_cons (so_var (pv 2)) sa_nil))))))
    (sb_cons (ss_if (SW.st (sw_or (st_not (st_tru (so_isi (so_var (pv 3)) rfl T.z_isinstance rfl T.z_list (by decide +kernel) (by decide) (by decide) (by decide)))) (sw_or1 (st_cmp (od_ne hu64) (so_blt cd_len rfl T.z_len (by decide +kernel) (sa_cons (so_var (pv 3)) sa_nil)) (so_blt cd_len rfl T.z_len (by decide +kernel) (sa_cons (so_var (pv 4)) sa_nil)) (nomark _))))) (sb_one (ss_ret so_bl)) sb_nil)
    (sb_one (ss_ret (so_blt (cd_all rfl) rfl T.z_all (by decide +kernel) (sa_cons (so_lc (own := [("told", 5), ("stretch", 6)]) (pt := (.many [5, 6])) rfl sc_is_course.nd (si_zip rfl T.z_zip (sa_cons (so_var (pv 3)) (sa_cons (so_var (pv 4)) sa_nil))) (blkOk_by (own := [("told", 5), ("stretch", 6)]) (N := n_is_course) (sc := defScope s_is_course) (by decide +kernel)) (fun _ _ _ _ _ => (pg_tup rfl (pgs_cons (pg_name (i := 5) sc_is_course.nd rfl (Or.inl rfl)) (pgs_cons (pg_name (i := 6) sc_is_course.nd rfl (Or.inl rfl)) pgs_nil)))) (fun _ _ _ _ _ => pts_none) (fun _ _ _ _ _ => (so_fun k_is_stretch takes0 hr (by decide) rfl (sa_cons (so_var (pv 5)) (sa_cons (so_var (pv 6)) sa_nil))))) sa_nil))))))
theorem ok_law (T : Top K mg) {f : Addr} {fd : FuncData} (F : Fun K "law" "law" s_law f fd) (hm : mg "law" = some (.ref f)) (k_law_cell : Cal P w K mg base 1 "_law_cell" 2 f_law_cell) (k_law_pen : Cal P w K mg base 1 "_law_pen" 1 f_law_pen) (k_law_same : Cal P w K mg base 5 "_law_same" 2 (f_law_same 4)) (k_law_pick : Cal P w K mg base 2 "_law_pick" 2 f_law_pick) (k_law_runners : Cal P w K mg base 2 "_law_runners" 3 f_law_runners) (k_law_rows : Cal P w K mg base 2 "_law_rows" 1 f_law_rows) (k_law_scene : Cal P w K mg base 4 "_law_scene" 2 f_law_scene) (k_law_other : Cal P w K mg base 4 "_law_other" 2 f_law_other) (k_is_course : Cal P w K mg base 11 "is_course" 4 f_is_course) : FnG P w K mg base 12 f fd ["_law_script"] (spM ⟨K, mg⟩ 1 f_law) := by
  show FnG P w K mg base (11 + 1) f fd ["_law_script"] (spM ⟨K, mg⟩ (List.length (α := Str) ["_law_script"]) (runM n_law.length b_law))
  refine fn_okG (k := 11) (b := b_law) F sc_law ?_
  intro cdv A outer s H E hr gd
  have hu := hu_of hr
  have hu64 := hr.units
  have tk := takes_of (X := cxOf (L2.CX P w) P w K mg base n_law "law" (defScope s_law) f cdv A outer s H E) rfl rfl rfl rfl
  have po := passes_of (X := cxOf (L2.CX P w) P w K mg base n_law "law" (defScope s_law) f cdv A outer s H E) rfl
  exact (sb_cons (ss_forx po rfl (si_seq (so_op od_add (so_lst (sa_cons (so_fun k_law_cell tk hr (by decide) rfl (sa_cons (so_var (pv 0)) (sa_cons so_int sa_nil))) sa_nil)) (so_cut (so_var (pv 0)) (so_yes so_int) (so_yes so_int)))) (sg_name (pg_name (i := 1) sc_law.nd rfl (Or.inl rfl))) (sb_cons (ss_set (ps_set (i := 2) sc_law.nd rfl (Or.inr rfl) (so_fun k_law_pen tk hr (by decide) rfl (sa_cons (so_var (pv 1)) sa_nil))))
    (sb_cons (ss_asg (so_fun k_law_scene tk hr (by decide) rfl (sa_cons (so_var (pv 2)) (sa_cons (so_fun k_law_pick tk hr (by decide) rfl (sa_cons (so_var (pv 2)) (sa_cons (so_lst (sa_cons so_int (sa_cons so_int (sa_cons (so_op od_pow so_int so_int) sa_nil)))) sa_nil))) sa_nil))) (sg_tup rfl (sgs_cons (W := fun c d _ H => E c d H) (sg_name (pg_name (i := 3) sc_law.nd rfl (Or.inl rfl))) (sgs_cons (W := fun c d _ H => E c d H) (sg_name (pg_name (i := 4) sc_law.nd rfl (Or.inl rfl))) (sgs_cons (W := fun c d _ H => E c d H) (sg_name (pg_name (i := 5) sc_law.nd rfl (Or.inl rfl))) sgs_nil)))))
    (sb_cons (ss_set (ps_set (i := 6) sc_law.nd rfl (Or.inr rfl) (so_fun k_law_rows tk hr (by decide) rfl (sa_cons (so_fun k_law_runners tk hr (by decide) rfl (sa_cons (so_var (pv 3)) (sa_cons (so_var (pv 4)) (sa_cons (so_var (pv 5)) sa_nil)))) sa_nil))))
    (sb_one (ss_forx po rfl (si_seq (so_op od_add (so_lst (sa_cons (so_var (pv 6)) sa_nil)) (so_lc (own := [("_law_turn", 10)]) (pt := (.one 10)) rfl sc_law.nd (si_rng1 rfl T.z_range (sa_cons so_int sa_nil)) (blkOk_by (own := [("_law_turn", 10)]) (N := n_law) (sc := defScope s_law) (by decide +kernel)) (fun _ _ _ _ _ => (pg_name (i := 10) sc_law.nd rfl (Or.inl rfl))) (fun _ _ _ _ _ => pts_none) (fun _ _ _ _ _ => (so_fun k_law_other takes0 hr (by decide) rfl (sa_cons (so_var (pv 2)) (sa_cons (so_var (pv 6)) sa_nil))))))) (sg_name (pg_name (i := 7) sc_law.nd rfl (Or.inl rfl))) (sb_cons (ss_set (ps_set (i := 8) sc_law.nd rfl (Or.inl rfl) (so_blt (cd_reprX gd hu64) rfl T.z_repr (by decide +kernel) (sa_cons (so_var (pv 7)) sa_nil))))
    (sb_cons (ss_set (ps_set (i := 9) sc_law.nd rfl (Or.inl rfl) (so_fun k_is_course tk hr (by decide) rfl (sa_cons (so_var (pv 3)) (sa_cons (so_var (pv 4)) (sa_cons (so_var (pv 5)) (sa_cons (so_var (pv 7)) sa_nil)))))))
    (sb_one (ss_if (SW.st (sw_or (st_not (st_tru (so_fun k_law_same tk hr (by decide) rfl (sa_cons (so_var (pv 9)) (sa_cons (so_cmp (od_eq hu64) (so_var (pv 8)) (so_blt (cd_reprX gd hu64) rfl T.z_repr (by decide +kernel) (sa_cons (so_var (pv 6)) sa_nil)) (nomark _)) sa_nil))))) (sw_or1 (st_cmp (od_ne hu64) (so_blt (cd_reprX gd hu64) rfl T.z_repr (by decide +kernel) (sa_cons (so_var (pv 7)) sa_nil)) (so_var (pv 8)) (nomark _))))) (sb_one (ss_ret so_bl)) sb_nil))))))))))
    (sb_one (ss_ret so_bl)))
end
end Lk08
namespace Lk08
open PySem PySem.Spec PyProof.Rows L2 Mi Classical
local macro_rules
  | `(tactic| nofun) => `(tactic| (repeat (first | ((with_reducible refine' p_var ?pv ?_); case pv => rfl) | with_reducible refine p_seq ?_ | with_reducible refine p_if ?_ | with_reducible refine p_set ?_ | with_reducible refine p_ret ?_ | with_reducible refine p_drop ?_ | with_reducible refine p_B ?_ | with_reducible refine p_op ?_ | with_reducible refine p_un ?_ | with_reducible refine p_c ?_ | with_reducible refine p_tru ?_ | with_reducible refine p_and ?_ | with_reducible refine p_or ?_ | with_reducible refine p_not ?_ | with_reducible refine p_yes ?_ | with_reducible refine p_andT ?_ | with_reducible refine p_orT ?_ | with_reducible refine p_notT ?_ | with_reducible refine p_ifE ?_ | with_reducible refine p_isi ?_ | with_reducible refine p_chain ?_ | with_reducible refine p_next ?_ | with_reducible refine p_nil ?_ | with_reducible refine p_cons ?_ | with_reducible refine p_tup ?_ | with_reducible refine p_lst ?_ | with_reducible refine p_cb ?_ | with_reducible refine p_call ?_ | with_reducible refine p_asg ?_ | with_reducible refine p_par ?_ | with_reducible refine p_par3 ?_ | with_reducible refine p_gset ?_ | with_reducible refine p_gcons ?_ | with_reducible refine p_gnil ?_ | with_reducible refine p_lc ?_ | with_reducible refine p_for ?_ | with_reducible refine p_iseq ?_ | with_reducible refine p_irng1 ?_ | with_reducible refine p_izip ?_ | with_reducible refine p_ienum ?_ | with_reducible refine p_cut ?_ | with_reducible refine p_ono ?_ | with_reducible refine p_osome ?_ | with_reducible refine p_mtL ?_ | with_reducible refine p_item ?_ | with_reducible refine p_add ?_ | with_reducible refine p_addI ?_ | with_reducible refine p_sub ?_ | with_reducible refine p_pow6 ?_ | with_reducible refine p_pow5 ?_ | with_reducible refine p_pow9 ?_ | with_reducible refine p_pow12 ?_ | with_reducible refine p_pow18 ?_ | with_reducible refine p_pow20 ?_ | with_reducible refine p_pow39 ?_ | with_reducible refine p_lt ?_ | with_reducible refine p_le ?_ | with_reducible refine p_gt ?_ | with_reducible refine p_ge ?_ | with_reducible refine p_neg ?_ | with_reducible refine p_eqI ?_ | with_reducible refine p_neI ?_ | with_reducible refine p_eqB ?_ | with_reducible refine p_neB ?_ | with_reducible refine p_trI ?_ | with_reducible refine p_trB ?_ | with_reducible refine p_tB ?_ | with_reducible refine p_isN ?_ | with_reducible refine p_notN ?_ | with_reducible refine p_intI ?_ | with_reducible refine p_intB ?_ | with_reducible refine p_max2 ?_ | with_reducible refine p_min2 ?_ | with_reducible refine p_lenT ?_ | with_reducible refine p_lenF ?_ | with_reducible refine p_seqT ?_ | with_reducible refine p_cutF ?_ | with_reducible refine p_cutT ?_ | with_reducible refine p_zipT ?_ | with_reducible refine p_enumT ?_ | with_reducible refine iteT ?_ | with_reducible refine iteF ?_ | with_reducible refine iteNT ?_ | with_reducible refine iteNF ?_ | with_reducible refine iteNNF ?_ | with_reducible refine iteNNT ?_ | with_reducible refine p_run ?_ | with_reducible refine p_isi_N_int ?_ | with_reducible refine p_isi_N_bool ?_ | with_reducible refine p_isi_N_tuple ?_ | with_reducible refine p_isi_N_list ?_ | with_reducible refine p_isi_N_lt ?_ | with_reducible refine p_isi_N_str ?_ | with_reducible refine p_isi_N_dict ?_ | with_reducible refine p_isi_B_int ?_ | with_reducible refine p_isi_B_bool ?_ | with_reducible refine p_isi_B_tuple ?_ | with_reducible refine p_isi_B_list ?_ | with_reducible refine p_isi_B_lt ?_ | with_reducible refine p_isi_B_str ?_ | with_reducible refine p_isi_B_dict ?_ | with_reducible refine p_isi_I_int ?_ | with_reducible refine p_isi_I_bool ?_ | with_reducible refine p_isi_I_tuple ?_ | with_reducible refine p_isi_I_list ?_ | with_reducible refine p_isi_I_lt ?_ | with_reducible refine p_isi_I_str ?_ | with_reducible refine p_isi_I_dict ?_ | with_reducible refine p_isi_S_int ?_ | with_reducible refine p_isi_S_bool ?_ | with_reducible refine p_isi_S_tuple ?_ | with_reducible refine p_isi_S_list ?_ | with_reducible refine p_isi_S_lt ?_ | with_reducible refine p_isi_S_str ?_ | with_reducible refine p_isi_S_dict ?_ | with_reducible refine p_isi_T_int ?_ | with_reducible refine p_isi_T_bool ?_ | with_reducible refine p_isi_T_tuple ?_ | with_reducible refine p_isi_T_list ?_ | with_reducible refine p_isi_T_lt ?_ | with_reducible refine p_isi_T_str ?_ | with_reducible refine p_isi_T_dict ?_ | with_reducible refine p_isi_F_int ?_ | with_reducible refine p_isi_F_bool ?_ | with_reducible refine p_isi_F_tuple ?_ | with_reducible refine p_isi_F_list ?_ | with_reducible refine p_isi_F_lt ?_ | with_reducible refine p_isi_F_str ?_ | with_reducible refine p_isi_F_dict ?_ | ((with_reducible refine' p_aug ?pv ?_); case pv => rfl) | ((with_reducible refine p_tupT ?pv ?_); case pv => rfl) | ((with_reducible refine p_mul ?sd ?_); case sd => first | exact .inl ⟨by omega, by omega⟩ | exact .inr ⟨by omega, by omega⟩) | ((with_reducible refine p_mod ?sd ?_); case sd => omega) | ((with_reducible refine p_div ?sd ?_); case sd => exact wide_div (b := 200) (by omega) (by omega) (by decide) (by decide)) | ((with_reducible refine' p_ixT ?pv ?_); case pv => first | exact atI_0 _ _ | exact atI_1 _ _ _ | exact atI_2 _ _ _ _) | ((with_reducible refine And.intro ?sd ?_); case sd => first | rfl | (simp; done) | omega) | dsimp only)))
local macro_rules
  | `(tactic| array_mem_dec) => `(tactic| first | assumption | exact New.here (by assumption) | exact Upd.here (by assumption) | exact Gr.at (by assumption) (by array_mem_dec) | exact Gr.at (New.gr (by assumption)) (by array_mem_dec) | exact Pd.at (by assumption) (by first | assumption | omega) (by array_mem_dec) | exact Upd.other (by assumption) (by first | assumption | omega) (by array_mem_dec))
local macro_rules
  | `(tactic| array_get_dec) => `(tactic| first | exact Gr.refl _ | assumption | exact New.gr (by assumption) | (refine Gr.trans ?_ (New.gr (by assumption)); array_get_dec) | (refine Gr.trans ?_ (by assumption); array_get_dec) | exact Upd.gr (by assumption) (by array_get_dec) (by first | omega | exact Nat.le_trans (Gr.len (by array_get_dec)) (New.ge (by assumption))))
local macro_rules
  | `(tactic| sizeOf_list_dec) => `(tactic| (repeat (first | ((with_reducible refine' p_var ?pv ?_); case pv => rfl) | with_reducible refine p_seq ?_ | with_reducible refine p_if ?_ | with_reducible refine p_set ?_ | with_reducible refine p_ret ?_ | with_reducible refine p_drop ?_ | with_reducible refine p_B ?_ | with_reducible refine p_op ?_ | with_reducible refine p_un ?_ | with_reducible refine p_c ?_ | with_reducible refine p_tru ?_ | with_reducible refine p_and ?_ | with_reducible refine p_or ?_ | with_reducible refine p_not ?_ | with_reducible refine p_yes ?_ | with_reducible refine p_andT ?_ | with_reducible refine p_orT ?_ | with_reducible refine p_notT ?_ | with_reducible refine p_ifE ?_ | with_reducible refine p_isi ?_ | with_reducible refine p_chain ?_ | with_reducible refine p_next ?_ | with_reducible refine p_nil ?_ | with_reducible refine p_cons ?_ | with_reducible refine p_tup ?_ | with_reducible refine n_lst ?_ | with_reducible refine p_cb ?_ | with_reducible refine p_call ?_ | with_reducible refine p_asg ?_ | with_reducible refine p_par ?_ | with_reducible refine p_par3 ?_ | with_reducible refine p_gset ?_ | with_reducible refine p_gcons ?_ | with_reducible refine p_gnil ?_ | with_reducible refine n_lc ?_ | with_reducible refine p_for ?_ | with_reducible refine p_iseq ?_ | with_reducible refine p_irng1 ?_ | with_reducible refine p_izip ?_ | with_reducible refine p_ienum ?_ | with_reducible refine p_cut ?_ | with_reducible refine p_ono ?_ | with_reducible refine p_osome ?_ | with_reducible refine p_mtL ?_ | with_reducible refine p_item ?_ | with_reducible refine p_add ?_ | with_reducible refine p_addI ?_ | with_reducible refine p_sub ?_ | with_reducible refine p_pow6 ?_ | with_reducible refine p_pow5 ?_ | with_reducible refine p_pow9 ?_ | with_reducible refine p_pow12 ?_ | with_reducible refine p_pow18 ?_ | with_reducible refine p_pow20 ?_ | with_reducible refine p_pow39 ?_ | with_reducible refine p_lt ?_ | with_reducible refine p_le ?_ | with_reducible refine p_gt ?_ | with_reducible refine p_ge ?_ | with_reducible refine p_neg ?_ | with_reducible refine p_eqI ?_ | with_reducible refine p_neI ?_ | with_reducible refine p_eqB ?_ | with_reducible refine p_neB ?_ | with_reducible refine p_trI ?_ | with_reducible refine p_trB ?_ | with_reducible refine p_tB ?_ | with_reducible refine p_isN ?_ | with_reducible refine p_notN ?_ | with_reducible refine p_intI ?_ | with_reducible refine p_intB ?_ | with_reducible refine p_max2 ?_ | with_reducible refine p_min2 ?_ | with_reducible refine p_lenT ?_ | with_reducible refine p_lenF ?_ | with_reducible refine p_seqT ?_ | with_reducible refine n_cutF ?_ | with_reducible refine p_cutT ?_ | with_reducible refine p_zipT ?_ | with_reducible refine p_enumT ?_ | with_reducible refine iteT ?_ | with_reducible refine iteF ?_ | with_reducible refine iteNT ?_ | with_reducible refine iteNF ?_ | with_reducible refine iteNNF ?_ | with_reducible refine iteNNT ?_ | with_reducible refine p_run ?_ | with_reducible refine n_listT ?_ | with_reducible refine n_dict0 ?_ | with_reducible refine n_dcS ?_ | with_reducible refine n_dc ?_ | with_reducible refine p_keyd ?_ | with_reducible refine p_izipTL ?_ | with_reducible refine p_irng2 ?_ | with_reducible refine p_eqS ?_ | with_reducible refine p_neS ?_ | with_reducible refine p_eqNN ?_ | with_reducible refine iteNnonA ?_ | with_reducible refine iteNintA ?_ | with_reducible refine iteNtupA ?_ | with_reducible refine iteInonA ?_ | with_reducible refine iteIintA ?_ | with_reducible refine iteItupA ?_ | with_reducible refine n_rg1 ?_ | with_reducible refine p_tg1 ?_ | with_reducible refine p_neO ?_ | with_reducible refine p_okv ?_ | with_reducible refine p_inTI ?_ | with_reducible refine p_notinTI ?_ | with_reducible refine p_eqPr ?_ | with_reducible refine p_nePr ?_ | with_reducible refine p_trT ?_ | ((with_reducible refine' p_aug ?pv ?_); case pv => rfl) | ((with_reducible refine p_tupT ?pv ?_); case pv => rfl) | ((with_reducible refine p_mul ?sd ?_); case sd => first | exact .inl ⟨by omega, by omega⟩ | exact .inr ⟨by omega, by omega⟩) | ((with_reducible refine p_mod ?sd ?_); case sd => omega) | ((with_reducible refine p_div ?sd ?_); case sd => exact wide_div (b := 200) (by omega) (by omega) (by decide) (by decide)) | ((with_reducible refine And.intro ?sd ?_); case sd => first | rfl | (simp; done) | omega) | ((with_reducible refine' p_ixT ?pv ?_); case pv => first | exact atI_0 _ _ | exact atI_1 _ _ _ | exact atI_2 _ _ _ _ | assumption) | ((with_reducible refine' p_ixF ?pv ?_); case pv => first | exact atI_0 _ _ | exact atI_1 _ _ _ | exact atI_2 _ _ _ _ | assumption) | ((with_reducible refine' p_ixR ?lk ?pv ?_); (case lk => array_mem_dec); (case pv => first | exact atI_0 _ _ | exact atI_1 _ _ _ | exact atI_2 _ _ _ _ | assumption)) | ((with_reducible refine' p_lenR ?lk ?_); case lk => array_mem_dec) | ((with_reducible refine' p_seqR ?lk ?_); case lk => array_mem_dec) | ((with_reducible refine' p_tupleR ?lk ?_); case lk => array_mem_dec) | ((with_reducible refine' p_trR ?lk ?_); case lk => array_mem_dec) | ((with_reducible refine' p_enumR ?lk ?_); case lk => array_mem_dec) | ((with_reducible refine' n_cutR ?lk ?_); case lk => array_mem_dec) | ((with_reducible refine' n_listR ?lk ?_); case lk => array_mem_dec) | ((with_reducible refine' n_rev2R ?lk ?_); case lk => array_mem_dec) | ((with_reducible refine' n_listD ?lk ?_); case lk => array_mem_dec) | ((with_reducible refine' p_keysF ?lk ?_); case lk => array_mem_dec) | ((with_reducible refine' n_sortPr ?lk ?_); case lk => array_mem_dec) | ((with_reducible refine' n_sortPf ?lk ?_); case lk => array_mem_dec) | ((with_reducible refine' p_inRI ?lk ?_); case lk => array_mem_dec) | ((with_reducible refine' p_notinRI ?lk ?_); case lk => array_mem_dec) | with_reducible refine p_isi_N_int ?_ | with_reducible refine p_isi_N_bool ?_ | with_reducible refine p_isi_N_tuple ?_ | with_reducible refine p_isi_N_list ?_ | with_reducible refine p_isi_N_lt ?_ | with_reducible refine p_isi_N_str ?_ | with_reducible refine p_isi_N_dict ?_ | with_reducible refine p_isi_B_int ?_ | with_reducible refine p_isi_B_bool ?_ | with_reducible refine p_isi_B_tuple ?_ | with_reducible refine p_isi_B_list ?_ | with_reducible refine p_isi_B_lt ?_ | with_reducible refine p_isi_B_str ?_ | with_reducible refine p_isi_B_dict ?_ | with_reducible refine p_isi_I_int ?_ | with_reducible refine p_isi_I_bool ?_ | with_reducible refine p_isi_I_tuple ?_ | with_reducible refine p_isi_I_list ?_ | with_reducible refine p_isi_I_lt ?_ | with_reducible refine p_isi_I_str ?_ | with_reducible refine p_isi_I_dict ?_ | with_reducible refine p_isi_S_int ?_ | with_reducible refine p_isi_S_bool ?_ | with_reducible refine p_isi_S_tuple ?_ | with_reducible refine p_isi_S_list ?_ | with_reducible refine p_isi_S_lt ?_ | with_reducible refine p_isi_S_str ?_ | with_reducible refine p_isi_S_dict ?_ | with_reducible refine p_isi_T_int ?_ | with_reducible refine p_isi_T_bool ?_ | with_reducible refine p_isi_T_tuple ?_ | with_reducible refine p_isi_T_list ?_ | with_reducible refine p_isi_T_lt ?_ | with_reducible refine p_isi_T_str ?_ | with_reducible refine p_isi_T_dict ?_ | with_reducible refine p_isi_F_int ?_ | with_reducible refine p_isi_F_bool ?_ | with_reducible refine p_isi_F_tuple ?_ | with_reducible refine p_isi_F_list ?_ | with_reducible refine p_isi_F_lt ?_ | with_reducible refine p_isi_F_str ?_ | with_reducible refine p_isi_F_dict ?_ | ((with_reducible refine' p_isi_R_int ?lk ?_); case lk => array_mem_dec) | ((with_reducible refine' p_isi_R_bool ?lk ?_); case lk => array_mem_dec) | ((with_reducible refine' p_isi_R_tuple ?lk ?_); case lk => array_mem_dec) | ((with_reducible refine' p_isi_R_list ?lk ?_); case lk => array_mem_dec) | ((with_reducible refine' p_isi_R_lt ?lk ?_); case lk => array_mem_dec) | ((with_reducible refine' p_isi_R_str ?lk ?_); case lk => array_mem_dec) | ((with_reducible refine' p_isi_R_dict ?lk ?_); case lk => array_mem_dec) | ((with_reducible refine' p_zipR ?lk ?lj ?_); (case lk => array_mem_dec); (case lj => array_mem_dec)) | ((with_reducible refine' p_zipTL ?lk ?_); case lk => array_mem_dec) | ((with_reducible refine' n_catR ?lk ?lj ?sd ?_); (case lk => array_mem_dec); (case lj => array_mem_dec); (case sd => first | omega | (simp; done) | (simp; omega) | (constructor <;> omega))) | ((with_reducible refine And.intro ?sd ?_); case sd => exact lAt (by array_mem_dec)) | ((with_reducible refine' n_app ?lk ?sd ?_); (case lk => array_mem_dec); (case sd => first | omega | (simp; done) | (simp; omega) | (constructor <;> omega))) | ((with_reducible refine' n_setD ?lk ?sd ?_); (case lk => array_mem_dec); (case sd => first | (simp [dicI]; done) | (simp [dicI]; omega))) | ((with_reducible refine' p_min1R ?lk ?sd ?_); (case lk => array_mem_dec); (case sd => first | assumption | (simp; done))) | ((with_reducible refine' p_max1R ?lk ?sd ?_); (case lk => array_mem_dec); (case sd => first | assumption | (simp; done))) | ((with_reducible refine' n_sortI ?lk ?sd ?_); (case lk => array_mem_dec); (case sd => first | (simp; done) | (simp; omega) | omega)) | ((with_reducible refine p_rng1 ?sd ?_); case sd => first | omega | (simp; done) | (simp; omega) | (constructor <;> omega)) | ((with_reducible refine p_rng2 ?sd ?_); case sd => first | omega | (simp; done) | (simp; omega) | (constructor <;> omega)) | ((with_reducible refine rgk ?sd ?_); case sd => first | omega | (simp; done) | (simp; omega) | (constructor <;> omega)) | ((with_reducible refine tgk ?sd ?_); case sd => first | omega | (simp; done) | (simp; omega) | (constructor <;> omega)) | ((with_reducible refine' p_getF ?lk ?sd ?_); (case lk => array_mem_dec); (case sd => assumption)) | ((with_reducible refine' p_getD ?lk ?sd ?_); (case lk => array_mem_dec); (case sd => assumption)) | ((with_reducible refine' p_sealV ?pv ?lk ?_); (case pv => rfl); (case lk => array_mem_dec)) | ((with_reducible refine' n_sealV ?pv ?lk ?_); (case pv => rfl); (case lk => array_mem_dec)) | ((with_reducible refine iteTr ?sd ?_); case sd => assumption) | ((with_reducible refine iteFl ?sd ?_); case sd => assumption) | with_reducible refine y_run ?_ | with_reducible refine y_seq ?_ | with_reducible refine y_ifP ?_ | with_reducible refine y_drop ?_ | with_reducible refine y_ret ?_ | with_reducible refine y_set ?_ | with_reducible refine y_callP ?_ | with_reducible refine y_raise ?_ | with_reducible refine y_next ?_ | ((with_reducible refine' p_isE ?pv ?_); case pv => rfl) | dsimp only | intro k_ m_ h_ | intro m_ h_ | ((with_reducible refine iteTr ?sd ?_); case sd => rfl) | ((with_reducible refine iteFl ?sd ?_); case sd => rfl))))
theorem draw_spec {n : Nat} {m : Mem} {k : Int} (hp : Pen n m) (hk : 0 < k) (hb : k ≤ 10 ^ 30) : (f_law_draw [.ref n, .int k] m).post fun v m' => ∃ r : Int, v = .int r ∧ 0 ≤ r ∧ r < k ∧ Pen n m' ∧ Kept n m m' ∧ m'.length = m.length := by
  obtain ⟨c, f, h, hf⟩ := hp.ex
  unfold f_law_draw b_law_draw
  nofun
  refine p_ixR h (atI_1 _ _ _) ?_
  nofun
  refine iteBq (fun hf1 => ?_) (fun hf1 => ?_)
  · nofun
    refine p_ixR h (atI_0 _ _) ?_
    nofun
    refine p_ixR h (atI_0 _ _) ?_
    nofun
    refine p_setR (j := 0) h (t := 0) rfl ?_
    nofun
    exact ⟨_, rfl, Int.emod_nonneg _ (by omega), Int.emod_lt_of_pos _ hk, ⟨_, _, set_at h, hf⟩, Kept.set n m _, by simp⟩
  · nofun
    refine p_ixR h (atI_0 _ _) ?_
    nofun
    refine p_setR (j := 0) h (t := 0) rfl ?_
    nofun
    have h2 := set_at (o' := O.lst ([D.int c, D.int f].set 0 (D.int ((c % 2147483629 * 48271 + 11) % 2147483629)))) h
    refine p_ixR h2 (atI_0 _ _) ?_
    nofun
    refine p_ixR h2 (atI_0 _ _) ?_
    have z1 : 0 ≤ (c % 2147483629 * 48271 + 11) % 2147483629 := Int.emod_nonneg _ (by decide)
    have z2 : (c % 2147483629 * 48271 + 11) % 2147483629 < 2147483629 := Int.emod_lt_of_pos _ (by decide)
    nofun
    refine p_ixR h2 (atI_0 _ _) ?_
    nofun
    exact ⟨_, rfl, Int.emod_nonneg _ (by omega), Int.emod_lt_of_pos _ hk, ⟨_, _, h2, hf⟩, Kept.set n m _, by simp⟩

theorem number_spec (i : Int) (m : Mem) : (f_is_number [.int i] m).post fun v m' => v = .bl true ∧ m' = m := by
  unfold f_is_number b_is_number
  nofun
theorem within_spec (i lo hi : Int) (m : Mem) : (f_is_within [.int i, .int lo, .int hi] m).post fun v m' => v = .bl (decide (lo ≤ i ∧ i ≤ hi)) ∧ m' = m := by
  unfold f_is_within b_is_within
  nofun
  refine (number_spec i m).mono ?_
  rintro v m' ⟨rfl, rfl⟩
  nofun
  by_cases h1 : lo ≤ i
  · simp only [h1, decide_true, true_and]
    nofun
  · simp only [h1, decide_false, false_and]
    nofun
theorem tupleof_spec (ds : List D) (lo hi : Int) (m : Mem) : (f_is_tuple_of [.tup ds, .int lo, .int hi] m).post fun v m' => v = .bl (decide (lo ≤ (ds.length : Int) ∧ (ds.length : Int) ≤ hi)) ∧ m' = m := by
  unfold f_is_tuple_of b_is_tuple_of
  nofun
  by_cases h1 : lo ≤ (ds.length : Int)
  · simp only [h1, decide_true, true_and]
    nofun
  · simp only [h1, decide_false, false_and]
    nofun
theorem floor_spec {p : Int × Int} (h1 : 1 ≤ p.2 ∧ p.2 ≤ 100000) (h2 : 0 ≤ p.1 ∧ p.1 ≤ 1000000) (m : Mem) : (f_is_floor_and_step [prD p] m).post fun v m' => v = .bl true ∧ m' = m := by
  unfold f_is_floor_and_step b_is_floor_and_step prD
  nofun
  refine (tupleof_spec _ 2 2 m).mono ?_
  rintro v m' ⟨rfl, rfl⟩
  nofun
  refine iteND (fun h => (h (by simp)).elim) (fun _ => ?_)
  nofun
  refine (within_spec p.1 0 1000000 m').mono ?_
  rintro v m1 ⟨rfl, rfl⟩
  rw [decide_eq_true h2]
  nofun
  refine (within_spec p.2 1 100000 m1).mono ?_
  rintro v m2 ⟨rfl, rfl⟩
  rw [decide_eq_true h1]
  exact ⟨rfl, rfl⟩
theorem rising_spec {n : Nat} {ns : List Int} {m : Mem} (h : m[n]? = some (.lst (ns.map D.int))) (hu : ns.Pairwise (· < ·)) (hl : ns.length ≤ 900) : (f_is_rising [.ref n] m).post fun v m' => v = .bl true ∧ Gr m m' := by
  unfold f_is_rising b_is_rising
  nofun
  refine p_cutR h ?_
  nofun
  refine p_zipR (app_at h) (new_at m _) ?_
  rw [cut_1]
  refine (lc_pure (fun _ => true) (fun _ => .bl true) _ (fun m' g => ⟨g.at (app_at h), g.at (new_at m _)⟩) (by rw [zipD_len]; simp; omega) fun d hd => ?_).mono ?_
  · obtain ⟨a, b, rfl, hab⟩ := zip_up ns hu d hd
    refine ⟨_, rfl, fun m' g => ?_⟩
    nofun
    refine ⟨Gr.refl _, fun _ => ?_⟩
    nofun
    exact ⟨by rw [decide_eq_true hab], Gr.refl _⟩
  · rintro ys m' ⟨rfl, g⟩
    nofun
    refine all_true (new_at m' _) (fun y hy => ?_) ⟨rfl, ((Gr.app m _).trans g).trans (Gr.app m' _)⟩
    obtain ⟨z, _, e⟩ := List.mem_map.mp hy
    exact e.symm
theorem ladder_spec {l : Lad} (g : GoodL l) (m : Mem) : (f_is_ladder [ladD l] m).post fun v m' => v = .bl true ∧ Gr m m' := by
  unfold f_is_ladder b_is_ladder ladD
  have hlen := g.len
  obtain ⟨s0, r0, el⟩ := g.ne
  have hpos : 1 ≤ l.length := by rw [el]; simp
  nofun
  refine (tupleof_spec _ 1 4 m).mono ?_
  rintro v m' ⟨rfl, rfl⟩
  nofun
  refine iteND (fun h => (h (by simp; omega)).elim) (fun _ => ?_)
  nofun
  refine (lc_pure (fun _ => true) (fun _ => .bl true) _ (fun _ _ => trivial) (by simp; omega) fun d hd => ?_).mono ?_
  · obtain ⟨p, hp, rfl⟩ := List.mem_map.mp hd
    refine ⟨_, rfl, fun m2 g2 => ?_⟩
    nofun
    refine ⟨Gr.refl _, fun _ => ?_⟩
    nofun
    refine (floor_spec (g.st p hp) (g.fl p hp) m2).mono ?_
    rintro v m3 ⟨rfl, rfl⟩
    first | exact ⟨rfl, Gr.refl _⟩ | exact Gr.refl _
  · rintro ys m1 ⟨rfl, g1⟩
    nofun
    refine all_true (new_at m1 _) (fun y hy => ?_) ?_
    · obtain ⟨z, _, e⟩ := List.mem_map.mp hy
      exact e.symm
    have g2 := g1.trans (Gr.app m1 [O.lst (List.map (fun _ => D.bl true) (List.filter (fun _ => true) (l.map prD)))])
    nofun
    refine (lc_pure (fun _ => true) (fun d => match d with | .tup (x :: _) => x | _ => .non) _ (fun _ _ => trivial) (by simp; omega) fun d hd => ?_).mono ?_
    · obtain ⟨p, hp, rfl⟩ := List.mem_map.mp hd
      refine ⟨_, rfl, fun m2 g2 => ?_⟩
      nofun
      refine ⟨Gr.refl _, fun _ => ?_⟩
      nofun
      first | exact ⟨rfl, Gr.refl _⟩ | exact Gr.refl _
    · rintro ys m2 ⟨rfl, g3⟩
      have e : ((l.map prD).filter fun _ => true).map (fun d => match d with | .tup (x :: _) => x | _ => D.non) = (l.map (·.1)).map D.int := by
        rw [List.filter_eq_self.mpr (fun _ _ => rfl), List.map_map, List.map_map]
        rfl
      rw [e]
      have hn := new_at m2 (.lst ((l.map (·.1)).map D.int))
      nofun
      rw [el] at hn ⊢
      refine p_ixR hn (atI_0 _ _) ?_
      nofun
      refine (rising_spec hn (by rw [← el]; exact g.up) (by simp; rw [el] at hlen; simp at hlen; omega)).mono ?_
      rintro v m3 ⟨rfl, g4⟩
      exact ⟨rfl, ((g2.trans g3).trans (Gr.app m2 _)).trans g4⟩
theorem chk_ladder {l : Lad} (g : GoodL l) (m : Mem) : (f_check_ladder [ladD l] m).post fun v m' => Gr m m' := by
  unfold f_check_ladder b_check_ladder
  nofun
  refine (ladder_spec g m).mono ?_
  rintro v m' ⟨rfl, g1⟩
  nofun
  exact g1
theorem chk_price {i lo hi : Int} (h : lo ≤ i ∧ i ≤ hi) (m : Mem) : (f_check_price [.int i, .int lo, .int hi] m).post fun v m' => m' = m := by
  unfold f_check_price b_check_price
  nofun
  refine (within_spec i lo hi m).mono ?_
  rintro v m' ⟨rfl, rfl⟩
  rw [decide_eq_true h]
  nofun
theorem flights_spec {l : Lad} (g : GoodL l) {st : Int} (h1 : 0 ≤ st) (m : Mem) : ∃ s r, l = (0, s) :: r ∧ (f_flights_of [ladD l, .int st] m).post fun v m' => v = .ref m.length ∧ m' = m ++ [.lst (((0, st, s) :: flights r s 0 st).map flD)] := by
  obtain ⟨s, r, el⟩ := g.ne
  refine ⟨s, r, el, ?_⟩
  have hs := g.st (0, s) (by rw [el]; simp)
  have efl : flights l s 0 st = (0, st, s) :: flights r s 0 st := by rw [el, flights, if_neg (by omega)]
  have hlen := g.len
  have hfl : ∀ (l : Lad) (a b c : Int), (flights l a b c).length = l.length := by
    intro l
    induction l with
    | nil => intros; rfl
    | cons q l ih => intro a b c; obtain ⟨f, t⟩ := q; unfold flights; split <;> simp [ih]
  unfold f_flights_of b_flights_of
  have ht : ladD l = .tup (prD (0, s) :: r.map prD) := by rw [el]; rfl
  rw [ht]
  unfold prD
  nofun
  have e2 : (D.tup [D.int (0, s).1, D.int (0, s).2] :: r.map fun p => D.tup [D.int p.1, D.int p.2]) = l.map prD := by rw [el]; rfl
  rw [e2, ← efl]
  refine forL_inv (fun rest e m' => ∃ (lr : Lad) (k p gg : Int) (acc : List (Int × Int × Int)) (y6 y7 y8 : Option D), rest = lr.map prD ∧ (∀ q ∈ lr, q ∈ l) ∧ 1 ≤ gg ∧ gg ≤ 100000 ∧ acc ++ flights lr gg k p = flights l s 0 st ∧
      e = [some (.tup (l.map prD)), some (.int st), some (.int k), some (.int p), some (.int gg), some (.ref m.length), y6, y7, y8] ∧ m' = m ++ [.lst (acc.map flD)]) _ _ _ ⟨l, 0, st, s, [], none, none, none, rfl, fun _ h => h, hs.1, hs.2, rfl, rfl, rfl⟩ ?_ ?_
  · rintro e m' ⟨lr, k, p, gg, acc, y6, y7, y8, er, hm, g1, g2, ea, rfl, rfl⟩
    have : lr = [] := by
      cases lr with
      | nil => rfl
      | cons => simp at er
    subst this
    rw [flights, List.append_nil] at ea
    subst ea
    refine ⟨trivial, ?_⟩
    nofun
  · rintro d rest e m' ⟨lr, k, p, gg, acc, y6, y7, y8, er, hm, g1, g2, ea, rfl, rfl⟩
    obtain ⟨⟨f, t⟩, lr', rfl⟩ : ∃ q lr', lr = q :: lr' := by
      cases lr with
      | nil => simp at er
      | cons q lr' => exact ⟨q, lr', rfl⟩
    simp only [List.map_cons, List.cons.injEq] at er
    obtain ⟨rfl, rfl⟩ := er
    have hq := hm (f, t) (by simp)
    have hst := g.st _ hq
    have hff := g.fl _ hq
    simp only at hst hff
    have hal : acc.length < 1000000 := by
      have := congrArg List.length ea
      rw [List.length_append, hfl, hfl] at this
      omega
    refine ⟨trivial, ?_⟩
    unfold prD
    nofun
    refine iteD (fun hpf => ?_) (fun hpf => ?_)
    · nofun
      refine ⟨lAt (new_at m _), ?_⟩
      nofun
      refine p_appR (new_at m _) (by simpa using hal) ?_
      nofun
      refine ⟨lr', k + (f - p + gg - 1) / gg, p + (f - p + gg - 1) / gg * gg, t, acc ++ [(k + (f - p + gg - 1) / gg, p + (f - p + gg - 1) / gg * gg, t)], some (.int f), some (.int t), some (.int ((f - p + gg - 1) / gg)), rfl, fun q hq => hm q (by simp [hq]), hst.1, hst.2, ?_, rfl, ?_⟩
      · rw [← ea, flights, if_pos hpf, List.append_assoc]
        rfl
      · rw [List.map_append]
        simp [flD]
    · nofun
      refine ⟨lAt (new_at m _), ?_⟩
      nofun
      refine p_appR (new_at m _) (by simpa using hal) ?_
      nofun
      refine ⟨lr', k, p, t, acc ++ [(k, p, t)], some (.int f), some (.int t), y8, rfl, fun q hq => hm q (by simp [hq]), hst.1, hst.2, ?_, rfl, ?_⟩
      · rw [← ea, flights, if_neg hpf, List.append_assoc]
        rfl
      · rw [List.map_append]
        simp [flD]
theorem top_spec {l : Lad} (g : GoodL l) {st b : Int} (h1 : 1 ≤ st ∧ st ≤ 1000000) (hb : 1 ≤ b ∧ b ≤ 1000000) (m : Mem) : (f_last_rung [ladD l, .int st, .int b] m).post fun v m' => Gr m m' ∧ ((b < st ∧ v = .non) ∨ (st ≤ b ∧ ∃ n : Int, v = .int n ∧ 0 ≤ n ∧ rungAt l st n ≤ b ∧ b < rungAt l st (n + 1))) := by
  unfold f_last_rung b_last_rung
  have hlen := g.len
  nofun
  refine (chk_ladder g m).mono ?_
  intro v m1 g1
  nofun
  refine (chk_price h1 m1).mono ?_
  rintro v m2 rfl
  nofun
  refine (chk_price hb m2).mono ?_
  rintro v m3 rfl
  nofun
  obtain ⟨s, r, el, hq⟩ := flights_spec g (st := st) (by omega) m3
  refine hq.mono ?_
  rintro v m4 ⟨rfl, rfl⟩
  have hs := g.st (0, s) (by rw [el]; simp)
  simp only at hs
  have hr2 : ∀ q ∈ r, 1 ≤ q.2 ∧ q.2 ≤ 100000 := fun q hq => g.st q (by rw [el]; simp [hq])
  have hr : ∀ q ∈ r, 1 ≤ q.2 := fun q hq => (hr2 q hq).1
  have hf := new_at m3 (.lst (((0, st, s) :: flights r s 0 st).map flD))
  nofun
  refine p_seqR hf ?_
  nofun
  refine (lc_pure (fun d => match d with | .tup [_, .int a, _] => decide (a ≤ b) | _ => false) (fun d => d) _ (fun m' g => g.at hf) ?_ fun d hd => ?_).mono ?_
  · rw [el] at hlen
    simp at hlen ⊢
    rw [fl_len]
    omega
  · obtain ⟨q, hq, rfl⟩ := List.mem_map.mp hd
    refine ⟨_, rfl, fun m2 g2 => ?_⟩
    unfold flD
    nofun
    refine ⟨Gr.refl _, fun _ => ?_⟩
    nofun
    first | exact ⟨rfl, Gr.refl _⟩ | exact Gr.refl _
  · rintro zs m5 ⟨rfl, g5⟩
    have e : ((((0, st, s) :: flights r s 0 st).map flD).filter fun d => match d with | .tup [_, .int a, _] => decide (a ≤ b) | _ => false).map (fun d => d) = ((((0, st, s) :: flights r s 0 st).filter fun x => decide (x.2.1 ≤ b)).map flD) := by
      rw [List.map_id', List.filter_map]
      rfl
    rw [e]
    have gg := ((g1.trans (Gr.app m3 _)).trans g5).trans (Gr.app m5 [O.lst ((((0, st, s) :: flights r s 0 st).filter fun x => decide (x.2.1 ≤ b)).map flD)])
    nofun
    refine p_trR (new_at m5 _) ?_
    by_cases c : st ≤ b
    · obtain ⟨x, ys, e1, e2, e3, e4, e5, e6, e7⟩ := fl_top r s 0 st b (by omega) hr c
      rw [e1] at gg ⊢
      rw [List.map_append, List.map_singleton] at gg ⊢
      have hem : (List.map flD ys ++ [flD x]).isEmpty = false := by simp
      rw [hem]
      nofun
      refine p_ixR (new_at m5 _) (atI_last _ _) ?_
      unfold flD at gg ⊢
      nofun
      have hx : x ∈ ((0, st, s) :: flights r s 0 st) := (List.mem_filter.mp (show x ∈ ((0, st, s) :: flights r s 0 st).filter fun x => decide (x.2.1 ≤ b) by rw [e1]; simp)).1
      have hx2 : x.2.2 ≤ 100000 := by
        rcases List.mem_cons.mp hx with rfl | hx
        · exact hs.2
        · exact (fl_step r s 0 st hr2 x hx).2
      refine p_div (wide_div (b := 200) e2 (by omega) (by decide) (by decide)) ?_
      nofun
      have fin : rungAt l st (x.1 + (b - x.2.1) / x.2.2) ≤ b ∧ b < rungAt l st (x.1 + (b - x.2.1) / x.2.2 + 1) := by
        unfold rungAt
        rw [el]
        rw [Int.sub_zero] at e5 e6
        exact ⟨e5, e6⟩
      first | exact ⟨gg, .inr ⟨c, _, rfl, e7, fin.1, fin.2⟩⟩ | exact .inr ⟨c, _, rfl, e7, fin.1, fin.2⟩
    · have hnil : ((0, st, s) :: flights r s 0 st).filter (fun x => decide (x.2.1 ≤ b)) = [] := by
        rw [List.filter_eq_nil_iff]
        intro x hx
        rcases List.mem_cons.mp hx with rfl | hx
        · simpa using c
        · have := (flights_rung r s 0 st (by omega) hr x hx).2
          simp
          omega
      rw [hnil] at gg ⊢
      nofun
      exact ⟨gg, .inl ⟨by omega, rfl⟩⟩

theorem cell_spec (ns : List Int) (m : Mem) : (f_law_cell [.fro (ns.map D.int), .int 0] m).post fun v m' => ∃ c : Int, v = .int c ∧ m' = m := by
  unfold f_law_cell b_law_cell
  nofun
  refine iteD (fun h => ?_) (fun h => ?_)
  · nofun
    cases ns with
    | nil => simp at h
    | cons c r =>
      refine p_ixF (atI_0 _ _) ?_
      exact ⟨c, rfl, rfl⟩
  · nofun
    exact ⟨0, rfl, rfl⟩
theorem pen_spec (c : Int) (m : Mem) : (f_law_pen [.int c] m).post fun v m' => v = .ref m.length ∧ Pen m.length m' ∧ Gr m m' := by
  unfold f_law_pen b_law_pen
  nofun
  refine ⟨⟨c, _, new_at m _, ?_⟩, Gr.app m _⟩
  by_cases h : (1000000000000000000 : Int) ≤ c
  · right
    simp [h]
  · left
    simp [h]
theorem drawn {n : Nat} {m : Mem} {k : Int} (hp : Pen n m) (hk : 0 < k) (hb : k ≤ 10 ^ 30) : (f_law_draw [.ref n, .int k] m).post fun v m' => ∃ r : Int, v = .int r ∧ 0 ≤ r ∧ r < k ∧ Pd n m m' := by
  refine (draw_spec hp hk hb).mono ?_
  rintro v m' ⟨r, rfl, h1, h2, h3, h4, h5⟩
  exact ⟨r, rfl, h1, h2, h3, h4, by omega⟩
theorem pen_ne {n k : Nat} {m : Mem} {xs : List D} (hp : Pen n m) (h : m[k]? = some (.lst xs)) (hx : ∀ c f : Int, xs ≠ [.int c, .int f]) : k ≠ n := by
  rintro rfl
  obtain ⟨c, f, h1, _⟩ := hp.ex
  rw [h] at h1
  simp at h1
  exact hx c f h1
theorem pick_spec {n k : Nat} {m : Mem} {xs : List D} (hp : Pen n m) (hkn : k ≠ n) (h : m[k]? = some (.lst xs)) (h0 : 0 < xs.length) (hl : xs.length ≤ 1000) : (f_law_pick [.ref n, .ref k] m).post fun v m' => v ∈ xs ∧ Pd n m m' := by
  unfold f_law_pick b_law_pick
  nofun
  refine p_lenR h ?_
  nofun
  refine (drawn hp (by omega) (by omega)).mono ?_
  rintro v m' ⟨r, rfl, h1, h2, pd⟩
  have hr : r.toNat < xs.length := by omega
  have ha : atI xs r = some xs[r.toNat] := by
    have := atI_nat (xs := xs) (j := r.toNat) (v := xs[r.toNat]) (by simp [hr])
    rwa [show ((r.toNat : Nat) : Int) = r by omega] at this
  nofun
  refine p_ixR (pd.at hkn h) ha ?_
  exact ⟨List.getElem_mem _, pd⟩
theorem putD_keys (kvs : List (Key × D)) (k : Key) (d : D) : (putD kvs k d).map (·.1) = if k ∈ kvs.map (·.1) then kvs.map (·.1) else kvs.map (·.1) ++ [k] := by
  unfold putD
  have ha : (kvs.any fun kv => decide (kv.1 = k)) = true ↔ k ∈ kvs.map (·.1) := by
    rw [List.any_eq_true]
    constructor
    · rintro ⟨x, hx, e⟩
      exact List.mem_map.mpr ⟨x, hx, by simpa using e⟩
    · intro h
      obtain ⟨x, hx, e⟩ := List.mem_map.mp h
      exact ⟨x, hx, by simpa using e⟩
  by_cases h : k ∈ kvs.map (·.1)
  · rw [if_pos h, if_pos (ha.mpr h), List.map_map]
    have f2 : ((fun x : Key × D => x.1) ∘ fun kv => if kv.1 = k then (kv.1, d) else kv) = (fun x => x.1) := by funext x; simp only [Function.comp]; split <;> rfl
    rw [f2]
  · rw [if_neg h, if_neg (fun z => h (ha.mp z))]
    simp
theorem lawladder_spec {n : Nat} {m : Mem} (hp : Pen n m) : (f_law_ladder [.ref n] m).post fun v m' => ∃ l : Lad, v = ladD l ∧ GoodL l ∧ Pd n m m' := by
  unfold f_law_ladder b_law_ladder
  have hn := hp.ex
  have hnl : n < m.length := by obtain ⟨c, f, h, _⟩ := hn; exact lt_of_at h
  nofun
  refine (pick_spec (hp.app _) (by omega) (new_at m _) (by simp) (by simp)).mono ?_
  rintro v m1 ⟨hv, pd1⟩
  have pd1 : Pd n m m1 := (Pd.gr hp (Gr.app m _)).trans pd1
  obtain ⟨near, rfl, hn1, hn2⟩ : ∃ near : Int, v = .int near ∧ 9 ≤ near ∧ near ≤ 1000000 := by
    simp only [List.mem_cons, List.not_mem_nil, or_false] at hv
    rcases hv with rfl | rfl | rfl | rfl <;> exact ⟨_, rfl, by decide, by decide⟩
  nofun
  simp only [mDict, mPairs, mC, R.bind, keysD, keyD, mergeD, List.foldl, putD, List.any, Bool.false_eq_true, if_false, List.length_cons, List.length_nil, R.calm, List.nil_append, Nat.reduceLeDiff, if_true, post_ok]
  have pd2 : Pd n m (m1 ++ [O.dic [(Sum.inl 0, D.bl true)]]) := pd1.trans (Pd.gr pd1.pen (Gr.app m1 _))
  have hk : m1.length ≠ n := by have := pd1.len; omega
  have hkm : m.length ≤ m1.length := pd1.len
  have hd := new_at m1 (O.dic [(Sum.inl 0, D.bl true)])
  generalize m1 ++ [O.dic [(Sum.inl 0, D.bl true)]] = m2 at pd2 hd
  generalize m1.length = kd at hk hkm hd
  nofun
  refine (drawn pd2.pen (by decide) (by decide)).mono ?_
  rintro v m3 ⟨turns, rfl, ht0, ht4, pd3⟩
  have hd3 := pd3.at hk hd
  have pd3 := pd2.trans pd3
  nofun
  refine p_rng1 ⟨by omega, by omega⟩ ?_
  nofun
  refine forL_inv (fun rest e m' => ∃ (kvs : List (Key × D)) (fs : List Int) (y3 : Option D), e = [some (.ref n), some (.int near), some (.ref kd), y3, none, none] ∧ Pd n m m' ∧ m'[kd]? = some (.dic kvs) ∧ kvs.map (·.1) = (0 :: fs).map Sum.inl ∧ fs.length + rest.length ≤ 3 ∧ (0 :: fs).Nodup ∧ ∀ f ∈ fs, 1 ≤ f ∧ f ≤ 1000000) _ _ _ ⟨_, [], none, rfl, pd3, hd3, rfl, by simp [rgD]; omega, by simp, by simp⟩ ?_ ?_
  rotate_left
  · rintro d rest e m' ⟨kvs, fs, y3, rfl, pd, hd, hk1, hfl, hnd, hf⟩
    refine ⟨trivial, ?_⟩
    nofun
    refine (drawn pd.pen (by omega) (by omega)).mono ?_
    rintro v m4 ⟨r, rfl, h1, h2, pd4⟩
    have hd4 := pd4.at hk hd
    nofun
    have hkl : kvs.length < 1000000 := by
      have := congrArg List.length hk1
      simp at this
      simp at hfl
      omega
    refine p_setD hd4 hkl ?_
    nofun
    have pd5 : Pd n m (m4.set kd (.dic (putD kvs (Sum.inl (r + 1)) (.bl true)))) := by
      have pd4 := pd.trans pd4
      refine ⟨?_, fun i o hi h => ?_, by simpa using pd4.len⟩
      · obtain ⟨c, f, h1, h2⟩ := pd4.pen.ex
        exact ⟨c, f, by rw [List.getElem?_set_ne hk]; exact h1, h2⟩
      · have := lt_of_at h
        rw [List.getElem?_set_ne (by omega)]
        exact pd4.at hi h
    have ek := putD_keys kvs (Sum.inl (r + 1)) (.bl true)
    rw [hk1] at ek
    by_cases c : (Sum.inl (r + 1) : Key) ∈ (0 :: fs).map Sum.inl
    · rw [if_pos c] at ek
      exact ⟨_, fs, some d, rfl, pd5, set_at hd4, ek, by simp at hfl; omega, hnd, hf⟩
    · rw [if_neg c] at ek
      have c2 : r + 1 ∉ (0 :: fs) := fun z => c (List.mem_map.mpr ⟨_, z, rfl⟩)
      refine ⟨_, fs ++ [r + 1], some d, rfl, pd5, set_at hd4, by rw [ek]; simp, by simp at hfl ⊢; omega, ?_, ?_⟩
      · rw [← List.cons_append, List.nodup_append]
        exact ⟨hnd, by simp, fun x hx y hy => by simp at hy; subst hy; intro z; subst z; exact c2 hx⟩
      · intro f hf'
        rcases List.mem_append.mp hf' with h | h
        · exact hf f h
        · simp at h
          subst h
          exact ⟨by omega, by omega⟩
  · rintro e m' ⟨kvs, fs, y3, rfl, pd, hd, hk1, hfl, hnd, hf⟩
    refine ⟨trivial, ?_⟩
    nofun
    refine (drawn pd.pen (by decide) (by decide)).mono ?_
    rintro v m4 ⟨r4, rfl, h41, h42, pd4⟩
    have hd4 := pd4.at hk hd
    have pd4 := pd.trans pd4
    nofun
    refine (drawn pd4.pen (by decide) (by decide)).mono ?_
    rintro v m5 ⟨r5, rfl, h51, h52, pd5⟩
    have hd5 := pd5.at hk hd4
    have pd5 := pd4.trans pd5
    nofun
    have hsl : kvs.length ≤ 4 := by
      have := congrArg List.length hk1
      simp at this
      simp at hfl
      omega
    have hd6 := app_at (x := [O.lst [.int 1, .int 1, .int 2, .int 5, .int (1 + r4), .int (1 + r5)]]) hd5
    have hst := new_at m5 (O.lst [.int 1, .int 1, .int 2, .int 5, .int (1 + r4), .int (1 + r5)])
    have hkst : m5.length ≠ n := by have := pd5.len; omega
    have pd6 := pd5.trans (Pd.gr pd5.pen (Gr.app m5 [O.lst [.int 1, .int 1, .int 2, .int 5, .int (1 + r4), .int (1 + r5)]]))
    generalize m5 ++ [O.lst [.int 1, .int 1, .int 2, .int 5, .int (1 + r4), .int (1 + r5)]] = m6 at hd6 hst pd6
    generalize m5.length = ks at hst hkst
    have hio : intsOf (kvs.map fun kv => kD kv.1) = some (0 :: fs) := by
      have : (kvs.map fun kv => kD kv.1) = ((0 :: fs).map Sum.inl).map kD := by rw [← hk1, List.map_map]; rfl
      rw [this, List.map_map]
      exact intsOf_map (0 :: fs)
    have hso : ∀ Q : D → Mem → Prop, Q (.ref m6.length) (m6 ++ [.lst ((isort (0 :: fs)).map D.int)]) → (dSorted [.ref kd] m6).post Q := fun Q q => by
      simp only [dSorted, lstOf, hd6, hio]
      rw [if_pos (by simp at hfl ⊢; omega)]
      exact q
    refine hso _ ?_
    have hsr := new_at m6 (O.lst ((isort (0 :: fs)).map D.int))
    have hst7 := app_at (x := [O.lst ((isort (0 :: fs)).map D.int)]) hst
    have pd7 := pd6.trans (Pd.gr pd6.pen (Gr.app m6 [O.lst ((isort (0 :: fs)).map D.int)]))
    have hk7 : m6.length ≠ n := by have := pd6.len; omega
    nofun
    refine p_seqR hsr ?_
    nofun
    generalize m6 ++ [O.lst ((isort (0 :: fs)).map D.int)] = m7 at hsr hst7 pd7
    generalize m6.length = kr at hsr hk7
    -- the floors, rising
    have hperm := isort_perm (0 :: fs)
    have hsrt := isort_sorted (0 :: fs)
    have hnd2 : (isort (0 :: fs)).Nodup := hperm.nodup_iff.mpr hnd
    have hup : (isort (0 :: fs)).Pairwise (· < ·) := by
      have := hsrt.and hnd2
      exact this.imp fun ⟨a, b⟩ => by omega
    have hmem : ∀ f ∈ isort (0 :: fs), 0 ≤ f ∧ f ≤ 1000000 := fun f h => by
      have h := hperm.mem_iff.mp h
      rcases List.mem_cons.mp h with rfl | h
      · decide
      · have := hf f h
        omega
    have hzero : ∃ r, isort (0 :: fs) = 0 :: r := by
      have hz : (0 : Int) ∈ isort (0 :: fs) := hperm.mem_iff.mpr (by simp)
      cases h : isort (0 :: fs) with
      | nil => rw [h] at hz; simp at hz
      | cons a r =>
        rw [h] at hup hz
        have ha := (hmem a (by rw [h]; simp)).1
        rcases List.mem_cons.mp hz with z | z
        · exact ⟨r, by rw [← z]⟩
        · have := (List.pairwise_cons.mp hup).1 0 z
          omega
    have hlen4 : (isort (0 :: fs)).length ≤ 4 := by
      rw [hperm.length_eq]
      simp at hfl ⊢
      omega
    generalize isort (0 :: fs) = gs at *
    refine (lcL_inv (fun rest acc m' => ∃ (pr rs : List Int) (ss : List Int), gs = pr ++ rs ∧ rest = rs.map D.int ∧ ss.length = pr.length ∧ acc = (pr.zip ss).map prD ∧ (∀ s ∈ ss, 1 ≤ s ∧ s ≤ 100000) ∧ Pd n m m' ∧ m'[kr]? = some (.lst (gs.map D.int)) ∧ m'[ks]? = some (.lst [.int 1, .int 1, .int 2, .int 5, .int (1 + r4), .int (1 + r5)])) (Q := fun ys m' => ∃ l : Lad, ys = l.map prD ∧ GoodL l ∧ Pd n m m') _ _ _ ⟨[], gs, [], rfl, rfl, rfl, rfl, by simp, pd7, hsr, hst7⟩ ?_ ?_).mono ?_
    · rintro acc m8 ⟨pr, rs, ss, e1, e2, e3, e4, e5, pd8, hr8, hs8⟩
      have : rs = [] := by
        cases rs with
        | nil => rfl
        | cons => simp at e2
      subst this
      rw [List.append_nil] at e1
      subst e1
      refine ⟨hr8, gs.zip ss, e4, ⟨?_, ?_, ?_, ?_, ?_⟩, pd8⟩
      · obtain ⟨r, er⟩ := hzero
        cases ss with
        | nil => rw [er] at e3; simp at e3
        | cons s ss => exact ⟨s, r.zip ss, by rw [er]; rfl⟩
      · rw [List.length_zip]
        omega
      · intro p hp
        exact e5 p.2 (List.of_mem_zip hp).2
      · intro p hp
        exact hmem p.1 (List.of_mem_zip hp).1
      · have : (gs.zip ss).map (·.1) = gs := List.map_fst_zip (by omega)
        rw [this]
        exact hup
    · rintro d rest acc m8 ⟨pr, rs, ss, e1, e2, e3, e4, e5, pd8, hr8, hs8⟩
      obtain ⟨f, rs', rfl⟩ : ∃ f rs', rs = f :: rs' := by
        cases rs with
        | nil => simp at e2
        | cons f rs' => exact ⟨f, rs', rfl⟩
      simp only [List.map_cons, List.cons.injEq] at e2
      obtain ⟨rfl, rfl⟩ := e2
      refine ⟨hr8, _, rfl, ?_⟩
      nofun
      refine (pick_spec pd8.pen hkst hs8 (by simp) (by simp)).mono ?_
      rintro v m9 ⟨hv, pd9⟩
      obtain ⟨s, rfl, hs1, hs2⟩ : ∃ s : Int, v = .int s ∧ 1 ≤ s ∧ s ≤ 100000 := by
        simp only [List.mem_cons, List.not_mem_nil, or_false] at hv
        rcases hv with rfl | rfl | rfl | rfl | rfl | rfl
        · exact ⟨_, rfl, by decide, by decide⟩
        · exact ⟨_, rfl, by decide, by decide⟩
        · exact ⟨_, rfl, by decide, by decide⟩
        · exact ⟨_, rfl, by decide, by decide⟩
        · exact ⟨_, rfl, by omega, by omega⟩
        · exact ⟨_, rfl, by omega, by omega⟩
      nofun
      have hacc : acc.length < 1000000 := by
        have := congrArg List.length e1
        rw [e4, List.length_map, List.length_zip]
        simp at this
        omega
      first | refine ⟨hacc, ?_⟩ | skip
      refine ⟨pr ++ [f], rs', ss ++ [s], by rw [e1]; simp, rfl, by simp [e3], ?_, ?_, pd8.trans pd9, pd9.at hk7 hr8, pd9.at hkst hs8⟩
      · rw [e4, List.zip_append e3.symm, List.map_append]
        rfl
      · intro z hz
        rcases List.mem_append.mp hz with h | h
        · exact e5 z h
        · simp at h
          subst h
          exact ⟨hs1, hs2⟩
    · rintro ys m8 ⟨l, rfl, gl, pd8⟩
      nofun
      refine p_tupleR (new_at m8 _) ?_
      exact ⟨l, rfl, gl, pd8.trans (Pd.gr pd8.pen (Gr.app m8 _))⟩

theorem p_eqN {Q : D → Mem → Prop} {m : Mem} (q : Q (.bl true) m) : (dEq .non .non m).post Q := by
  have h : SeqAt.shaped PyData.none = true := by decide +kernel
  simpa [dEq, dEqB, toPy, h, PyData.eqv] using q
theorem iteFF {A B : Prop} (h : A) : if (false == false) = true then A else B := by rw [show (false == false) = true from rfl, if_pos rfl]; exact h
theorem iteNTT {A B : Prop} (h : B) : if (!(true == true)) = true then A else B := by rw [show (!(true == true)) = false from rfl, if_neg Bool.false_ne_true]; exact h
theorem same_int (j : Nat) (a : Int) (m : Mem) : (f_law_same (j + 1) [.int a, .int a] m).post fun v m' => v = .bl true ∧ m' = m := by
  show (runM 4 (b_law_same (f_law_same j)) _ m).post _
  unfold b_law_same
  nofun
  simp
theorem same_non (j : Nat) (m : Mem) : (f_law_same (j + 1) [.non, .non] m).post fun v m' => v = .bl true ∧ m' = m := by
  show (runM 4 (b_law_same (f_law_same j)) _ m).post _
  unfold b_law_same
  nofun
  refine iteFF ?_
  nofun
  refine p_eqN ?_
  exact ⟨rfl, rfl⟩
theorem zip_self : ∀ (xs : List D), zipD xs xs = xs.map fun x => D.tup [x, x]
  | [] => rfl
  | x :: xs => by rw [zipD, zip_self xs]; rfl
theorem same_list {a b j : Nat} {xs : List D} {m : Mem} (ha : m[a]? = some (.lst xs)) (hb : m[b]? = some (.lst xs)) (hl : xs.length ≤ 900) (h : ∀ x ∈ xs, ∀ m', Gr m m' → (f_law_same j [x, x] m').post fun v m2 => v = .bl true ∧ Gr m' m2) : (f_law_same (j + 1) [.ref a, .ref b] m).post fun v m' => v = .bl true ∧ Gr m m' := by
  show (runM 4 (b_law_same (f_law_same j)) _ m).post _
  unfold b_law_same
  nofun
  refine p_isi_R_lt hb ?_
  nofun
  refine p_isi_R_lt ha ?_
  nofun
  refine p_isi_R_list ha ?_
  nofun
  refine p_isi_R_list hb ?_
  nofun
  refine iteNTT ?_
  nofun
  refine p_lenR ha ?_
  nofun
  refine p_lenR hb ?_
  nofun
  refine iteNBq (fun h => absurd rfl h) (fun _ => ?_)
  nofun
  refine p_zipR ha hb ?_
  nofun
  refine (lc_pure (fun _ => true) (fun _ => D.bl true) _ (fun m' g => ⟨g.at ha, g.at hb⟩) (by rw [zip_self, List.length_map]; omega) fun d hd => ?_).mono ?_
  · rw [zip_self] at hd
    obtain ⟨x, hx, rfl⟩ := List.mem_map.mp hd
    refine ⟨_, rfl, fun m2 g2 => ?_⟩
    nofun
    refine ⟨Gr.refl _, fun _ => ?_⟩
    nofun
    exact h x hx m2 g2
  · rintro ys m2 ⟨rfl, g2⟩
    nofun
    refine all_true (new_at m2 _) (fun y hy => ?_) ?_
    · obtain ⟨_, _, e⟩ := List.mem_map.mp hy
      exact e.symm
    · exact ⟨rfl, g2.trans (Gr.app m2 _)⟩
theorem mv_eq {f p s : Int} (hs : 0 < s) : (f - p + s - 1) / s = (f - 1 - p) / s + 1 := by
  rw [show f - p + s - 1 = f - 1 - p + 1 * s by omega, Int.add_mul_ediv_right _ _ (by omega)]
theorem walk_lo {s p f t n : Int} {r : Lad} (hp : p < f) (h : n < (f - p + s - 1) / s) : walk s ((f, t) :: r) p n = p + n * s := by
  rw [walk, if_pos hp, if_pos h]
theorem walk_hi {s p f t k : Int} {r : Lad} (hp : p < f) (h : 0 ≤ k) : walk s ((f, t) :: r) p ((f - p + s - 1) / s + k) = walk t r (p + (f - p + s - 1) / s * s) k := by
  rw [walk, if_pos hp, if_neg (by omega), show (f - p + s - 1) / s + k - (f - p + s - 1) / s = k by omega]
theorem walk_pass {s p f t k : Int} {r : Lad} (hp : ¬ p < f) : walk s ((f, t) :: r) p k = walk t r p k := by
  rw [walk, if_neg hp]
theorem drop_at {α : Type} {l : List α} {i : Nat} {a b : α} {r : List α} (h : l.drop i = a :: b :: r) : l[i + 1]? = some b := by
  have := congrArg (fun z => z[1]?) h
  simpa [List.getElem?_drop] using this
theorem drop_up {α : Type} {l : List α} {i : Nat} {a : α} {r : List α} (h : l.drop i = a :: r) : l.drop (i + 1) = r := by
  have := congrArg (List.drop 1) h
  rw [List.drop_drop] at this
  simpa using this
/-- after the floors up to one: on the way, or past the bound -/
def OnWay (l : Lad) (st b p n : Int) (lr : Lad) : Prop :=
  (p ≤ b ∧ 0 ≤ n ∧ ∃ f s r, lr = (f, s) :: r ∧ ∀ k, 0 ≤ k → walk s r p k = rungAt l st (n + k)) ∨ (b < p ∧ p = rungAt l st n ∧ 0 < n ∧ rungAt l st (n - 1) ≤ b)
theorem way_last {l : Lad} {st b p n f s : Int} (hs : 0 < s) (hp : p ≤ b) (hn : 0 ≤ n) (h : ∀ k, 0 ≤ k → walk s [] p k = rungAt l st (n + k)) : OnWay l st b (p + ((b - p) / s + 1) * s) (n + ((b - p) / s + 1)) [] := by
  have e := Int.mul_ediv_add_emod (b - p) s
  have z0 := Int.emod_nonneg (b - p) (show s ≠ 0 by omega)
  have z1 := Int.emod_lt_of_pos (b - p) hs
  have z2 : 0 ≤ (b - p) / s := Int.ediv_nonneg (by omega) (by omega)
  have hc : s * ((b - p) / s) = (b - p) / s * s := Int.mul_comm _ _
  refine .inr ⟨by rw [Int.add_mul]; omega, ?_, by omega, ?_⟩
  · rw [← h _ (by omega)]
    rfl
  · rw [show n + ((b - p) / s + 1) - 1 = n + (b - p) / s by omega, ← h _ z2, walk]
    omega
theorem way_end {l : Lad} {st b p n f f' s t : Int} {r : Lad} (hs : 0 < s) (ht : 0 < t) (hr : ∀ q ∈ r, 1 ≤ q.2) (hp : p ≤ b) (hf : b < f' - 1) (hn : 0 ≤ n) (h : ∀ k, 0 ≤ k → walk s ((f', t) :: r) p k = rungAt l st (n + k)) : OnWay l st b (p + ((b - p) / s + 1) * s) (n + ((b - p) / s + 1)) ((f', t) :: r) := by
  have e := Int.mul_ediv_add_emod (b - p) s
  have z0 := Int.emod_nonneg (b - p) (show s ≠ 0 by omega)
  have z1 := Int.emod_lt_of_pos (b - p) hs
  have z2 : 0 ≤ (b - p) / s := Int.ediv_nonneg (by omega) (by omega)
  have hc : s * ((b - p) / s) = (b - p) / s * s := Int.mul_comm _ _
  have hle : (b - p) / s + 1 ≤ (f' - p + s - 1) / s := by
    rw [mv_eq hs]
    have := Int.ediv_le_ediv (a := b - p) (b := f' - 1 - p) hs (by omega)
    omega
  refine .inr ⟨by rw [Int.add_mul]; omega, ?_, by omega, ?_⟩
  · rw [← h _ (by omega)]
    rcases Int.lt_or_eq_of_le hle with c | c
    · rw [walk_lo (by omega) c]
    · have := walk_hi (s := s) (p := p) (f := f') (t := t) (k := 0) (r := r) (by omega) (by omega)
      rw [Int.add_zero] at this
      rw [c, this, walk_zero r t _ ht hr]
  · rw [show n + ((b - p) / s + 1) - 1 = n + (b - p) / s by omega, ← h _ z2, walk_lo (by omega) (by omega)]
    omega
theorem way_on {l : Lad} {st b p n f' s t : Int} {r : Lad} (hs : 0 < s) (ht : 0 < t) (hr : ∀ q ∈ r, 1 ≤ q.2) (hp : p ≤ f' - 1) (hf : f' - 1 ≤ b) (hn : 0 ≤ n) (h : ∀ k, 0 ≤ k → walk s ((f', t) :: r) p k = rungAt l st (n + k)) : OnWay l st b (p + ((f' - 1 - p) / s + 1) * s) (n + ((f' - 1 - p) / s + 1)) ((f', t) :: r) := by
  have hm := mv_pos (f := f') (p := p) (s := s) hs (by omega)
  rw [← mv_eq hs]
  have h2 : ∀ k, 0 ≤ k → walk t r (p + (f' - p + s - 1) / s * s) k = rungAt l st (n + (f' - p + s - 1) / s + k) := fun k hk => by
    rw [← walk_hi (by omega) hk, h _ (by omega), Int.add_assoc]
  by_cases c : p + (f' - p + s - 1) / s * s ≤ b
  · exact .inl ⟨c, by omega, _, _, _, rfl, h2⟩
  · refine .inr ⟨by omega, ?_, by omega, ?_⟩
    · have := h2 0 (by omega)
      rw [walk_zero r t _ ht hr, Int.add_zero] at this
      exact this
    · rw [show n + (f' - p + s - 1) / s - 1 = n + ((f' - p + s - 1) / s - 1) by omega, ← h _ (by omega), walk_lo (by omega) (by omega)]
      omega
theorem enum_len {i : Nat} {l : Lad} {rest : List D} {d : D} (h : d :: rest = enumD i ((l.drop i).map prD)) : ∃ f s r, l.drop i = (f, s) :: r ∧ d = .tup [.int (i : Nat), prD (f, s)] ∧ rest = enumD (i + 1) ((l.drop (i + 1)).map prD) := by
  cases hd : l.drop i with
  | nil => rw [hd] at h; simp [enumD] at h
  | cons a r =>
    rw [hd, List.map_cons, enumD] at h
    obtain ⟨h1, h2⟩ := List.cons.inj h
    exact ⟨a.1, a.2, r, rfl, h1, by rw [drop_up hd]; exact h2⟩
theorem lawtop_spec {l : Lad} (g : GoodL l) {st b : Int} (h1 : 0 ≤ st) (hb : b ≤ 1000000) (m : Mem) : (f_law_top [ladD l, .int st, .int b] m).post fun v m' => m' = m ∧ ((b < st ∧ v = .non) ∨ (st ≤ b ∧ ∃ n : Int, v = .int n ∧ 0 ≤ n ∧ rungAt l st n ≤ b ∧ b < rungAt l st (n + 1))) := by
  unfold f_law_top b_law_top ladD
  obtain ⟨s0, r0, el⟩ := g.ne
  nofun
  refine iteD (fun c => ?_) (fun c => ?_)
  · nofun
    exact .inl ⟨c, rfl⟩
  nofun
  refine forL_inv (fun rest e m' => ∃ (i : Nat) (p n : Int) (y5 y6 y7 y8 y9 : Option D), rest = enumD i ((l.drop i).map prD) ∧ OnWay l st b p n (l.drop i) ∧ m' = m ∧
    e = [some (.tup (l.map prD)), some (.int st), some (.int b), some (.int p), some (.int n), y5, y6, y7, y8, y9]) _ _ _ ⟨0, st, 0, none, none, none, none, none, rfl, .inl ⟨by omega, by omega, 0, s0, r0, el, fun k _ => by rw [el, Int.zero_add]; rfl⟩, rfl, rfl⟩ ?_ ?_
  · rintro e m' ⟨i, p, n, y5, y6, y7, y8, y9, er, hw, rfl, rfl⟩
    have hd : l.drop i = [] := by
      cases hd : l.drop i with
      | nil => rfl
      | cons a r => rw [hd] at er; simp [enumD] at er
    refine ⟨trivial, ?_⟩
    rw [hd] at hw
    rcases hw with ⟨_, _, f, s, r, e0, _⟩ | ⟨w1, w2, w3, w4⟩
    · simp at e0
    nofun
    refine .inr ⟨by omega, _, rfl, by omega, w4, ?_⟩
    rw [show n - 1 + 1 = n by omega]
    omega
  · rintro d rest e m' ⟨i, p, n, y5, y6, y7, y8, y9, er, hw, rfl, rfl⟩
    obtain ⟨f, s, r, hd, rfl, rfl⟩ := enum_len er
    have hs := g.st (f, s) (List.mem_of_mem_drop (i := i) (by rw [hd]; simp))
    simp only at hs
    have hdr := drop_up hd
    have hlen : i + 1 + r.length = l.length := by
      have := congrArg List.length hd
      rw [List.length_drop, List.length_cons] at this
      omega
    refine ⟨trivial, ?_⟩
    unfold prD
    nofun
    refine iteBq (fun c1 => ?_) (fun c1 => ?_)
    · have hr0 : r = [] := by
        rw [List.length_map] at c1
        exact List.eq_nil_of_length_eq_zero (by omega)
      subst hr0
      nofun
      refine iteD (fun c2 => ?_) (fun c2 => ?_)
      · rw [hd] at hw
        rcases hw with ⟨w1, w2, f2, s2, r2, e0, w3⟩ | ⟨w1, w2, w3, w4⟩
        · cases e0
          nofun
          refine ⟨i + 1, _, _, _, _, _, _, _, rfl, ?_, rfl, rfl⟩
          rw [hdr]
          exact way_last (f := f) (by omega) c2 w2 w3
        · omega
      · nofun
        refine ⟨i + 1, _, _, _, _, _, _, _, rfl, ?_, rfl, rfl⟩
        rcases hw with ⟨w1, w2, f2, s2, r2, e0, w3⟩ | ⟨w1, w2, w3, w4⟩
        · omega
        · exact .inr ⟨w1, w2, w3, w4⟩
    · obtain ⟨⟨f', t⟩, r', rfl⟩ : ∃ a r', r = a :: r' := by
        cases r with
        | nil =>
          rw [List.length_map] at c1
          simp at hlen
          omega
        | cons a r => exact ⟨a, r, rfl⟩
      have ht := g.st (f', t) (List.mem_of_mem_drop (i := i) (by rw [hd]; simp))
      have hr : ∀ q ∈ r', 1 ≤ q.2 := fun q hq => (g.st q (List.mem_of_mem_drop (i := i) (by rw [hd]; simp [hq]))).1
      simp only at ht
      have hix : atI (l.map prD) ((i : Int) + 1) = some (prD (f', t)) := atI_nat (j := i + 1) (by rw [List.getElem?_map, drop_at hd]; rfl)
      nofun
      refine p_ixT hix ?_
      unfold prD
      nofun
      refine iteD (fun c2 => ?_) (fun c2 => ?_)
      · rw [hd] at hw
        rcases hw with ⟨w1, w2, f2, s2, r2, e0, w3⟩ | ⟨w1, w2, w3, w4⟩
        · cases e0
          nofun
          refine ⟨i + 1, _, _, _, _, _, _, _, rfl, ?_, rfl, rfl⟩
          rw [hdr]
          by_cases c3 : f' - 1 < b
          · rw [if_pos c3] at c2 ⊢
            exact way_on (by omega) (by omega) hr c2 (by omega) w2 w3
          · rw [if_neg c3] at c2 ⊢
            by_cases c4 : b = f' - 1
            · have := way_on (b := b) (st := st) (l := l) (by omega) (by omega) hr (show p ≤ f' - 1 by omega) (by omega) w2 w3
              rw [← c4] at this
              exact this
            · exact way_end (f := f) (by omega) (by omega) hr c2 (by omega) w2 w3
        · exfalso
          split at c2 <;> omega
      · nofun
        refine ⟨i + 1, _, _, _, _, _, _, _, rfl, ?_, rfl, rfl⟩
        rw [hdr]
        rw [hd] at hw
        rcases hw with ⟨w1, w2, f2, s2, r2, e0, w3⟩ | ⟨w1, w2, w3, w4⟩
        · cases e0
          refine .inl ⟨w1, w2, _, _, _, rfl, fun k hk => ?_⟩
          rw [← w3 k hk, walk_pass (by split at c2 <;> omega)]
        · exact .inr ⟨w1, w2, w3, w4⟩

theorem topspec {l : Lad} (g : GoodL l) {st b : Int} (h1 : 1 ≤ st ∧ st ≤ 1000000) (hb : 1 ≤ b ∧ b ≤ 1000000) (m : Mem) : (f_last_rung [ladD l, .int st, .int b] m).post fun v m' => v = topD l st b ∧ Gr m m' :=
  (top_spec g h1 hb m).mono fun v m' ⟨g1, h⟩ => ⟨topD_of g (by omega) h, g1⟩
theorem lawtopspec {l : Lad} (g : GoodL l) {st b : Int} (h1 : 0 ≤ st) (hb : b ≤ 1000000) (m : Mem) : (f_law_top [ladD l, .int st, .int b] m).post fun v m' => v = topD l st b ∧ m' = m :=
  (lawtop_spec g h1 hb m).mono fun v m' ⟨g1, h⟩ => ⟨topD_of g h1 h, g1⟩
theorem islot_spec {s t : Int} (h1 : 1 ≤ s ∧ s ≤ 1000000) (h2 : s ≤ t ∧ t ≤ 1000000) (m : Mem) : (f_is_lot [.tup [.int s, .int t]] m).post fun v m' => v = .bl true ∧ m' = m := by
  unfold f_is_lot b_is_lot
  nofun
  refine (tupleof_spec _ 2 2 m).mono ?_
  rintro v m' ⟨rfl, rfl⟩
  nofun
  refine iteND (fun h => absurd (by simp) h) (fun _ => ?_)
  nofun
  refine (within_spec s 1 1000000 _).mono ?_
  rintro v m' ⟨rfl, rfl⟩
  rw [decide_eq_true h1]
  nofun
  refine (within_spec t s 1000000 _).mono ?_
  rintro v m' ⟨rfl, rfl⟩
  rw [decide_eq_true h2]
  exact ⟨rfl, rfl⟩
theorem chk_lot {s t : Int} (h1 : 1 ≤ s ∧ s ≤ 1000000) (h2 : s ≤ t ∧ t ≤ 1000000) (m : Mem) : (f_check_lot [.tup [.int s, .int t]] m).post fun v m' => m' = m := by
  unfold f_check_lot b_check_lot
  nofun
  refine (islot_spec h1 h2 m).mono ?_
  rintro v m' ⟨rfl, rfl⟩
  nofun
theorem isbid_spec {q : Int × Int} (h1 : 0 ≤ q.1 ∧ q.1 ≤ 7) (h2 : 1 ≤ q.2 ∧ q.2 ≤ 1000000) (m : Mem) : (f_is_bid [prD q] m).post fun v m' => v = .bl true ∧ m' = m := by
  unfold f_is_bid b_is_bid prD
  nofun
  refine (tupleof_spec _ 2 2 m).mono ?_
  rintro v m' ⟨rfl, rfl⟩
  nofun
  refine iteND (fun h => absurd (by simp) h) (fun _ => ?_)
  nofun
  unfold f_is_buyer b_is_buyer
  nofun
  refine (within_spec q.1 0 7 _).mono ?_
  rintro v m' ⟨rfl, rfl⟩
  rw [decide_eq_true h1]
  nofun
  refine (within_spec q.2 1 1000000 _).mono ?_
  rintro v m' ⟨rfl, rfl⟩
  rw [decide_eq_true h2]
  exact ⟨rfl, rfl⟩
theorem arebids_spec {bs : Bids} (g : GoodB bs) (m : Mem) : (f_are_bids [.tup (bs.map prD)] m).post fun v m' => v = .bl true ∧ Gr m m' := by
  unfold f_are_bids b_are_bids
  have hlen := g.len
  nofun
  refine (tupleof_spec _ 0 8 m).mono ?_
  rintro v m' ⟨rfl, rfl⟩
  nofun
  refine iteND (fun h => absurd (by simp; omega) h) (fun _ => ?_)
  nofun
  refine (lc_pure (fun _ => true) (fun _ => D.bl true) _ (fun _ _ => trivial) (by simp; omega) fun d hd => ?_).mono ?_
  · obtain ⟨q, hq, rfl⟩ := List.mem_map.mp hd
    refine ⟨_, rfl, fun m2 g2 => ?_⟩
    nofun
    refine ⟨Gr.refl _, fun _ => ?_⟩
    nofun
    refine (isbid_spec (g.who q hq) (g.bnd q hq) m2).mono ?_
    rintro v m3 ⟨rfl, rfl⟩
    exact ⟨rfl, Gr.refl _⟩
  · rintro ys m2 ⟨rfl, g2⟩
    nofun
    refine all_true (new_at m2 _) (fun y hy => ?_) ?_
    · obtain ⟨_, _, e⟩ := List.mem_map.mp hy
      exact e.symm
    nofun
    refine p_lenSc ?_
    nofun
    refine (scL_post prD (·.1) trivial bs [] (by simp; omega) fun q hq => ⟨_, rfl, ?_⟩).mono ?_
    · nofun
    · rintro ns m3 ⟨rfl, rfl⟩
      rw [List.nil_append, dedI_nodup g.nd]
      refine ⟨by simp; omega, ?_⟩
      nofun
      exact g2.trans (Gr.app m2 _)
theorem chk_bids {bs : Bids} (g : GoodB bs) (m : Mem) : (f_check_bids [.tup (bs.map prD)] m).post fun v m' => Gr m m' := by
  unfold f_check_bids b_check_bids
  nofun
  refine (arebids_spec g m).mono ?_
  rintro v m' ⟨rfl, g1⟩
  nofun
  exact g1
theorem chk_offer {l : Lad} {bs : Bids} {s t : Int} (gl : GoodL l) (gb : GoodB bs) (h1 : 1 ≤ s ∧ s ≤ 1000000) (h2 : s ≤ t ∧ t ≤ 1000000) (m : Mem) : (f_check_offer [ladD l, .tup [.int s, .int t], .tup (bs.map prD)] m).post fun v m' => Gr m m' := by
  unfold f_check_offer b_check_offer
  nofun
  refine (chk_ladder gl m).mono ?_
  intro v m1 g1
  nofun
  refine (chk_lot h1 h2 m1).mono ?_
  rintro v m2 rfl
  nofun
  refine (chk_bids gb m2).mono ?_
  intro v m3 g3
  nofun
  exact g1.trans g3
theorem tops_spec {l : Lad} {bs : Bids} {s t : Int} (gl : GoodL l) (gb : GoodB bs) (h1 : 1 ≤ s ∧ s ≤ 1000000) (h2 : s ≤ t ∧ t ≤ 1000000) (m : Mem) : (f_tops_of [ladD l, .tup [.int s, .int t], .tup (bs.map prD)] m).post fun v m' => ∃ k, v = .ref k ∧ m.length ≤ k ∧ m'[k]? = some (.lst (bs.map fun q => topD l s q.2)) ∧ Gr m m' := by
  unfold f_tops_of b_tops_of
  have hlen := gb.len
  nofun
  refine (chk_offer gl gb h1 h2 m).mono ?_
  intro v m3 g3
  nofun
  refine (lc_pure (fun _ => true) (fun d => match d with | .tup [_, .int b] => topD l s b | _ => .non) _ (fun _ _ => trivial) (by simp; omega) fun d hd => ?_).mono ?_
  · obtain ⟨q, hq, rfl⟩ := List.mem_map.mp hd
    refine ⟨_, rfl, fun m2 g2 => ?_⟩
    nofun
    refine ⟨Gr.refl _, fun _ => ?_⟩
    nofun
    exact topspec gl h1 (gb.bnd q hq) m2
  · rintro ys m4 ⟨rfl, g4⟩
    have e : ((bs.map prD).filter fun _ => true).map (fun d => match d with | .tup [_, .int b] => topD l s b | _ => .non) = bs.map fun q => topD l s q.2 := by
      rw [List.filter_eq_self.mpr (by simp), List.map_map]
      rfl
    rw [e]
    exact ⟨m4.length, rfl, (g3.trans g4).len, new_at _ _, (g3.trans g4).trans (Gr.app m4 _)⟩
theorem er_map {α β : Type} (f : α → β) : ∀ (l : List α) (i : Nat), (l.map f).eraseIdx i = (l.eraseIdx i).map f
  | [], _ => rfl
  | a :: l, 0 => rfl
  | a :: l, i + 1 => by simp [List.eraseIdx, er_map f l i]
theorem er_perm {α : Type} : ∀ (l : List α) (i : Nat) (h : i < l.length), (l[i] :: l.eraseIdx i).Perm l
  | [], _, h => by simp at h
  | a :: l, 0, h => List.Perm.refl _
  | a :: l, i + 1, h => by
    have hi : i < l.length := by simpa using h
    have ih := er_perm l i hi
    exact (List.Perm.swap a l[i] (l.eraseIdx i)).trans (List.Perm.cons a ih)
theorem mixed_spec {n k : Nat} {m : Mem} {ns : List Int} (hp : Pen n m) (hk : m[k]? = some (.lst (ns.map D.int))) (hl : ns.length ≤ 900) : (f_law_mixed [.ref n, .ref k] m).post fun v m' => ∃ (j : Nat) (ys : List Int), v = .ref j ∧ j ≠ n ∧ m'[j]? = some (.lst (ys.map D.int)) ∧ ys.Perm ns ∧ Pd n m m' := by
  unfold f_law_mixed b_law_mixed
  nofun
  refine p_listR hk ?_
  nofun
  have hn := hp.ex
  obtain ⟨_, _, hpn, _⟩ := hn
  have hnlt := lt_of_at hpn
  have hr0 : (m ++ [O.lst (ns.map D.int)] ++ [O.lst []])[m.length]? = some (O.lst (ns.map D.int)) := app_at (new_at _ _)
  have hd0 := new_at (m ++ [O.lst (ns.map D.int)]) (O.lst ([] : List D))
  have pd0 : Pd n m (m ++ [O.lst (ns.map D.int)] ++ [O.lst []]) := Pd.gr hp ((Gr.app m _).trans (Gr.app _ _))
  have hlr : (m ++ [O.lst (ns.map D.int)]).length = m.length + 1 := by simp
  rw [hlr] at hd0 ⊢
  generalize m ++ [O.lst (ns.map D.int)] ++ [O.lst []] = m0 at hr0 hd0 pd0
  refine while_inv (fun z e m' => ∃ (rs ds : List Int), z = rs.length ∧ (ds ++ rs).Perm ns ∧ m'[m.length]? = some (.lst (rs.map D.int)) ∧ m'[m.length + 1]? = some (.lst (ds.map D.int)) ∧ Pd n m m' ∧ e = [some (.ref n), some (.ref k), some (.ref m.length), some (.ref (m.length + 1))]) ?_ 1000000 ns.length _ _ (by omega) ⟨ns, [], rfl, by simp, hr0, hd0, pd0, rfl⟩
  rintro z e m' ⟨rs, ds, rfl, hpm, hr, hd, pd, rfl⟩
  have hln : ds.length + rs.length = ns.length := by rw [← hpm.length_eq]; simp
  nofun
  have hr1 := app_at (x := [O.lst ([] : List D)]) hr
  have hd1 := app_at (x := [O.lst ([] : List D)]) hd
  have pd1 := pd.trans (Pd.gr pd.pen (Gr.app m' [O.lst ([] : List D)]))
  refine p_neEI hr1 (new_at m' _) ?_
  generalize m' ++ [O.lst ([] : List D)] = m1 at hr1 hd1 pd1
  nofun
  cases rs with
  | nil =>
    nofun
    exact ⟨m.length + 1, ds, rfl, by omega, hd1, by simpa using hpm, pd1⟩
  | cons r rs =>
    nofun
    refine ⟨rs.length, by simp, ?_⟩
    nofun
    refine ⟨lAt hd1, ?_⟩
    nofun
    refine ⟨lAt hr1, ?_⟩
    nofun
    refine p_lenR hr1 ?_
    nofun
    rw [List.length_map] at *
    refine (drawn pd1.pen (by simp) (by simp at hln ⊢; omega)).mono ?_
    rintro v m2 ⟨i, rfl, i0, i1, p2⟩
    have hr2 := p2.at (by omega) hr1
    have hd2 := p2.at (by omega) hd1
    have pd2 := pd1.trans p2
    have hi : i.toNat < (r :: rs).length := by omega
    have hy : ((r :: rs).map D.int)[i.toNat]? = some (.int (r :: rs)[i.toNat]) := by
      rw [List.getElem?_map, List.getElem?_eq_getElem hi]
      rfl
    nofun
    refine p_popR hr2 i0 (by simp at hln i1; omega) hy ?_
    nofun
    have hne : m.length ≠ m.length + 1 := by omega
    have hme : ((r :: rs).map D.int).eraseIdx i.toNat = ((r :: rs).eraseIdx i.toNat).map D.int := (er_map D.int (r :: rs) i.toNat)
    rw [hme]
    have hr3 := set_at (o' := O.lst (((r :: rs).eraseIdx i.toNat).map D.int)) hr2
    have hd3 : (m2.set m.length (O.lst (((r :: rs).eraseIdx i.toNat).map D.int)))[m.length + 1]? = some (.lst (ds.map D.int)) := by
      rw [List.getElem?_set_ne hne]
      exact hd2
    refine p_appR hd3 (by rw [List.length_map]; omega) ?_
    nofun
    refine ⟨(r :: rs).eraseIdx i.toNat, ds ++ [(r :: rs)[i.toNat]], ?_, ?_, ?_, ?_, ?_, rfl⟩
    · rw [List.length_eraseIdx_of_lt hi]
      simp
    · refine List.Perm.trans ?_ hpm
      rw [List.append_assoc]
      exact List.Perm.append_left _ (er_perm _ _ hi)
    · rw [List.getElem?_set_ne (fun h => hne h.symm)]
      exact hr3
    · rw [set_at hd3, List.map_append]
      rfl
    · refine ⟨?_, ?_, ?_⟩
      · obtain ⟨c, f, hc, hf⟩ := pd2.pen.ex
        exact ⟨c, f, by rw [List.getElem?_set_ne (by omega), List.getElem?_set_ne (by omega)]; exact hc, hf⟩
      · intro j o hj ho
        have hjl := lt_of_at ho
        rw [List.getElem?_set_ne (by omega), List.getElem?_set_ne (by omega)]
        exact pd2.kept j o hj ho
      · rw [List.length_set, List.length_set]
        exact pd2.len

theorem pen_lt {n : Nat} {m : Mem} (hp : Pen n m) : n < m.length := by
  obtain ⟨_, _, h, _⟩ := hp.ex
  exact lt_of_at h
theorem pickL {n : Nat} {m : Mem} {xs : List D} (hp : Pen n m) (h0 : 0 < xs.length) (hl : xs.length ≤ 1000) : (f_law_pick [.ref n, .ref m.length] (m ++ [.lst xs])).post fun v m' => v ∈ xs ∧ Pd n m m' := by
  have g := Gr.app m [O.lst xs]
  refine (pick_spec (g.pen hp) (by have := pen_lt hp; omega) (new_at m (.lst xs)) h0 hl).mono ?_
  rintro v m' ⟨h, p⟩
  exact ⟨h, (Pd.gr hp g).trans p⟩
theorem lot_spec {n : Nat} {m : Mem} {reach : Int} (hp : Pen n m) (hr : 1 ≤ reach ∧ reach ≤ 1000000) : (f_law_lot [.ref n, .int reach] m).post fun v m' => ∃ s t : Int, v = .tup [.int s, .int t] ∧ (1 ≤ s ∧ s ≤ 1000000) ∧ (s ≤ t ∧ t ≤ 1000000) ∧ Pd n m m' := by
  unfold f_law_lot b_law_lot
  nofun
  refine (drawn hp (by decide) (by decide)).mono ?_
  rintro v m1 ⟨a, rfl, a0, a1, p1⟩
  nofun
  refine (drawn p1.pen (by decide) (by decide)).mono ?_
  rintro v m2 ⟨b, rfl, b0, b1, p2⟩
  nofun
  refine (pickL p2.pen (by simp) (by simp)).mono ?_
  rintro v m3 ⟨hv, p3⟩
  obtain ⟨s, rfl, hs1, hs2⟩ : ∃ s : Int, v = .int s ∧ 1 ≤ s ∧ s ≤ 1000000 := by
    simp only [List.mem_cons, List.not_mem_nil, or_false] at hv
    rcases hv with rfl | rfl | rfl | rfl | rfl
    · exact ⟨_, rfl, by decide, by decide⟩
    · exact ⟨_, rfl, by decide, by decide⟩
    · exact ⟨_, rfl, by omega, by omega⟩
    · exact ⟨_, rfl, by omega, by omega⟩
    · exact ⟨_, rfl, by decide, by decide⟩
  nofun
  refine (drawn p3.pen (by omega) (by omega)).mono ?_
  rintro v m4 ⟨c, rfl, c0, c1, p4⟩
  nofun
  refine (pickL p4.pen (by simp) (by simp)).mono ?_
  rintro v m5 ⟨hv, p5⟩
  obtain ⟨t, rfl, ht1, ht2⟩ : ∃ s : Int, v = .int s ∧ 0 ≤ s ∧ s ≤ 1000000 := by
    simp only [List.mem_cons, List.not_mem_nil, or_false] at hv
    rcases hv with rfl | rfl | rfl
    · exact ⟨_, rfl, by decide, by decide⟩
    · exact ⟨_, rfl, by decide, by decide⟩
    · exact ⟨_, rfl, by omega, by omega⟩
  nofun
  exact ⟨s, _, rfl, ⟨hs1, hs2⟩, by split <;> omega, (((p1.trans p2).trans p3).trans p4).trans p5⟩
theorem rg8 : rgD 0 8 = ([0, 1, 2, 3, 4, 5, 6, 7] : List Int).map D.int := rfl
theorem cut_hi (xs : List D) (h : Int) (h0 : 0 ≤ h) : Mi.cutD xs none (some h) = xs.take h.toNat := by
  unfold Mi.cutD
  have e : HT.sIx xs.length xs.length (some h) = min h.toNat xs.length := by
    have := HT.sIx_nat xs.length xs.length h.toNat
    rw [show ((h.toNat : Nat) : Int) = h by omega] at this
    exact this
  rw [e, HT.sIx_none]
  simp
theorem bids_specX {n : Nat} {m : Mem} {st reach : Int} (hp : Pen n m) (hs : 1 ≤ st ∧ st ≤ 1000000) (hr : 1 ≤ reach ∧ reach ≤ 1000000) : (f_law_bids [.ref n, .int st, .int reach] m).post fun v m' => ∃ bs : Bids, v = .tup (bs.map prD) ∧ GoodB bs ∧ (∀ q ∈ bs, q.2 ≤ st + reach + 8) ∧ Pd n m m' := by
  unfold f_law_bids b_law_bids
  have hnl := pen_lt hp
  nofun
  have hb0 := new_at m (O.lst ([] : List D))
  have p0 := Pd.gr hp (Gr.app m [O.lst ([] : List D)])
  have hl0 : (m ++ [O.lst ([] : List D)]).length = m.length + 1 := by simp
  generalize m ++ [O.lst ([] : List D)] = m0 at hb0 p0 hl0
  refine p_listRg (by decide) ?_
  rw [show ((8 : Int).toNat) = 8 from rfl, rg8]
  nofun
  have g1 := Gr.app m0 [O.lst (([0, 1, 2, 3, 4, 5, 6, 7] : List Int).map D.int)]
  refine (mixed_spec (g1.pen p0.pen) (new_at m0 _) (by simp)).mono ?_
  rintro v m1 ⟨j, ys, rfl, hjn, hj, hperm, p1⟩
  have p01 := (p0.trans (Pd.gr p0.pen g1)).trans p1
  have hb1 := p1.at (by omega) (g1.at hb0)
  nofun
  refine (pickL p01.pen (by simp) (by simp)).mono ?_
  rintro v m2 ⟨hv, p2⟩
  obtain ⟨h, rfl, hh0, hh8⟩ : ∃ s : Int, v = .int s ∧ 0 ≤ s ∧ s ≤ 8 := by
    simp only [List.mem_cons, List.not_mem_nil, or_false] at hv
    rcases hv with rfl | rfl | rfl | rfl | rfl | rfl | rfl | rfl <;> exact ⟨_, rfl, by decide, by decide⟩
  have hb2 := p2.at (by omega) hb1
  have hj2 := p2.at hjn hj
  have p02 := p01.trans p2
  nofun
  refine p_cutR hj2 ?_
  rw [cut_hi _ _ hh0, ← List.map_take]
  have hys : ∀ y ∈ ys, 0 ≤ y ∧ y ≤ 7 := fun y hy => by
    have := hperm.mem_iff.mp hy
    simp at this
    omega
  have hynd : ys.Nodup := hperm.nodup_iff.mpr (by decide)
  have hzs : ∀ y ∈ ys.take h.toNat, 0 ≤ y ∧ y ≤ 7 := fun y hy => hys y (List.mem_of_mem_take hy)
  have hznd : (ys.take h.toNat).Nodup := hynd.sublist (List.take_sublist _ _)
  have hzl : (ys.take h.toNat).length ≤ 8 := by rw [List.length_take]; omega
  generalize ys.take h.toNat = zs at hzs hznd hzl
  have hz3 := new_at m2 (O.lst (zs.map D.int))
  have hb3 := app_at (x := [O.lst (zs.map D.int)]) hb2
  have p03 := p02.trans (Pd.gr p02.pen (Gr.app m2 [O.lst (zs.map D.int)]))
  have hzk : m2.length ≠ n ∧ m2.length ≠ m.length := by have := pen_lt p02.pen; have := lt_of_at hb2; omega
  generalize m2 ++ [O.lst (zs.map D.int)] = m3 at hz3 hb3 p03
  generalize m2.length = kz at hz3 hzk
  nofun
  refine p_seqR hz3 ?_
  nofun
  refine forL_inv (fun rest e m' => ∃ (pr rs : List Int) (bs : Bids) (y4 y5 : Option D), zs = pr ++ rs ∧ rest = rs.map D.int ∧ bs.map (·.1) = pr ∧ (∀ q ∈ bs, (1 ≤ q.2 ∧ q.2 ≤ 1000000) ∧ q.2 ≤ st + reach + bs.length) ∧ m'[m.length]? = some (.lst (bs.map prD)) ∧ m'[kz]? = some (.lst (zs.map D.int)) ∧ Pd n m m' ∧ e = [some (.ref n), some (.int st), some (.int reach), some (.ref m.length), y4, y5]) _ _ _ ⟨[], zs, [], none, none, rfl, rfl, rfl, by simp, hb3, hz3, p03, rfl⟩ ?_ ?_
  · rintro e m4 ⟨pr, rs, bs, y4, y5, e1, e2, e3, e4, hb4, hz4, p04, rfl⟩
    have : rs = [] := by
      cases rs with
      | nil => rfl
      | cons => simp at e2
    subst this
    rw [List.append_nil] at e1
    subst e1
    refine ⟨hz4, ?_⟩
    nofun
    refine p_tupleR hb4 ?_
    have hbl : bs.length = zs.length := by rw [← e3, List.length_map]
    refine ⟨bs, rfl, ⟨by omega, fun q hq => hzs q.1 (e3 ▸ List.mem_map.mpr ⟨q, hq, rfl⟩), fun q hq => (e4 q hq).1, by rw [e3]; exact hznd⟩, fun q hq => by have := (e4 q hq).2; omega, p04⟩
  · rintro d rest e m4 ⟨pr, rs, bs, y4, y5, e1, e2, e3, e4, hb4, hz4, p04, rfl⟩
    obtain ⟨b, rs', rfl⟩ : ∃ q lr', rs = q :: lr' := by
      cases rs with
      | nil => simp at e2
      | cons q lr' => exact ⟨q, lr', rfl⟩
    simp only [List.map_cons, List.cons.injEq] at e2
    obtain ⟨rfl, rfl⟩ := e2
    refine ⟨hz4, ?_⟩
    nofun
    refine (drawn p04.pen (by omega) (by omega)).mono ?_
    rintro v m5 ⟨r5, rfl, r50, r51, p5⟩
    have hb5 := p5.at (by omega) hb4
    have hz5 := p5.at (by omega) hz4
    have p05 := p04.trans p5
    have hbl : bs.length ≤ 8 := by
      have h1 := congrArg List.length e3
      have h2 := congrArg List.length e1
      simp at h1 h2
      omega
    -- the end of a turn, whatever the bound
    have fin : ∀ (y : Int) (m6 : Mem) (x5 : Option D), y ≤ st + reach + bs.length + 1 → m6[m.length]? = some (.lst (bs.map prD)) → m6[kz]? = some (.lst (zs.map D.int)) → Pd n m m6 → x5 = some (.int y) → ((sDrop (mMtL dAppend (mVar 3) (mCons (mTup (mCons (mVar 4) (mCons (mCB dMin2 (mCons (mOp dPow (mC (.int 10)) (mC (.int 6))) (mCons (mCB dMax2 (mCons (mC (.int 1)) (mCons (mVar 5) mNil))) mNil))) mNil))) mNil)))
        [some (.ref n), some (.int st), some (.int reach), some (.ref m.length), some (.int b), x5] m6).post (fun e2 m2 => ∃ (pr rs : List Int) (bs : Bids) (y4 y5 : Option D), zs = pr ++ rs ∧ rs'.map D.int = rs.map D.int ∧ bs.map (·.1) = pr ∧ (∀ q ∈ bs, (1 ≤ q.2 ∧ q.2 ≤ 1000000) ∧ q.2 ≤ st + reach + bs.length) ∧ m2[m.length]? = some (.lst (bs.map prD)) ∧ m2[kz]? = some (.lst (zs.map D.int)) ∧ Pd n m m2 ∧ e2 = [some (.ref n), some (.int st), some (.int reach), some (.ref m.length), y4, y5])
        fun v m' => ∃ bs : Bids, v = .tup (bs.map prD) ∧ GoodB bs ∧ (∀ q ∈ bs, q.2 ≤ st + reach + 8) ∧ Pd n m m' := by
      rintro y m6 x5 hyb hb6 hz6 p06 rfl
      nofun
      refine ⟨lAt hb6, ?_⟩
      nofun
      refine p_appR hb6 (by rw [List.length_map]; omega) ?_
      nofun
      obtain ⟨w, ew, hw1, hw2, hw3⟩ : ∃ w : Int, (if (if y > 1 then y else 1) < 1000000 then (if y > 1 then y else 1) else 1000000) = w ∧ 1 ≤ w ∧ w ≤ 1000000 ∧ w ≤ st + reach + bs.length + 1 := ⟨_, rfl, by split <;> split <;> omega, by split <;> omega, by split <;> split <;> omega⟩
      rw [ew]
      refine ⟨pr ++ [b], rs', bs ++ [(b, w)], some (.int b), some (.int y), by rw [e1]; simp, rfl, by rw [List.map_append, e3]; rfl, fun q hq => ?_, ?_, ?_, ?_, rfl⟩
      · rcases List.mem_append.mp hq with hq | hq
        · have := e4 q hq
          exact ⟨this.1, by simp; omega⟩
        · simp at hq
          subst hq
          exact ⟨⟨hw1, hw2⟩, by simp; omega⟩
      · rw [set_at hb6, List.map_append]
        rfl
      · rw [List.getElem?_set_ne (fun z => hzk.2 z.symm)]
        exact hz6
      · refine ⟨?_, fun i o hi ho => ?_, by rw [List.length_set]; exact p06.len⟩
        · obtain ⟨c, f, hc, hf⟩ := p06.pen.ex
          exact ⟨c, f, by rw [List.getElem?_set_ne (by omega)]; exact hc, hf⟩
        · have := lt_of_at ho
          rw [List.getElem?_set_ne (by omega)]
          exact p06.kept i o hi ho
    nofun
    have hb6 := app_at (x := [O.lst ([] : List D)]) hb5
    have hz6 := app_at (x := [O.lst ([] : List D)]) hz5
    have p06 := p05.trans (Pd.gr p05.pen (Gr.app m5 [O.lst ([] : List D)]))
    refine p_neEP hb6 (new_at m5 _) ?_
    generalize m5 ++ [O.lst ([] : List D)] = m6 at hb6 hz6 p06
    nofun
    rcases List.eq_nil_or_concat bs with hbe | ⟨bi, bl, hbe⟩
    · have hem : (!bs.isEmpty) = false := by rw [hbe]; rfl
      rw [hem]
      nofun
      exact (w_mtL _ _ _).mp ((w_drop _).mp (fin _ m6 _ (by omega) hb6 hz6 p06 rfl))
    · have hem : (!bs.isEmpty) = true := by rw [hbe]; simp
      rw [hem]
      nofun
      refine (drawn p06.pen (by decide) (by decide)).mono ?_
      rintro v m7 ⟨r7, rfl, r70, r71, p7⟩
      have hb7 := p7.at (by omega) hb6
      have hz7 := p7.at (by omega) hz6
      have p07 := p06.trans p7
      nofun
      refine iteBq (fun _ => ?_) (fun _ => ?_)
      · have hla : atI (bs.map prD) (-1) = some (prD bl) := by
          rw [hbe, List.concat_eq_append, List.map_append]
          exact atI_last _ _
        nofun
        refine p_ixR hb7 hla ?_
        unfold prD
        nofun
        refine (drawn p07.pen (by decide) (by decide)).mono ?_
        rintro v m8 ⟨r8, rfl, r80, r81, p8⟩
        nofun
        exact (w_mtL _ _ _).mp ((w_drop _).mp (fin _ m8 _ (by have := (e4 bl (by rw [hbe]; simp)).2; omega) (p8.at (by omega) hb7) (p8.at (by omega) hz7) (p07.trans p8) rfl))
      · nofun
        exact (w_mtL _ _ _).mp ((w_drop _).mp (fin _ m7 _ (by omega) hb7 hz7 p07 rfl))
theorem bids_spec {n : Nat} {m : Mem} {st reach : Int} (hp : Pen n m) (hs : 1 ≤ st ∧ st ≤ 1000000) (hr : 1 ≤ reach ∧ reach ≤ 1000000) : (f_law_bids [.ref n, .int st, .int reach] m).post fun v m' => ∃ bs : Bids, v = .tup (bs.map prD) ∧ GoodB bs ∧ Pd n m m' :=
  (bids_specX hp hs hr).mono fun v m' ⟨bs, h1, h2, _, h4⟩ => ⟨bs, h1, h2, h4⟩
theorem scene_specX {n : Nat} {m : Mem} {reach : Int} (hp : Pen n m) (hr : 1 ≤ reach ∧ reach ≤ 1000000) : (f_law_scene [.ref n, .int reach] m).post fun v m' => ∃ (l : Lad) (s t : Int) (bs : Bids), v = .tup [ladD l, .tup [.int s, .int t], .tup (bs.map prD)] ∧ GoodL l ∧ (1 ≤ s ∧ s ≤ 1000000) ∧ (s ≤ t ∧ t ≤ 1000000) ∧ GoodB bs ∧ (∀ q ∈ bs, q.2 ≤ s + reach + 8) ∧ Pd n m m' := by
  unfold f_law_scene b_law_scene
  nofun
  refine (lawladder_spec hp).mono ?_
  rintro v m1 ⟨l, rfl, gl, p1⟩
  nofun
  refine (lot_spec p1.pen hr).mono ?_
  rintro v m2 ⟨s, t, rfl, hs, ht, p2⟩
  nofun
  refine (bids_specX p2.pen hs hr).mono ?_
  rintro v m3 ⟨bs, rfl, gb, hbb, p3⟩
  nofun
  exact ⟨l, s, t, bs, rfl, gl, hs, ht, gb, hbb, (p1.trans p2).trans p3⟩
theorem scene_spec {n : Nat} {m : Mem} {reach : Int} (hp : Pen n m) (hr : 1 ≤ reach ∧ reach ≤ 1000000) : (f_law_scene [.ref n, .int reach] m).post fun v m' => ∃ (l : Lad) (s t : Int) (bs : Bids), v = .tup [ladD l, .tup [.int s, .int t], .tup (bs.map prD)] ∧ GoodL l ∧ (1 ≤ s ∧ s ≤ 1000000) ∧ (s ≤ t ∧ t ≤ 1000000) ∧ GoodB bs ∧ Pd n m m' :=
  (scene_specX hp hr).mono fun v m' ⟨l, s, t, bs, h1, h2, h3, h4, h5, _, h7⟩ => ⟨l, s, t, bs, h1, h2, h3, h4, h5, h7⟩

abbrev lotD (s t : Int) : D := .tup [.int s, .int t]
abbrev bidD (bs : Bids) : D := .tup (bs.map prD)
def dicR (rs : List Rn) : List (Key × D) := rs.map fun r => ((.inl r.1 : Key), D.int r.2)
theorem missed_spec {r t : Int} (hr : 0 ≤ r ∧ r ≤ 10000000) (ht : 0 ≤ t ∧ t ≤ 10000000) (m : Mem) : (f_turn_missed [.int r, .int t] m).post fun v m' => v = .int (missed r t) ∧ m' = m := by
  unfold f_turn_missed b_turn_missed missed
  sizeOf_list_dec
theorem takerin_spec (s : Sx) (r : Int) (m : Mem) : (f_taker_in [stD s, .int r] m).post fun v m' => v = (if (r - s.a) % 2 = 0 then .int s.one else oD s.oth) ∧ m' = m := by
  unfold f_taker_in b_taker_in stD
  sizeOf_list_dec
  refine iteBq (fun h => ?_) (fun h => ?_)
  · sizeOf_list_dec
    rw [if_pos h]
    exact ⟨rfl, rfl⟩
  · sizeOf_list_dec
    rw [if_neg h]
    exact ⟨rfl, rfl⟩
theorem takerb_spec {rs : List Rn} (g : GoodR rs) {k : Nat} {m : Mem} (hk : m[k]? = some (.fdic (dicR rs))) (r : Int) (h : Option Int) : (f_taker_behind [.ref k, .int r, oD h] m).post fun v m' => v = oD ((nx rs r h).map (·.1)) ∧ m' = m := by
  unfold f_taker_behind b_taker_behind
  sizeOf_list_dec
  have e : (dicR rs).map (fun kv => kD kv.1) = rs.map fun q => D.int q.1 := by
    unfold dicR
    rw [List.map_map]
    rfl
  rw [e]
  refine forL_on _ (fun pr rest e m' => (∀ c ∈ pr, ¬ (r ≤ c.2 ∧ h ≠ some c.1)) ∧ m' = m ∧ ∃ y, e = [some (.ref k), some (.int r), some (oD h), y]) rs ⟨by simp, rfl, none, rfl⟩ ?_ ?_
  · rintro e m' ⟨h1, rfl, y, rfl⟩
    refine ⟨trivial, ?_⟩
    sizeOf_list_dec
    have : nx rs r h = none := by
      refine List.find?_eq_none.mpr fun c hc => ?_
      have := h1 c hc
      simp only [Bool.and_eq_true, decide_eq_true_eq, Bool.not_eq_true', decide_eq_false_iff_not]
      exact this
    rw [this]
    exact ⟨rfl, rfl⟩
  · rintro pr a rest e m' e1 ⟨h1, rfl, y, rfl⟩
    refine ⟨trivial, ?_⟩
    have ha : a ∈ rs := by rw [e1]; simp
    have hg := getK_map g.nd ha
    have hg' : getK (dicR rs) (.inl a.1) = some (.int a.2) := hg
    sizeOf_list_dec
    refine iteD (fun c1 => ?_) (fun c1 => ?_)
    · sizeOf_list_dec
      refine iteBo (fun c2 => ?_) (fun c2 => ?_)
      · sizeOf_list_dec
        have : nx rs r h = some a := nx_of e1 c1 (by simpa using c2) h1
        rw [this]
        exact ⟨rfl, rfl⟩
      · sizeOf_list_dec
        refine ⟨fun c hc => ?_, rfl, _, rfl⟩
        rcases List.mem_append.mp hc with hc | hc
        · exact h1 c hc
        · simp at hc
          subst hc
          rintro ⟨_, z⟩
          simp at c2
          exact z c2
    · sizeOf_list_dec
      refine ⟨fun c hc => ?_, rfl, _, rfl⟩
      rcases List.mem_append.mp hc with hc | hc
      · exact h1 c hc
      · simp at hc
        subst hc
        exact fun z => c1 z.1
theorem stretch_spec {rs : List Rn} (g : GoodR rs) {k : Nat} {m : Mem} (hk : m[k]? = some (.fdic (dicR rs))) {r : Int} (hr : 0 ≤ r) {a : Rn} (ha : a ∈ rs) (hra : r ≤ a.2) : (f_stretch_from [.ref k, .int r, .int a.1] m).post fun v m' => v = stD (match nx rs (r + 1) (some a.1) with | none => ⟨r, r, a.1, none⟩ | some b => ⟨r, endOf r a b, a.1, some b.1⟩) ∧ m' = m := by
  unfold f_stretch_from b_stretch_from
  have hta := g.top a ha
  sizeOf_list_dec
  refine (takerb_spec g hk (r + 1) (some a.1)).mono ?_
  rintro v m1 ⟨rfl, rfl⟩
  cases e2 : nx rs (r + 1) (some a.1) with
  | none =>
    simp only [Option.map_none, oD]
    sizeOf_list_dec
  | some b =>
    obtain ⟨b1, b2, b3⟩ := nx_some e2
    have htb := g.top b b1
    have hga : getK (dicR rs) (.inl a.1) = some (.int a.2) := getK_map g.nd ha
    have hgb : getK (dicR rs) (.inl b.1) = some (.int b.2) := getK_map g.nd b1
    simp only [Option.map_some, oD]
    sizeOf_list_dec
    refine (missed_spec ⟨hr, by omega⟩ ⟨hta.1, by omega⟩ _).mono ?_
    rintro v m2 ⟨rfl, rfl⟩
    sizeOf_list_dec
    refine (missed_spec ⟨by omega, by omega⟩ ⟨htb.1, by omega⟩ _).mono ?_
    rintro v m3 ⟨rfl, rfl⟩
    sizeOf_list_dec
noncomputable def crsOf (rs : List Rn) : List Sx := Classical.choose (crs_ex rs (al rs 0) 0 none (Nat.le_refl _))
theorem crsOf_is (rs : List Rn) : Crs rs 0 none (crsOf rs) := (Classical.choose_spec (crs_ex rs (al rs 0) 0 none (Nat.le_refl _))).1
theorem crsOf_len (rs : List Rn) : (crsOf rs).length ≤ rs.length := Nat.le_trans (Classical.choose_spec (crs_ex rs (al rs 0) 0 none (Nat.le_refl _))).2 (al_le rs 0)
theorem zip_bt (l : Lad) (s : Int) : ∀ bs : Bids, zipD (bs.map prD) (bs.map fun q => topD l s q.2) = bs.map fun q => D.tup [prD q, topD l s q.2]
  | [] => rfl
  | q :: bs => by rw [List.map_cons, List.map_cons, zipD, zip_bt l s bs]; rfl
noncomputable def hasT (l : Lad) (s : Int) (q : Int × Int) : Bool := (topO (topD l s q.2)).isSome
theorem runs_eq (l : Lad) (s : Int) : ∀ bs : Bids, (bs.filter (hasT l s)).map (fun q => ((.inl q.1 : Key), topD l s q.2)) = dicR (runs l s bs)
  | [] => rfl
  | q :: bs => by
    have ih := runs_eq l s bs
    unfold runs dicR at ih ⊢
    rw [List.filterMap_cons]
    cases ht : topO (topD l s q.2) with
    | none =>
      rw [List.filter_cons_of_neg (by simp [hasT, ht]), ih]
      rfl
    | some n =>
      rw [List.filter_cons_of_pos (by simp [hasT, ht]), List.map_cons, ih]
      have : topD l s q.2 = .int n := by
        rcases topD_is l s q.2 with e | ⟨z, e⟩
        · rw [e] at ht; cases ht
        · rw [e] at ht ⊢; cases ht; rfl
      rw [this]
      rfl
theorem topsby_spec {l : Lad} {bs : Bids} {s t : Int} (gl : GoodL l) (gb : GoodB bs) (h1 : 1 ≤ s ∧ s ≤ 1000000) (h2 : s ≤ t ∧ t ≤ 1000000) (m : Mem) : (f_tops_by_buyer [ladD l, lotD s t, bidD bs] m).post fun v m' => ∃ k, v = .ref k ∧ m.length ≤ k ∧ m'[k]? = some (.fdic (dicR (runs l s bs))) ∧ Gr m m' := by
  unfold f_tops_by_buyer b_tops_by_buyer
  have hlen := gb.len
  sizeOf_list_dec
  refine (tops_spec gl gb h1 h2 m).mono ?_
  rintro v m1 ⟨k, rfl, hk0, hk, g1⟩
  sizeOf_list_dec
  rw [zip_bt]
  refine (dc_pure (m := m1) (fun d => match d with | .tup [_, t] => !isNon t | _ => false) (fun d => match d with | .tup [.tup [.int b, _], t] => ((.inl b : Key), t) | _ => ((.inl 0 : Key), .non)) (fun m' g => g.at hk) _ [] m1 (Gr.refl _) (by simp; omega) fun d hd => ?_).mono ?_
  · obtain ⟨q, hq, rfl⟩ := List.mem_map.mp hd
    refine ⟨_, rfl, fun m' g' => ?_⟩
    sizeOf_list_dec
    refine ⟨Gr.refl _, fun _ => ?_⟩
    sizeOf_list_dec
    refine ⟨Gr.refl _, ?_⟩
    sizeOf_list_dec
    first | exact Gr.refl _ | exact ⟨rfl, Gr.refl _⟩
  · rintro ys m2 ⟨rfl, g2⟩
    sizeOf_list_dec
    rename_i k2 m3 hn
    refine ⟨k2, rfl, Nat.le_trans (g1.trans g2).len hn.ge, ?_, by array_get_dec⟩
    rw [hn.here, foldl_put]
    · rw [List.nil_append, ← runs_eq, List.filter_map, List.map_map]
      congr 2
      have : ((fun d : D => match d with | .tup [_, t] => !isNon t | _ => false) ∘ fun q : Int × Int => D.tup [prD q, topD l s q.2]) = hasT l s := by
        funext q
        simp only [Function.comp, hasT]
        rcases topD_is l s q.2 with e | ⟨z, e⟩
        · rw [e]; rfl
        · rw [e]; rfl
      rw [this]
      rfl
    · rw [List.nil_append, List.filter_map, List.map_map, List.map_map]
      have hs : (bs.map fun q => (.inl q.1 : Key)).Nodup := by
        have := gb.nd
        rw [show (bs.map fun q => (.inl q.1 : Key)) = (bs.map (·.1)).map Sum.inl by rw [List.map_map]; rfl]
        exact List.pairwise_map.mpr (this.imp fun {a b} h z => h (Sum.inl.inj z))
      exact hs.sublist ((List.filter_sublist).map _)
theorem course_spec {l : Lad} {bs : Bids} {s t : Int} (gl : GoodL l) (gb : GoodB bs) (h1 : 1 ≤ s ∧ s ≤ 1000000) (h2 : s ≤ t ∧ t ≤ 1000000) (m : Mem) : (f_course_of [ladD l, lotD s t, bidD bs] m).post fun v m' => ∃ k, v = .ref k ∧ m.length ≤ k ∧ m'[k]? = some (.lst ((crsOf (runs l s bs)).map stD)) ∧ Gr m m' := by
  unfold f_course_of b_course_of
  have gr := goodR gl gb h1.1
  sizeOf_list_dec
  refine (topsby_spec gl gb h1 h2 m).mono ?_
  rintro v m1 ⟨k, rfl, hk0, hk, g1⟩
  sizeOf_list_dec
  rename_i kc m2 hn
  have hk2 : m2[k]? = some (.fdic (dicR (runs l s bs))) := by array_mem_dec
  have hc2 := hn.here
  have g2 : Gr m m2 := by array_get_dec
  have hkc : m.length ≤ kc := Nat.le_trans g1.len hn.ge
  have hne : k ≠ kc := by
    have := hn.k
    have := lt_of_at hk
    omega
  refine (takerb_spec gr hk2 0 none).mono ?_
  rintro v m3 ⟨rfl, rfl⟩
  sizeOf_list_dec
  generalize runs l s bs = rs at *
  have hlen := crsOf_len rs
  have hl8 := gr.len
  clear hn hk g1
  refine while_inv (fun z e m' => ∃ r h dn ds y7 y8, z = ds.length ∧ 0 ≤ r ∧ Crs rs r h ds ∧ crsOf rs = dn ++ ds ∧ m'[kc]? = some (.lst (dn.map stD)) ∧ m'[k]? = some (.fdic (dicR rs)) ∧ Gr m m' ∧ e = [some (ladD l), some (lotD s t), some (bidD bs), some (.ref k), some (.ref kc), some (.int r), some (oD ((nx rs r h).map (·.1))), y7, y8]) ?_ 1000000 (crsOf rs).length _ _ (by omega) ⟨0, none, [], crsOf rs, none, none, rfl, by decide, crsOf_is rs, rfl, hc2, hk2, g2, rfl⟩
  rintro z e m' ⟨r, h, dn, ds, y7, y8, rfl, r0, hc, hd, hl, hk', g', rfl⟩
  have hdn : dn.length ≤ 8 := by
    have := congrArg List.length hd
    simp at this
    omega
  cases hc with
  | done e1 =>
    rw [e1, show oD ((none : Option Rn).map (·.1)) = D.non from rfl]
    sizeOf_list_dec
    refine ⟨kc, rfl, hkc, ?_, g'⟩
    rw [hd]
    simpa using hl
  | @last _ _ a e1 e2 =>
    obtain ⟨a1, a2, a3⟩ := nx_some e1
    rw [e1, show oD ((some a : Option Rn).map (·.1)) = D.int a.1 from rfl]
    sizeOf_list_dec
    refine ⟨0, rfl, ?_⟩
    sizeOf_list_dec
    refine (stretch_spec gr hk' r0 a1 a2).mono ?_
    rintro v m4 ⟨rfl, rfl⟩
    rw [e2]
    dsimp only
    sizeOf_list_dec
    rename_i m5 hu
    refine (takerin_spec ⟨r, r, a.1, none⟩ r _).mono ?_
    rintro v m6 ⟨rfl, rfl⟩
    rw [if_pos (by simp)]
    sizeOf_list_dec
    refine (takerb_spec gr (by array_mem_dec) (r + 1) (some a.1)).mono ?_
    rintro v m7 ⟨rfl, rfl⟩
    sizeOf_list_dec
    refine ⟨r + 1, some a.1, dn ++ [⟨r, r, a.1, none⟩], [], _, _, rfl, by omega, .done e2, by rw [hd]; simp, ?_, by array_mem_dec, by array_get_dec, rfl⟩
    rw [hu.here, List.map_append]
    rfl
  | @more _ _ a b cs e1 e2 hx =>
    obtain ⟨a1, a2, a3⟩ := nx_some e1
    obtain ⟨b1, b2, b3⟩ := nx_some e2
    obtain ⟨f1, f2, f3⟩ := end_facts a2 b2
    rw [e1, show oD ((some a : Option Rn).map (·.1)) = D.int a.1 from rfl]
    sizeOf_list_dec
    refine ⟨cs.length, rfl, ?_⟩
    sizeOf_list_dec
    refine (stretch_spec gr hk' r0 a1 a2).mono ?_
    rintro v m4 ⟨rfl, rfl⟩
    rw [e2]
    dsimp only
    sizeOf_list_dec
    rename_i m5 hu
    refine (takerin_spec ⟨r, endOf r a b, a.1, some b.1⟩ (endOf r a b) _).mono ?_
    rintro v m6 ⟨rfl, rfl⟩
    have ht : (if (endOf r a b - r) % 2 = 0 then D.int a.1 else oD (some b.1)) = oD (some (turnOf r (endOf r a b) a.1 b.1)) := by
      unfold turnOf
      split <;> rfl
    simp only [ht]
    sizeOf_list_dec
    refine (takerb_spec gr (by array_mem_dec) (endOf r a b + 1) (some (turnOf r (endOf r a b) a.1 b.1))).mono ?_
    rintro v m7 ⟨rfl, rfl⟩
    sizeOf_list_dec
    refine ⟨endOf r a b + 1, some (turnOf r (endOf r a b) a.1 b.1), dn ++ [⟨r, endOf r a b, a.1, some b.1⟩], cs, _, _, rfl, by omega, hx, by rw [hd]; simp, ?_, by array_mem_dec, by array_get_dec, rfl⟩
    rw [hu.here, List.map_append]
    rfl
/-- what hammer_of tells -/
noncomputable def hamD (ts : List Int) (P : Int → Int) (t : Int) : D := match chainOf ts with
  | [] => .tup [.str "in", .non]
  | p :: L => if P p.1 < t then .tup [.str "in", .int (P p.1)] else .tup [.str "sold", .int p.2, .int (P p.1), match L with | [] => .non | q :: _ => prD (q.2, P q.1)]
/-- who runs, as the law lists them -/
theorem topD_O (l : Lad) (s b : Int) : (topO (topD l s b) = none ∧ topD l s b = .non) ∨ ∃ n : Int, topO (topD l s b) = some n ∧ topD l s b = .int n := by
  rcases topD_is l s b with e | ⟨z, e⟩
  · exact .inl ⟨by rw [e]; rfl, e⟩
  · exact .inr ⟨z, by rw [e]; rfl, e⟩
theorem runs_list (l : Lad) (s : Int) : ∀ bs : Bids, (bs.filter (hasT l s)).map (fun q => D.tup [.int q.1, topD l s q.2]) = (runs l s bs).map prD
  | [] => rfl
  | q :: bs => by
    have ih := runs_list l s bs
    unfold runs at ih ⊢
    rw [List.filterMap_cons]
    rcases topD_O l s q.2 with ⟨e1, e2⟩ | ⟨n, e1, e2⟩
    · rw [List.filter_cons_of_neg (by simp [hasT, e1]), ih, e1]
      rfl
    · rw [List.filter_cons_of_pos (by simp [hasT, e1]), List.map_cons, ih, e1, e2]
      rfl
theorem runners_spec {l : Lad} {bs : Bids} {s t : Int} (gl : GoodL l) (gb : GoodB bs) (h1 : 1 ≤ s ∧ s ≤ 1000000) (m : Mem) : (f_law_runners [ladD l, lotD s t, bidD bs] m).post fun v m' => ∃ k, v = .ref k ∧ m.length ≤ k ∧ m'[k]? = some (.lst ((runs l s bs).map prD)) ∧ Gr m m' := by
  unfold f_law_runners b_law_runners
  have hlen := gb.len
  sizeOf_list_dec
  refine (lc_map prD (fun q => D.tup [.int q.1, topD l s q.2]) bs (fun _ _ => trivial) (by omega) fun q hq => ?_).mono ?_
  · refine ⟨_, rfl, fun m2 g2 => ?_⟩
    sizeOf_list_dec
    refine (lawtopspec gl (by omega) (gb.bnd q hq).2 m2).mono ?_
    rintro v m3 ⟨rfl, rfl⟩
    sizeOf_list_dec
    exact Gr.refl _
  · rintro ys m2 ⟨rfl, g2⟩
    sizeOf_list_dec
    rename_i k3 m3 hn3
    refine (lc_on (fun q : Int × Int => D.tup [.int q.1, topD l s q.2]) (hasT l s) (fun q => D.tup [.int q.1, topD l s q.2]) bs (fun m' g => g.at hn3.here) (by omega) fun q hq => ?_).mono ?_
    · refine ⟨_, rfl, fun m4 g4 => ?_⟩
      sizeOf_list_dec
      refine ⟨?_, Gr.refl _, fun _ => ?_⟩
      · unfold hasT
        rcases topD_O l s q.2 with ⟨e1, e2⟩ | ⟨n, e1, e2⟩
        · rw [e1, e2]; rfl
        · rw [e1, e2]; rfl
      · sizeOf_list_dec
        exact Gr.refl _
    · rintro ys m4 ⟨rfl, g4⟩
      sizeOf_list_dec
      rename_i k5 m5 hn5
      have g5 : Gr m m4 := by array_get_dec
      exact ⟨k5, rfl, Nat.le_trans g5.len hn5.ge, by rw [hn5.here, runs_list], by array_get_dec⟩
def prO : Option Rn → D
  | none => .non
  | some q => prD q
theorem find_filter {α : Type} (p : α → Bool) : ∀ l : List α, l.find? p = (l.filter p).head?
  | [] => rfl
  | a :: l => by
    by_cases h : p a = true
    · rw [List.find?_cons_of_pos h, List.filter_cons_of_pos h]
      rfl
    · rw [List.find?_cons_of_neg h, List.filter_cons_of_neg h]
      exact find_filter p l
theorem next_spec {rs : List Rn} (hl : rs.length ≤ 8) {k : Nat} {m : Mem} (hk : m[k]? = some (.lst (rs.map prD))) (r : Int) (h : Option Int) : (f_law_next [.ref k, .int r, oD h] m).post fun v m' => v = prO (nx rs r h) ∧ Gr m m' := by
  unfold f_law_next b_law_next
  sizeOf_list_dec
  refine (lc_on prD (fun q => decide (r ≤ q.2) && !decide (h = some q.1)) prD rs (fun m' g => g.at hk) (by omega) fun q hq => ?_).mono ?_
  · refine ⟨_, rfl, fun m2 g2 => ?_⟩
    sizeOf_list_dec
    refine iteD (fun c => ?_) (fun c => ?_)
    · sizeOf_list_dec
      refine ⟨by simp [c], Gr.refl _, fun _ => ?_⟩
      sizeOf_list_dec
      exact Gr.refl _
    · refine ⟨by simp [c], Gr.refl _, fun z => by simp at z⟩
  · rintro ys m2 ⟨rfl, g2⟩
    sizeOf_list_dec
    rename_i k3 m3 hn3 k4 m4 hn4
    refine p_neEP (ps := rs.filter fun q => decide (r ≤ q.2) && !decide (h = some q.1)) (hn4.gr.at hn3.here) hn4.here ?_
    have hg : Gr m m4 := by array_get_dec
    have e : nx rs r h = (rs.filter fun q => decide (r ≤ q.2) && !decide (h = some q.1)).head? := find_filter _ rs
    rw [e]
    generalize (rs.filter fun q => decide (r ≤ q.2) && !decide (h = some q.1)) = fs at hn3
    cases fs with
    | nil =>
      sizeOf_list_dec
      first | exact ⟨rfl, hg⟩ | exact hg
    | cons q fs =>
      have h3 : m4[k3]? = some (.lst (prD q :: fs.map prD)) := hn4.gr.at hn3.here
      sizeOf_list_dec
      first | exact ⟨rfl, hg⟩ | exact hg

theorem same_tup {j : Nat} {xs : List D} {m : Mem} (hl : xs.length ≤ 900) (h : ∀ x ∈ xs, ∀ m', Gr m m' → (f_law_same j [x, x] m').post fun v m2 => v = .bl true ∧ Gr m' m2) : (f_law_same (j + 1) [.tup xs, .tup xs] m).post fun v m' => v = .bl true ∧ Gr m m' := by
  show (runM 4 (b_law_same (f_law_same j)) _ m).post _
  unfold b_law_same
  sizeOf_list_dec
  refine iteNBq (fun h => absurd rfl h) (fun _ => ?_)
  sizeOf_list_dec
  rw [zip_self]
  refine (lc_map (fun x => D.tup [x, x]) (fun _ => D.bl true) xs (fun _ _ => trivial) (by omega) fun x hx => ?_).mono ?_
  · refine ⟨_, rfl, fun m2 g2 => ?_⟩
    sizeOf_list_dec
    exact h x hx m2 g2
  · rintro ys m2 ⟨rfl, g2⟩
    sizeOf_list_dec
    rename_i k3 m3 hn
    refine all_true hn.here (fun y hy => ?_) ?_
    · obtain ⟨_, _, e⟩ := List.mem_map.mp hy
      exact e.symm
    · exact ⟨rfl, by array_get_dec⟩
theorem same_o (j : Nat) (o : Option Int) (m : Mem) : (f_law_same (j + 1) [oD o, oD o] m).post fun v m' => v = .bl true ∧ m' = m := by
  cases o with
  | none => exact same_non j m
  | some a => exact same_int j a m
theorem same_str (j : Nat) (x : Str) (m : Mem) : (f_law_same (j + 1) [.str x, .str x] m).post fun v m' => v = .bl true ∧ m' = m := by
  show (runM 4 (b_law_same (f_law_same j)) _ m).post _
  unfold b_law_same
  sizeOf_list_dec
  try simp
theorem same_pr (j : Nat) (p : Int × Int) (m : Mem) : (f_law_same (j + 2) [prD p, prD p] m).post fun v m' => v = .bl true ∧ Gr m m' := by
  refine same_tup (by simp) fun x hx m' g => ?_
  simp at hx
  rcases hx with rfl | rfl
  · exact (same_int j _ m').mono fun v m2 ⟨a, b⟩ => ⟨a, b ▸ Gr.refl _⟩
  · exact (same_int j _ m').mono fun v m2 ⟨a, b⟩ => ⟨a, b ▸ Gr.refl _⟩
theorem same_st (j : Nat) (c : Sx) (m : Mem) : (f_law_same (j + 2) [stD c, stD c] m).post fun v m' => v = .bl true ∧ Gr m m' := by
  refine same_tup (by simp) fun x hx m' g => ?_
  simp at hx
  rcases hx with rfl | rfl | rfl | rfl
  · exact (same_int j _ m').mono fun v m2 ⟨a, b⟩ => ⟨a, b ▸ Gr.refl _⟩
  · exact (same_int j _ m').mono fun v m2 ⟨a, b⟩ => ⟨a, b ▸ Gr.refl _⟩
  · exact (same_int j _ m').mono fun v m2 ⟨a, b⟩ => ⟨a, b ▸ Gr.refl _⟩
  · exact (same_o j _ m').mono fun v m2 ⟨a, b⟩ => ⟨a, b ▸ Gr.refl _⟩
theorem same_ham (j : Nat) (ts : List Int) (P : Int → Int) (t : Int) (m : Mem) : (f_law_same (j + 3) [hamD ts P t, hamD ts P t] m).post fun v m' => v = .bl true ∧ Gr m m' := by
  unfold hamD
  cases chainOf ts with
  | nil =>
    refine same_tup (by simp) fun x hx m' g => ?_
    simp at hx
    rcases hx with rfl | rfl
    · exact (same_str (j + 1) _ m').mono fun v m2 ⟨a, b⟩ => ⟨a, b ▸ Gr.refl _⟩
    · exact (same_non (j + 1) m').mono fun v m2 ⟨a, b⟩ => ⟨a, b ▸ Gr.refl _⟩
  | cons p L =>
    dsimp only
    split
    · refine same_tup (by simp) fun x hx m' g => ?_
      simp at hx
      rcases hx with rfl | rfl
      · exact (same_str (j + 1) _ m').mono fun v m2 ⟨a, b⟩ => ⟨a, b ▸ Gr.refl _⟩
      · exact (same_int (j + 1) _ m').mono fun v m2 ⟨a, b⟩ => ⟨a, b ▸ Gr.refl _⟩
    · refine same_tup (by simp) fun x hx m' g => ?_
      simp at hx
      rcases hx with rfl | rfl | rfl | rfl
      · exact (same_str (j + 1) _ m').mono fun v m2 ⟨a, b⟩ => ⟨a, b ▸ Gr.refl _⟩
      · exact (same_int (j + 1) _ m').mono fun v m2 ⟨a, b⟩ => ⟨a, b ▸ Gr.refl _⟩
      · exact (same_int (j + 1) _ m').mono fun v m2 ⟨a, b⟩ => ⟨a, b ▸ Gr.refl _⟩
      · cases L with
        | nil => exact (same_non (j + 1) m').mono fun v m2 ⟨a, b⟩ => ⟨a, b ▸ Gr.refl _⟩
        | cons q L => exact same_pr j (q.2, P q.1) m'
theorem pickN {n : Nat} {m m' : Mem} {k : Nat} {xs : List D} (hp : Pen n m) (hn : New m m' k (.lst xs)) (h0 : 0 < xs.length) (hl : xs.length ≤ 1000) : (f_law_pick [.ref n, .ref k] m').post fun v m2 => v ∈ xs ∧ Pd n m m2 := by
  rw [hn.e, hn.k]
  exact pickL hp h0 hl
theorem reachN {n : Nat} {m m' : Mem} {k : Nat} {xs : List D} {lo hi : Int} (hp : Pen n m) (hn : New m m' k (.lst xs)) (h0 : 0 < xs.length) (hl : xs.length ≤ 1000) (hx : ∀ x ∈ xs, ∃ i : Int, x = .int i ∧ lo ≤ i ∧ i ≤ hi) : (f_law_pick [.ref n, .ref k] m').post fun v m2 => ∃ i : Int, v = .int i ∧ (lo ≤ i ∧ i ≤ hi) ∧ Pd n m m2 :=
  (pickN hp hn h0 hl).mono fun v m2 ⟨hv, p⟩ => by
    obtain ⟨i, e, h1, h2⟩ := hx v hv
    exact ⟨i, e, ⟨h1, h2⟩, p⟩

theorem end_rows {r : Int} {a b : Rn} {p w : Int} (ha : r ≤ a.2) (hb : r + 1 ≤ b.2) (hp : p = if (b.2 - r - 1) / 2 < (a.2 - r) / 2 then (b.2 - r - 1) / 2 else (a.2 - r) / 2) (hw : w = if r + 2 * p + 1 < a.2 then 1 else 0) : r + 2 * p + 1 + w = endOf r a b ∧ ((w = 0 ∧ turnOf r (endOf r a b) a.1 b.1 = b.1) ∨ (w = 1 ∧ turnOf r (endOf r a b) a.1 b.1 = a.1)) := by
  have h1 : r + 2 * p + 1 + w = endOf r a b := by
    unfold endOf missed
    split at hp <;> split at hw <;> split <;> omega
  refine ⟨h1, ?_⟩
  rw [← h1]
  unfold turnOf
  split at hw
  · right
    refine ⟨hw, ?_⟩
    rw [if_pos (by omega)]
  · left
    refine ⟨hw, ?_⟩
    rw [if_neg (by omega)]
theorem rows_spec {rs : List Rn} (g : GoodR rs) {k : Nat} {m : Mem} (hk : m[k]? = some (.lst (rs.map prD))) : (f_law_rows [.ref k] m).post fun v m' => ∃ k', v = .ref k' ∧ m.length ≤ k' ∧ m'[k']? = some (.lst ((crsOf rs).map stD)) ∧ Gr m m' := by
  unfold f_law_rows b_law_rows
  sizeOf_list_dec
  rename_i k1 m1 hn
  have hk1 : m1[k]? = some (.lst (rs.map prD)) := by array_mem_dec
  have hne : k ≠ k1 := by
    have := hn.k
    have := lt_of_at hk
    omega
  refine (next_spec g.len hk1 0 none).mono ?_
  rintro v m2 ⟨rfl, g2⟩
  sizeOf_list_dec
  have h10 := hn.ge
  have hl2 : m2[k1]? = some (.lst (([] : List Sx).map stD)) := g2.at hn.here
  have hk2 := g2.at hk1
  have gm : Gr m m2 := hn.gr.trans g2
  clear g2 hn hk1
  have hlen := crsOf_len rs
  have hl8 := g.len
  refine while_inv (fun z e m' => ∃ r h dn ds y4 y5 y6 y7, Crs rs r h ds ∧ 0 ≤ r ∧ crsOf rs = dn ++ ds ∧ z = ds.length ∧ m'[k1]? = some (.lst (dn.map stD)) ∧ m'[k]? = some (.lst (rs.map prD)) ∧ Gr m m' ∧ e = [some (.ref k), some (.ref k1), some (.int r), some (prO (nx rs r h)), y4, y5, y6, y7]) ?_ 1000000 (crsOf rs).length _ _ (by omega) ⟨0, none, [], crsOf rs, none, none, none, none, crsOf_is rs, by decide, rfl, rfl, hl2, hk2, gm, rfl⟩
  rintro z e m' ⟨r, h, dn, ds, y4, y5, y6, y7, hc, r0, e', rfl, hl', hk', g', rfl⟩
  have hdn : dn.length ≤ 8 := by
    have := congrArg List.length e'
    simp at this
    omega
  cases hc with
  | done e1 =>
    rw [e1, show prO none = D.non from rfl]
    sizeOf_list_dec
    refine ⟨k1, rfl, h10, ?_, g'⟩
    rw [e']
    simpa using hl'
  | @last _ _ a e1 e2 =>
    rw [e1, show prO (some a) = prD a from rfl]
    sizeOf_list_dec
    refine ⟨0, rfl, ?_⟩
    sizeOf_list_dec
    refine (next_spec g.len hk' (r + 1) (some a.1)).mono ?_
    rintro v m3 ⟨rfl, g3⟩
    rw [e2, show prO none = D.non from rfl]
    sizeOf_list_dec
    rename_i k4 m4 hn4 k5 m5 hn5
    refine ⟨k5, rfl, Nat.le_trans ((g'.trans g3).trans hn4.gr).len hn5.ge, ?_, by array_get_dec⟩
    rw [hn5.here, e', List.map_append]
    rfl
  | @more _ _ a b cs e1 e2 hx =>
    obtain ⟨a1, a2, a3⟩ := nx_some e1
    obtain ⟨b1, b2, b3⟩ := nx_some e2
    have hta := g.top a a1
    have htb := g.top b b1
    rw [e1, show prO (some a) = prD a from rfl]
    sizeOf_list_dec
    refine ⟨cs.length, rfl, ?_⟩
    sizeOf_list_dec
    refine (next_spec g.len hk' (r + 1) (some a.1)).mono ?_
    rintro v m3 ⟨rfl, g3⟩
    rw [e2, show prO (some b) = prD b from rfl]
    sizeOf_list_dec
    rename_i m4 hu k5 m5 hn5
    generalize hp : (if (b.2 - r - 1) / 2 < (a.2 - r) / 2 then (b.2 - r - 1) / 2 else (a.2 - r) / 2) = p at hu ⊢
    generalize hw : (if decide (r + 2 * p + 1 < a.2) = true then (1 : Int) else 0) = w at hu ⊢
    obtain ⟨w1, w2⟩ := end_rows (w := w) a2 b2 hp.symm (by rw [← hw]; simp)
    have hat : atI [D.int b.1, D.int a.1] w = some (.int (turnOf r (endOf r a b) a.1 b.1)) := by
      rcases w2 with ⟨rfl, e⟩ | ⟨rfl, e⟩
      · rw [e]; exact atI_0 _ _
      · rw [e]; exact atI_1 _ _ _
    rw [w1] at hu ⊢
    have hu' : m4[k1]? = some (.lst ((dn ++ [(⟨r, endOf r a b, a.1, some b.1⟩ : Sx)]).map stD)) := by
      rw [hu.here, List.map_append]
      rfl
    have hk4 : m4[k]? = some (.lst (rs.map prD)) := hu.other hne (g3.at hk')
    sizeOf_list_dec
    refine (next_spec g.len (hn5.gr.at hk4) (endOf r a b + 1) (some (turnOf r (endOf r a b) a.1 b.1))).mono ?_
    rintro v m6 ⟨rfl, g6⟩
    sizeOf_list_dec
    obtain ⟨f1, f2, f3⟩ := end_facts a2 b2
    exact ⟨endOf r a b + 1, some (turnOf r (endOf r a b) a.1 b.1), dn ++ [⟨r, endOf r a b, a.1, some b.1⟩], cs, _, _, _, _, hx, by omega, by rw [e']; simp, rfl, g6.at (hn5.gr.at hu'), g6.at (hn5.gr.at hk4), ((hu.gr (g'.trans g3) h10).trans hn5.gr).trans g6, rfl⟩

theorem num8 (x : F8) (m : Mem) : (mOrT (mOp dIsN (mVar 2) (mC .non)) (mCall 1 f_is_number (mCons (mVar 2) mNil)) [y0, y1, some (fD x)] m).post fun v m' => v = .bl (numF x) ∧ Gr m m' := by
  cases x with
  | n =>
    unfold fD
    sizeOf_list_dec
    exact Gr.refl _
  | i a =>
    unfold fD
    sizeOf_list_dec
    refine (number_spec a m).mono ?_
    rintro v m' ⟨rfl, rfl⟩
    exact ⟨rfl, Gr.refl _⟩
  | b a =>
    unfold fD f_is_number b_is_number
    sizeOf_list_dec
    exact Gr.refl _
  | s =>
    unfold fD f_is_number b_is_number
    sizeOf_list_dec
    exact Gr.refl _
theorem isstretch8 {n : Nat} {m : Mem} {r : R8} {c : Sx} (h : okR8 n m r) (hb : bdR r) : (f_is_stretch [rD r, stD c] m).post fun v m' => v = .bl (decide (rP r = stP c)) ∧ Gr m m' := by
  unfold f_is_stretch b_is_stretch
  have er := eqv_row r c
  sizeOf_list_dec
  refine p_eqR h ?_
  sizeOf_list_dec
  refine iteBo (fun e => ?_) (fun e => ?_)
  · cases r with
    | f x => cases x <;> simp [rP, fP, stP, PyData.eqv] at e
    | l k xs => simp [rP, stP, PyData.eqv] at e
    | t xs =>
      unfold rD
      have hl := hb.2
      sizeOf_list_dec
      refine (lc_map fD (fun x => D.bl (numF x)) xs (fun _ _ => trivial) (by omega) fun x hx => ⟨_, rfl, fun m' g => ?_⟩).mono ?_
      · exact num8 x m'
      rintro ys m' ⟨rfl, g⟩
      sizeOf_list_dec
      rename_i k2 m2 n2
      have h2 := n2.here
      rw [show xs.map (fun x => D.bl (numF x)) = (xs.map numF).map D.bl by rw [List.map_map]; rfl] at h2
      refine (q_allR h2).mpr ⟨?_, g.trans n2.gr⟩
      congr 1
      rw [Bool.eq_iff_iff, decide_eq_true_eq, ← er]
      simp only [List.all_map, List.all_eq_true, Function.comp, id]
      constructor
      · intro z
        exact ⟨e, fun xs' ex x hx => by cases ex; exact z x hx⟩
      · rintro ⟨_, z⟩ x hx
        exact z xs rfl x hx
  · refine ⟨?_, Gr.refl _⟩
    congr 1
    rw [e]
    symm
    rw [decide_eq_false_iff_not, ← er]
    rintro ⟨z, _⟩
    rw [e] at z
    cases z
theorem zip_rs : ∀ (rs : List R8) (cs : List Sx), zipD (rs.map rD) (cs.map stD) = (rs.zip cs).map fun p => D.tup [rD p.1, stD p.2]
  | [], _ => by simp [zipD]
  | _ :: _, [] => by simp [zipD]
  | r :: rs, c :: cs => by
    have := zip_rs rs cs
    simp only [List.map_cons, zipD, List.zip_cons_cons, this]
theorem all_rs : ∀ (rs : List R8) (cs : List Sx), rs.length = cs.length → ((rs.zip cs).map fun p => decide (rP p.1 = stP p.2)).all id = decide (rs.map rP = cs.map stP)
  | [], [], _ => by simp
  | [], _ :: _, h => by simp at h
  | _ :: _, [], h => by simp at h
  | r :: rs, c :: cs, h => by
    have ih := all_rs rs cs (by simpa using h)
    simp only [List.zip_cons_cons, List.map_cons, List.all_cons, ih, id]
    rw [Bool.eq_iff_iff]
    simp
theorem iscourse8 {l : Lad} {bs : Bids} {s t : Int} (gl : GoodL l) (gb : GoodB bs) (h1 : 1 ≤ s ∧ s ≤ 1000000) (h2 : s ≤ t ∧ t ≤ 1000000) {n : Nat} {m : Mem} {k : Nat} {rs : List R8} (L : L8 n m k rs) : (f_is_course [ladD l, lotD s t, bidD bs, .ref k] m).post fun v m' => v = .bl (decide (rs.map rP = (crsOf (runs l s bs)).map stP)) ∧ Gr m m' := by
  unfold f_is_course b_is_course
  sizeOf_list_dec
  refine (course_spec gl gb h1 h2 m).mono ?_
  rintro v m1 ⟨k1, rfl, hk1, hm1, g1⟩
  have L1 := L.kept (g1.kept n)
  have hm0 := L1.at_
  have hlen := L.len
  sizeOf_list_dec
  rw [List.length_map, List.length_map]
  refine iteBo (fun e => ?_) (fun e => ?_)
  · sizeOf_list_dec
    refine ⟨?_, g1⟩
    congr 1
    symm
    rw [decide_eq_false_iff_not]
    intro z
    have := congrArg List.length z
    simp at this e
    omega
  · have hl : rs.length = (crsOf (runs l s bs)).length := by
      simp at e
      omega
    sizeOf_list_dec
    rw [zip_rs]
    refine (lc_map (fun p : R8 × Sx => D.tup [rD p.1, stD p.2]) (fun p => D.bl (decide (rP p.1 = stP p.2))) _ (fun m' g => ⟨g.at hm0, g.at hm1⟩) (by rw [List.length_zip]; omega) fun p hp => ⟨_, rfl, fun m2 g2 => ?_⟩).mono ?_
    · have hr := (List.of_mem_zip hp).1
      sizeOf_list_dec
      exact isstretch8 (n := n) (okR8.kept (g2.kept n) (L1.ok p.1 hr)) (L1.bd p.1 hr)
    rintro ys m2 ⟨rfl, g2⟩
    sizeOf_list_dec
    rename_i k3 m3 n3
    have h3 := n3.here
    rw [show (rs.zip (crsOf (runs l s bs))).map (fun p => D.bl (decide (rP p.1 = stP p.2))) = ((rs.zip (crsOf (runs l s bs))).map fun p => decide (rP p.1 = stP p.2)).map D.bl by rw [List.map_map]; rfl] at h3
    refine (q_allR h3).mpr ⟨?_, (g1.trans g2).trans n3.gr⟩
    rw [all_rs _ _ hl]
theorem nocourse8 {l : Lad} {bs : Bids} {s t : Int} (gl : GoodL l) (gb : GoodB bs) (h1 : 1 ≤ s ∧ s ≤ 1000000) (h2 : s ≤ t ∧ t ≤ 1000000) {n : Nat} {m : Mem} {d : D} (h : notL n m d) : (f_is_course [ladD l, lotD s t, bidD bs, d] m).post fun v m' => v = .bl false ∧ Gr m m' := by
  unfold f_is_course b_is_course
  sizeOf_list_dec
  refine (course_spec gl gb h1 h2 m).mono ?_
  rintro v m1 ⟨k1, rfl, hk1, hm1, g1⟩
  sizeOf_list_dec
  refine p_notL (h.kept (g1.kept n)) ?_
  sizeOf_list_dec
  exact g1

theorem f8_of {d : D} (h : d ∈ [D.int 0, D.int 1, D.bl true, D.bl false, D.non, D.str (Str.ofString "0"), D.int (10 ^ 39), D.int 7, D.int 8]) : ∃ x : F8, d = fD x ∧ bdF x := by
  simp only [List.mem_cons, List.not_mem_nil, or_false] at h
  rcases h with rfl | rfl | rfl | rfl | rfl | rfl | rfl | rfl | rfl
  · exact ⟨.i 0, rfl, ⟨by omega, by omega⟩⟩
  · exact ⟨.i 1, rfl, ⟨by omega, by omega⟩⟩
  · exact ⟨.b true, rfl, trivial⟩
  · exact ⟨.b false, rfl, trivial⟩
  · exact ⟨.n, rfl, trivial⟩
  · exact ⟨.s, rfl, trivial⟩
  · exact ⟨.i (10 ^ 39), rfl, ⟨by omega, by omega⟩⟩
  · exact ⟨.i 7, rfl, ⟨by omega, by omega⟩⟩
  · exact ⟨.i 8, rfl, ⟨by omega, by omega⟩⟩
structure BdC (c : Sx) : Prop where
  a0 : 0 ≤ c.a
  az : c.a ≤ c.z
  z1 : c.z ≤ 1000001
  on : 0 ≤ c.one ∧ c.one ≤ 7
  ot : ∀ o, c.oth = some o → 0 ≤ o ∧ o ≤ 7
theorem bd_oF {o : Option Int} (h : ∀ x, o = some x → 0 ≤ x ∧ x ≤ 7) : bdF (oF o) := by
  cases o with
  | none => trivial
  | some x =>
    have := h x rfl
    exact ⟨by omega, by omega⟩
theorem bd_st {c : Sx} (h : BdC c) : bdR (stR c) := by
  have h1 := h.a0
  have h2 := h.az
  have h3 := h.z1
  have h4 := h.on
  refine ⟨fun x hx => ?_, by simp⟩
  simp only [List.mem_cons, List.not_mem_nil, or_false] at hx
  rcases hx with rfl | rfl | rfl | rfl
  · exact ⟨by omega, by omega⟩
  · exact ⟨by omega, by omega⟩
  · exact ⟨by omega, by omega⟩
  · exact bd_oF h.ot
def isT : R8 → Prop
  | .t _ => True
  | _ => False
theorem okT {n : Nat} {m : Mem} {r : R8} (h : isT r) : okR8 n m r := by
  cases r with
  | t xs => trivial
  | _ => exact h.elim
theorem parted8 {n : Nat} {m : Mem} {c : Sx} (hp : Pen n m) (h : BdC c) : (f_law_parted [.ref n, stD c] m).post fun v m' => ∃ (k : Nat) (rs : List R8), v = .ref k ∧ k ≠ n ∧ m'[k]? = some (.lst (rs.map rD)) ∧ (∀ r ∈ rs, isT r ∧ bdR r) ∧ rs.length ≤ 2 ∧ Pd n m m' := by
  unfold f_law_parted b_law_parted
  have h1 := h.a0
  have h2 := h.az
  have h3 := h.z1
  have h4 := h.on
  have hlt := pen_lt hp
  sizeOf_list_dec
  refine iteD (fun e => ?_) (fun e => ?_)
  · sizeOf_list_dec
    rename_i k1 m1 n1
    refine ⟨k1, [stR c, stR c], rfl, by have := n1.k; omega, ?_, ?_, by simp, Pd.gr hp n1.gr⟩
    · rw [n1.here]
      simp only [List.map_cons, List.map_nil, stR_D]
    · intro r hr
      simp at hr
      subst hr
      exact ⟨trivial, bd_st h⟩
  · sizeOf_list_dec
    refine (drawn hp (by omega) (by omega)).mono ?_
    rintro v m1 ⟨d, rfl, d0, d1, p1⟩
    have hlt1 := pen_lt p1.pen
    sizeOf_list_dec
    generalize hA : c.a + 2 + d * 2 = A
    have hA1 : c.a + 2 ≤ A ∧ A ≤ c.z := by omega
    have fin : ∀ (o : Option Int), (∀ x, o = some x → 0 ≤ x ∧ x ≤ 7) → ∀ k1 m2, New m1 m2 k1 (.lst [.tup [.int c.a, .int (A - 1), .int c.one, oD c.oth], .tup [.int A, .int c.z, .int c.one, oD o]]) → ∃ (k : Nat) (rs : List R8), (D.ref k1 : D) = .ref k ∧ k ≠ n ∧ m2[k]? = some (.lst (rs.map rD)) ∧ (∀ r ∈ rs, isT r ∧ bdR r) ∧ rs.length ≤ 2 ∧ Pd n m m2 := by
      intro o ho k1 m2 n1
      refine ⟨k1, [.t [.i c.a, .i (A - 1), .i c.one, oF c.oth], .t [.i A, .i c.z, .i c.one, oF o]], rfl, by have := n1.k; omega, ?_, ?_, by simp, p1.trans (Pd.gr p1.pen n1.gr)⟩
      · rw [n1.here]
        simp only [List.map_cons, List.map_nil, rD, fD_o]
        rfl
      · intro r hr
        simp only [List.mem_cons, List.not_mem_nil, or_false] at hr
        rcases hr with rfl | rfl
        · refine ⟨trivial, fun x hx => ?_, by simp⟩
          simp only [List.mem_cons, List.not_mem_nil, or_false] at hx
          rcases hx with rfl | rfl | rfl | rfl
          · exact ⟨by omega, by omega⟩
          · exact ⟨by omega, by omega⟩
          · exact ⟨by omega, by omega⟩
          · exact bd_oF h.ot
        · refine ⟨trivial, fun x hx => ?_, by simp⟩
          simp only [List.mem_cons, List.not_mem_nil, or_false] at hx
          rcases hx with rfl | rfl | rfl | rfl
          · exact ⟨by omega, by omega⟩
          · exact ⟨by omega, by omega⟩
          · exact ⟨by omega, by omega⟩
          · exact bd_oF ho
    refine iteD (fun e2 => ?_) (fun e2 => ?_)
    · sizeOf_list_dec
      rename_i k2 m2 n2
      exact fin c.oth h.ot k2 m2 n2
    · sizeOf_list_dec
      rename_i k2 m2 n2
      exact fin none (fun _ z => nomatch z) k2 m2 n2

theorem sh_flat {n : Nat} (m : Mem) (x : F8) (h : bdF x) : ∃ c t, Sh n m (fD x) (fP x).shown ∧ cdS (fP x).shown = c :: t ∧ c ≠ 91 := by
  obtain ⟨c, t, h1, h2⟩ := head_cls (n := 0) (y := fP x) (jn_f x)
  refine ⟨c, t, ?_, h1, ?_⟩
  · intro m' _
    cases x with
    | n =>
      show R.ok _ _ = _
      rw [fP, PyData.shown_none]
    | b a =>
      show R.ok _ _ = _
      rw [fP, PyData.shown_bool]
    | i a =>
      have hr := (rp_int h).1
      rw [fP, PyData.shown_int]
      have hl : a.natAbs.log2 < 1920 := by simpa [PyData.showable] using hr
      show (if a.natAbs.log2 < 1920 then _ else _) = _
      rw [if_pos hl]
    | s =>
      rw [fP, PyData.shown_str]
      have hl : (reprText (Str.ofString "0")).length ≤ 1000000 := by decide +kernel
      show (if (reprText (Str.ofString "0")).length ≤ 1000000 then _ else _) = _
      rw [if_pos hl]
  · rintro rfl
    cases x with
    | b a => cases a <;> simp [fP, kndP, clsC, numC] at h2
    | n => simp [fP, kndP, clsC, numC] at h2
    | i a => simp [fP, kndP, clsC, numC] at h2
    | s => simp [fP, kndP, clsC, numC] at h2
theorem nl_flat {n : Nat} (m : Mem) (x : F8) (h : bdF x) : NL8 n m (fD x) := by
  obtain ⟨c, t, h1, h2, h3⟩ := sh_flat (n := n) m x h
  refine ⟨?_, _, c, t, h1, h2, h3⟩
  cases x with
  | n => exact .inl rfl
  | b a => exact .inr (.inl ⟨a, rfl⟩)
  | i a => exact .inr (.inr (.inl ⟨a, rfl⟩))
  | s => exact .inr (.inr (.inr (.inl ⟨_, rfl⟩)))
theorem nl_tup {n : Nat} {m : Mem} {ds : List D} {ys : List PyData} (hy : ∀ m', Kept n m m' → toPy m' 12 (.tup ds) = some (.tuple ys)) (hr : Rp 60 1000000 (.tuple ys)) : NL8 n m (.tup ds) := by
  refine ⟨.inr (.inr (.inr (.inr (.inl ⟨ds, rfl⟩)))), _, 40, _, sh_py (.inl ⟨ds, rfl⟩) (fun m' _ => ⟨ds, rfl⟩) hy hr, txt_tuple ys, by decide⟩
theorem nl_dic {n : Nat} {m : Mem} {k : Nat} {kvs : List (Key × D)} (hk : m[k]? = some (.dic kvs)) (hne : k ≠ n) (h : kvs = [] ∨ kvs = [(.inl 0, .int 0)]) : NL8 n m (.ref k) := by
  refine ⟨.inr (.inr (.inr (.inr (.inr ⟨k, kvs, rfl, hne, hk⟩)))), ?_⟩
  have hs : ∀ m', Kept n m m' → dRepr [.ref k] m' = .bad := fun m' g => by
    have e : seqOf (.ref k) m' = none := by
      show (match m'[k]? with | some (.lst xs) => some xs | _ => none) = _
      rw [g k _ hne hk]
    show (match seqOf (.ref k) m', toPy m' 12 (.ref k) with
      | some _, some y => if y.showable = true ∧ y.hasDict = false ∧ y.depth ≤ 60 ∧ y.shown.length ≤ 1000000 then R.ok (D.str y.shown) m' else .bad
      | _, _ => .bad) = _
    rw [e]
  have fin : ∀ (y : PyData), (∀ m', Kept n m m' → toPyX m' 12 (.ref k) = some y) → (y.showable = true ∧ y.depth ≤ 60 ∧ y.shown.length ≤ 1000000) → Sh n m (.ref k) y.shown := by
    intro y hy hc m' g
    show (match dRepr [.ref k] m' with
      | .ok v m' => R.ok v m'
      | _ => match toPyX m' 12 (.ref k) with
        | some y => if y.showable = true ∧ y.depth ≤ 60 ∧ y.shown.length ≤ 1000000 then .ok (.str y.shown) m' else .bad
        | none => .bad) = _
    rw [hs m' g]
    dsimp only
    rw [hy m' g]
    dsimp only
    rw [if_pos hc]
  rcases h with rfl | rfl
  · refine ⟨(PyData.dict []).shown, 123, [125], fin _ (fun m' g => ?_) ⟨by simp [PyData.showable, PyData.showableKv], by simp [PyData.depth, PyData.depthKv], by decide +kernel⟩, by decide +kernel, by decide⟩
    show (match m'[k]? with | some (.dic kvs) => ((kvs.mapM fun kv : Key × D => (toPyX m' 11 kv.2).map fun y => (keyP kv.1, y)).map PyData.dict) | _ => none) = _
    rw [g k _ hne hk]
    rfl
  · refine ⟨(PyData.dict [(.int 0, .int 0)]).shown, 123, [48, 58, 32, 48, 125], fin _ (fun m' g => ?_) ⟨by simp [PyData.showable, PyData.showableKv], by simp [PyData.depth, PyData.depthKv], by decide +kernel⟩, by decide +kernel, by decide⟩
    show (match m'[k]? with | some (.dic kvs) => ((kvs.mapM fun kv : Key × D => (toPyX m' 11 kv.2).map fun y => (keyP kv.1, y)).map PyData.dict) | _ => none) = _
    rw [g k _ hne hk]
    rfl
theorem nl_str0 {n : Nat} (m : Mem) : NL8 n m (.str (Str.ofString "")) := by
  refine ⟨.inr (.inr (.inr (.inl ⟨_, rfl⟩))), reprText (Str.ofString ""), 39, [39], fun m' _ => ?_, by decide +kernel, by decide⟩
  have hl : (reprText (Str.ofString "")).length ≤ 1000000 := by decide +kernel
  show (if (reprText (Str.ofString "")).length ≤ 1000000 then R.ok (D.str (reprText (Str.ofString ""))) m' else .bad) = _
  rw [if_pos hl]
theorem nl_row {n : Nat} (m : Mem) {xs : List F8} (h : bdR (.t xs)) : NL8 n m (.tup (xs.map fD)) := by
  refine nl_tup (ys := xs.map fP) (fun m' _ => toPy_tupm fun a _ => toPy_f m' 10 a) ?_
  exact (rp_r (r := .t xs) h).mono (by omega) (by omega)
theorem rp_unit : Rp 1 10 (.tuple []) := ⟨by simp [PyData.showable, PyData.showableAll], by simp [PyData.hasDict, PyData.hasDictAll], by simp [PyData.depth, PyData.depthAll], by decide +kernel⟩
theorem anything8 {n : Nat} {m : Mem} (hp : Pen n m) : (f_law_anything [.ref n] m).post fun v m' => T8 n m' v ∧ Pd n m m' := by
  unfold f_law_anything b_law_anything
  have hlt := pen_lt hp
  sizeOf_list_dec
  rename_i k1 m1 h1 k2 m2 h2 k3 m3 h3
  simp only [mDict, mPairs, mC, R.bind, keysD, keyD, mergeD, List.foldl, putD, List.any, Bool.false_eq_true, if_false, List.length_cons, List.length_nil, R.calm, List.nil_append, Nat.reduceLeDiff, if_true, post_ok]
  have h4 := New.mk' m3 (O.dic [(Sum.inl 0, D.int 0)])
  generalize m3 ++ [O.dic [(Sum.inl 0, D.int 0)]] = m4 at h4 ⊢
  generalize m3.length = k4 at h4 ⊢
  sizeOf_list_dec
  rename_i k5 m5 h5
  have n1 : k1 ≠ n := by have := h1.k; omega
  have n2 : k2 ≠ n := by have := h2.k; have := h1.gr.len; omega
  have n3 : k3 ≠ n := by have := h3.k; have := (h1.gr.trans h2.gr).len; omega
  have n4 : k4 ≠ n := by have := h4.k; have := ((h1.gr.trans h2.gr).trans h3.gr).len; omega
  have g4 : Gr m m4 := by array_get_dec
  refine (pickN (g4.pen hp) h5 (by simp) (by simp)).mono ?_
  rintro v m6 ⟨hv, p6⟩
  have kp := p6.kept
  have c1 : m6[k1]? = some (.lst []) := kp k1 _ n1 (by array_mem_dec)
  have c2 : m6[k2]? = some (.dic []) := kp k2 _ n2 (by array_mem_dec)
  have c3 : m6[k3]? = some (.lst [.int 0]) := kp k3 _ n3 (by array_mem_dec)
  have c4 : m6[k4]? = some (.dic [(.inl 0, .int 0)]) := kp k4 _ n4 (by array_mem_dec)
  refine ⟨?_, (Pd.gr hp g4).trans p6⟩
  simp only [List.mem_cons, List.not_mem_nil, or_false] at hv
  have fl : ∀ x : F8, bdF x → T8 n m6 (fD x) := fun x hx => .inr (nl_flat m6 x hx)
  rcases hv with rfl | rfl | rfl | rfl | rfl | rfl | rfl | rfl | rfl | rfl | rfl | rfl | rfl | rfl | rfl | rfl | rfl | rfl
  · exact fl .n trivial
  · exact fl (.b true) trivial
  · exact fl (.b false) trivial
  · exact .inr (nl_str0 m6)
  · exact fl .s trivial
  · exact .inr (nl_row m6 (xs := []) ⟨fun _ z => (nomatch z), by simp⟩)
  · exact .inl ⟨k1, [], rfl, n1, c1, fun _ z => (nomatch z), fun _ z => (nomatch z), by simp⟩
  · exact .inr (nl_dic c2 n2 (.inl rfl))
  · exact fl (.i (-1)) ⟨by omega, by omega⟩
  · exact fl (.i (10 ^ 39)) ⟨by omega, by omega⟩
  · exact fl (.i 0) ⟨by omega, by omega⟩
  · exact fl (.i 7) ⟨by omega, by omega⟩
  · exact .inr (nl_row m6 (xs := [.i 0]) ⟨fun x hx => by simp at hx; subst hx; exact ⟨by omega, by omega⟩, by simp⟩)
  · exact .inl ⟨k3, [.f (.i 0)], rfl, n3, c3, fun r hr => by simp at hr; subst hr; trivial, fun r hr => by simp at hr; subst hr; exact ⟨by omega, by omega⟩, by simp⟩
  · exact .inr (nl_tup (ys := [.tuple []]) (fun m' _ => rfl) ((rp_tup (d := 1) (B := 10) (n := 1) (fun y hy => by simp at hy; subst hy; exact rp_unit) (by simp)).mono (by omega) (by omega)))
  · exact .inr (nl_row m6 (xs := [.i 0, .i 1]) ⟨fun x hx => by simp at hx; rcases hx with rfl | rfl <;> exact ⟨by omega, by omega⟩, by simp⟩)
  · exact .inr (nl_dic c4 n4 (.inr rfl))
  · exact .inr (nl_tup (ys := [.tuple [.int 0, .int 1]]) (fun m' _ => rfl) ((rp_tup (d := 2) (B := 23100) (n := 1) (fun y hy => by simp at hy; subst hy; exact rp_r (r := .t [.i 0, .i 1]) ⟨fun x hx => by simp at hx; rcases hx with rfl | rfl <;> exact ⟨by omega, by omega⟩, by simp⟩) (by simp)).mono (by omega) (by omega)))

theorem atI_3 {α : Type} (x y z w : α) (xs : List α) : atI (x :: y :: z :: w :: xs) 3 = some w := by simpa using atI_nat (xs := x :: y :: z :: w :: xs) (j := 3) rfl
theorem nl_of {k n : Nat} {m : Mem} (hp : n < m.length) (h : k = m.length) : k ≠ n := by omega
/-- a row of four, cut and put together -/
def FT (N : Nat) (ds : List D) : Prop := ∃ fs : List F8, ds = fs.map fD ∧ (∀ f ∈ fs, bdF f) ∧ fs.length ≤ N
theorem FT.cut {N : Nat} {ds : List D} (h : FT N ds) (lo hi : Option Int) : FT N (Mi.cutD ds lo hi) := by
  obtain ⟨fs, rfl, h2, h3⟩ := h
  obtain ⟨bs, e, hl, hm⟩ := cut_map fD fs lo hi
  exact ⟨bs, e, fun f hf => h2 f (hm f hf), by omega⟩
theorem FT.app {N M : Nat} {ds es : List D} (h : FT N ds) (h' : FT M es) : FT (N + M) (ds ++ es) := by
  obtain ⟨fs, rfl, h2, h3⟩ := h
  obtain ⟨gs, rfl, h4, h5⟩ := h'
  refine ⟨fs ++ gs, by simp, fun f hf => ?_, by simp; omega⟩
  rcases List.mem_append.mp hf with z | z
  · exact h2 f z
  · exact h4 f z
theorem FT.len {N : Nat} {ds : List D} (h : FT N ds) : ds.length ≤ N := by
  obtain ⟨fs, rfl, _, h⟩ := h
  simpa using h
theorem FT.one {x : F8} (h : bdF x) : FT 1 [fD x] := ⟨[x], rfl, fun f hf => by simp at hf; subst hf; exact h, by simp⟩
theorem FT.st {c : Sx} (h : BdC c) : FT 4 [.int c.a, .int c.z, .int c.one, oD c.oth] := by
  refine ⟨[.i c.a, .i c.z, .i c.one, oF c.oth], ?_, (bd_st h).1, by simp⟩
  simp only [List.map_cons, List.map_nil, fD_o]
  rfl
/-- one of the things that a row is turned into -/
def Rw (n : Nat) (m : Mem) (d : D) : Prop := ∃ r : R8, d = rD r ∧ okR8 n m r ∧ bdR r
theorem FT.rw {N : Nat} {ds : List D} (h : FT N ds) (hN : N ≤ 12) (n : Nat) (m : Mem) : Rw n m (.tup ds) := by
  obtain ⟨fs, rfl, h2, h3⟩ := h
  exact ⟨.t fs, rfl, trivial, h2, by omega⟩
theorem Rw.kept {n : Nat} {m m' : Mem} {d : D} (h : Rw n m d) (g : Kept n m m') : Rw n m' d := by
  obtain ⟨r, a, b, c⟩ := h
  exact ⟨r, a, b.kept g, c⟩
/-- a list of such -/
def LL (n : Nat) (m : Mem) (N : Nat) (ds : List D) : Prop := ∃ rs : List R8, ds = rs.map rD ∧ (∀ r ∈ rs, okR8 n m r ∧ bdR r) ∧ rs.length ≤ N
theorem LL.kept {n : Nat} {m m' : Mem} {N : Nat} {ds : List D} (h : LL n m N ds) (g : Kept n m m') : LL n m' N ds := by
  obtain ⟨rs, a, b, c⟩ := h
  exact ⟨rs, a, fun r hr => ⟨(b r hr).1.kept g, (b r hr).2⟩, c⟩
theorem LL.cut {n : Nat} {m : Mem} {N : Nat} {ds : List D} (h : LL n m N ds) (lo hi : Option Int) : LL n m N (Mi.cutD ds lo hi) := by
  obtain ⟨rs, rfl, h2, h3⟩ := h
  obtain ⟨bs, e, hl, hm⟩ := cut_map rD rs lo hi
  exact ⟨bs, e, fun f hf => h2 f (hm f hf), by omega⟩
theorem LL.app {n : Nat} {m : Mem} {N M : Nat} {ds es : List D} (h : LL n m N ds) (h' : LL n m M es) : LL n m (N + M) (ds ++ es) := by
  obtain ⟨fs, rfl, h2, h3⟩ := h
  obtain ⟨gs, rfl, h4, h5⟩ := h'
  refine ⟨fs ++ gs, by simp, fun f hf => ?_, by simp; omega⟩
  rcases List.mem_append.mp hf with z | z
  · exact h2 f z
  · exact h4 f z
theorem LL.rev {n : Nat} {m : Mem} {N : Nat} {ds : List D} (h : LL n m N ds) : LL n m N ds.reverse := by
  obtain ⟨fs, rfl, h2, h3⟩ := h
  exact ⟨fs.reverse, by simp, fun f hf => h2 f (by simpa using hf), by simpa using h3⟩
theorem LL.one {n : Nat} {m : Mem} {d : D} (h : Rw n m d) : LL n m 1 [d] := by
  obtain ⟨r, rfl, a, b⟩ := h
  exact ⟨[r], rfl, fun f hf => by simp at hf; subst hf; exact ⟨a, b⟩, by simp⟩
theorem LL.len {n : Nat} {m : Mem} {N : Nat} {ds : List D} (h : LL n m N ds) : ds.length ≤ N := by
  obtain ⟨rs, rfl, _, h⟩ := h
  simpa using h
theorem LL.t8 {n : Nat} {m : Mem} {N k : Nat} {ds : List D} (h : LL n m N ds) (hN : N ≤ 40) (hk : m[k]? = some (.lst ds)) (hne : k ≠ n) : T8 n m (.ref k) := by
  obtain ⟨rs, rfl, h2, h3⟩ := h
  exact .inl ⟨k, rs, rfl, hne, hk, fun r hr => (h2 r hr).1, fun r hr => (h2 r hr).2, by omega⟩
theorem LL.tup {n : Nat} {m : Mem} {N : Nat} {ds : List D} (h : LL n m N ds) (hN : N ≤ 40) : T8 n m (.tup ds) := by
  obtain ⟨rs, rfl, h2, h3⟩ := h
  refine .inr (nl_tup (ys := rs.map rP) (fun m' g => ?_) ((rp_t (fun r hr => (h2 r hr).2) (by omega)).mono (by omega) (by omega)))
  exact toPy_tupm fun r hr => toPy_r 9 ((h2 r hr).1.kept g)
theorem other8 {n k0 : Nat} {m : Mem} {cs : List Sx} (hp : Pen n m) (hk : m[k0]? = some (.lst (cs.map stD))) (hne : k0 ≠ n) (hcs : ∀ c ∈ cs, BdC c) (hl : cs.length ≤ 8) : (f_law_other [.ref n, .ref k0] m).post fun v m' => T8 n m' v ∧ Pd n m m' := by
  unfold f_law_other b_law_other
  have hlt := pen_lt hp
  sizeOf_list_dec
  rename_i k1 m1 n1
  refine p_eqE (f := stD) (g := stP) (fun c => toPy_st m1 9 c) (fun c => ?_) (fun c => ?_) (n1.gr.at hk) n1.here ?_
  · cases h : c.oth <;> simp [stP, oP, h, PyData.canLay0, PyData.canLayAll0]
  · cases h : c.oth <;> simp [stP, oP, h, PyData.depth, PyData.depthAll]
  have hlt1 : n < m1.length := Nat.lt_of_lt_of_le hlt n1.gr.len
  cases cs with
  | nil =>
    sizeOf_list_dec
    rename_i ka ma na kb mb nb kc mc nc kd md nd
    have gc : Gr m1 mc := (na.gr.trans nb.gr).trans nc.gr
    have hpc : Pen n mc := (n1.gr.trans gc).pen hp
    refine (pickN hpc nd (by simp) (by simp)).mono ?_
    rintro v m2 ⟨hv, p2⟩
    have hna : ka ≠ n := nl_of hlt1 na.k
    have hnb : kb ≠ n := nl_of (Nat.lt_of_lt_of_le hlt1 na.gr.len) nb.k
    have hnc : kc ≠ n := nl_of (Nat.lt_of_lt_of_le hlt1 (na.gr.trans nb.gr).len) nc.k
    have ca := p2.at hna (nc.gr.at (nb.gr.at na.here))
    have cb := p2.at hnb (nc.gr.at nb.here)
    have cc := p2.at hnc nc.here
    refine ⟨?_, (Pd.gr hp (n1.gr.trans gc)).trans p2⟩
    simp only [List.mem_cons, List.not_mem_nil, or_false] at hv
    have r4 : ∀ x : F8, bdF x → Rw n m2 (.tup [.int 0, .int 0, fD x, .non]) := fun x hx => FT.rw (N := 8) ⟨[.i 0, .i 0, x, .n], rfl, fun f hf => by
      simp only [List.mem_cons, List.not_mem_nil, or_false] at hf
      rcases hf with rfl | rfl | rfl | rfl
      · exact ⟨by omega, by omega⟩
      · exact ⟨by omega, by omega⟩
      · exact hx
      · trivial, by simp⟩ (by omega) n m2
    rcases hv with rfl | rfl | rfl | rfl | rfl
    · exact (LL.one (FT.rw (N := 0) (ds := []) ⟨[], rfl, fun _ z => (nomatch z), by simp⟩ (by omega) n m2)).t8 (by omega) ca hna
    · exact .inr (nl_row m2 (xs := []) ⟨fun _ z => (nomatch z), by simp⟩)
    · exact .inr (nl_flat m2 .n trivial)
    · exact (LL.one (r4 (.i 0) ⟨by omega, by omega⟩)).t8 (by omega) cb hnb
    · exact (LL.one (r4 .n trivial)).t8 (by omega) cc hnc
  | cons c0 cs0 =>
    generalize hcs0 : c0 :: cs0 = cs at *
    have hc1 : 0 < cs.length := by rw [← hcs0]; simp
    have hemp : cs.isEmpty = false := by rw [← hcs0]; rfl
    rw [hemp]
    sizeOf_list_dec
    rw [List.length_map]
    refine (drawn (n1.gr.pen hp) (by omega) (by omega)).mono ?_
    rintro v m2 ⟨at', rfl, a0, a1, p2⟩
    have hk2 := p2.at hne (n1.gr.at hk)
    obtain ⟨c, hc⟩ : ∃ c, cs[at'.toNat]? = some c := ⟨cs[at'.toNat]'(by omega), List.getElem?_eq_getElem (by omega)⟩
    have bc : BdC c := hcs c (List.mem_of_getElem? hc)
    have hix : atI (cs.map stD) at' = some (stD c) := by
      have := atI_nat (xs := cs.map stD) (j := at'.toNat) (v := stD c) (by rw [List.getElem?_map, hc]; rfl)
      rwa [show ((at'.toNat : Nat) : Int) = at' by omega] at this
    have hf4 := FT.st bc
    have hL0 : LL n m2 8 (cs.map stD) := ⟨cs.map stR, (stR_Ds cs).symm, fun r hr => by
      obtain ⟨c', hc', rfl⟩ := List.mem_map.mp hr
      exact ⟨trivial, bd_st (hcs c' hc')⟩, by simpa using hl⟩
    sizeOf_list_dec
    refine (drawn p2.pen (by decide) (by decide)).mono ?_
    rintro v m3 ⟨sp, rfl, s0, s1, p3⟩
    sizeOf_list_dec
    rename_i k4 m4 n4
    refine (pickN p3.pen n4 (by simp) (by simp)).mono ?_
    rintro v m5 ⟨hv, p5⟩
    obtain ⟨x5, rfl, hx5⟩ := f8_of hv
    have p25 : Pd n m2 m5 := p3.trans p5
    have hk5 := p25.at hne hk2
    have hL5 := hL0.kept p25.kept
    have hlt5 := pen_lt p5.pen
    clear hv n4
    have l4 : ∀ lo hi, (Mi.cutD [D.int c.a, .int c.z, .int c.one, oD c.oth] lo hi).length ≤ 4 := fun lo hi => (hf4.cut lo hi).len
    sizeOf_list_dec
    refine p_catTT (by have := l4 none (some 1); simp; omega) ?_
    sizeOf_list_dec
    refine p_catTT (by have := l4 none (some 1); have := l4 (some 2) none; simp; omega) ?_
    have ft6 : FT 9 (Mi.cutD [D.int c.a, .int c.z, .int c.one, oD c.oth] none (some 1) ++ [D.int (c.z + 1)] ++ Mi.cutD [D.int c.a, .int c.z, .int c.one, oD c.oth] (some 2) none) := ((hf4.cut none (some 1)).app (FT.one (x := .i (c.z + 1)) ⟨by have := bc.a0; have := bc.az; omega, by have := bc.z1; omega⟩)).app (hf4.cut (some 2) none)
    generalize hT6 : Mi.cutD [D.int c.a, .int c.z, .int c.one, oD c.oth] none (some 1) ++ [D.int (c.z + 1)] ++ Mi.cutD [D.int c.a, .int c.z, .int c.one, oD c.oth] (some 2) none = T6 at ft6 ⊢
    sizeOf_list_dec
    refine p_catTT (by have := l4 none (some sp); simp; omega) ?_
    sizeOf_list_dec
    refine p_catTT (by have := l4 none (some sp); have := l4 (some (sp + 1)) none; simp; omega) ?_
    have ft7 := ((hf4.cut none (some sp)).app (FT.one hx5)).app (hf4.cut (some (sp + 1)) none)
    generalize hT7 : Mi.cutD [D.int c.a, .int c.z, .int c.one, oD c.oth] none (some sp) ++ [fD x5] ++ Mi.cutD [D.int c.a, .int c.z, .int c.one, oD c.oth] (some (sp + 1)) none = T7 at ft7 ⊢
    sizeOf_list_dec
    refine p_ixT (atI_3 _ _ _ _ _) ?_
    sizeOf_list_dec
    rename_i k6 m6 n6
    refine p_catTT (by simp) ?_
    sizeOf_list_dec
    rename_i k7 m7 n7
    have ft8 : FT 5 ([D.int c.a, .int c.z, .int c.one, oD c.oth] ++ [D.int 0]) := hf4.app (FT.one (x := .i 0) ⟨by omega, by omega⟩)
    refine p_catTT (by have := l4 (some 1) none; simp; omega) ?_
    sizeOf_list_dec
    refine p_catTT (by have := l4 none (some 3); simp; omega) ?_
    sizeOf_list_dec
    rename_i k8 m8 n8 k9 m9 n9 k10 m10 n10
    have g510 : Gr m5 m10 := (((n6.gr.trans n7.gr).trans n8.gr).trans n9.gr).trans n10.gr
    have hp10 : Pen n m10 := g510.pen p5.pen
    have hk6n : k6 ≠ n := nl_of hlt5 n6.k
    have hk9n : k9 ≠ n := nl_of (Nat.lt_of_lt_of_le hlt5 ((n6.gr.trans n7.gr).trans n8.gr).len) n9.k
    have hk10n : k10 ≠ n := nl_of (Nat.lt_of_lt_of_le hlt5 (((n6.gr.trans n7.gr).trans n8.gr).trans n9.gr).len) n10.k
    refine (pick_spec hp10 hk9n (n10.gr.at n9.here) (by simp) (by simp)).mono ?_
    rintro v m11 ⟨hv, p11⟩
    have p511 : Pd n m5 m11 := (Pd.gr p5.pen g510).trans p11
    have hrw : Rw n m11 v := by
      have c6 : m11[k6]? = some (.lst [D.int c.a, .int c.z, .int c.one, oD c.oth]) := p11.at hk6n (n10.gr.at (n9.gr.at (n8.gr.at (n7.gr.at n6.here))))
      simp only [List.mem_append, List.mem_cons, List.not_mem_nil, or_false] at hv
      rcases hv with (rfl | rfl | rfl | rfl | rfl) | (rfl | rfl)
      · exact ft7.rw (by omega) n m11
      · exact ft6.rw (by omega) n m11
      · refine FT.rw (N := 4) ⟨[.i c.a, .i c.z, oF c.oth, .i c.one], by simp only [List.map_cons, List.map_nil, fD_o]; rfl, fun f hf => ?_, by simp⟩ (by omega) n m11
        have := (bd_st bc).1
        simp only [List.mem_cons, List.not_mem_nil, or_false] at hf this
        rcases hf with rfl | rfl | rfl | rfl <;> exact this _ (by simp)
      · obtain ⟨fs, e, h2, h3⟩ := hf4
        exact ⟨.l k6 fs, rfl, ⟨hk6n, by rw [c6, e]⟩, h2, by omega⟩
      · exact ft8.rw (by omega) n m11
      · exact ((FT.one (x := .i (c.a + 1)) ⟨by have := bc.a0; omega, by have := bc.az; have := bc.z1; omega⟩).app (hf4.cut (some 1) none)).rw (by omega) n m11
      · exact ((hf4.cut none (some 3)).app (FT.one (x := .n) trivial)).rw (by omega) n m11
    have hk11 := p511.at hne hk5
    have hL11 := hL5.kept p511.kept
    have c10 := p11.at hk10n n10.here
    have hlt11 := pen_lt p511.pen
    have hp11 := p511.pen
    have pall : Pd n m m11 := (Pd.gr hp n1.gr).trans (p2.trans (p25.trans p511))
    clear hv n6 n7 n8 n9 n10 p11 p511 g510 hp10 ft6 ft7 ft8 hT6 hT7 p25 p2 p3 p5
    generalize m11 = m12 at *
    have lc : ∀ lo hi, (Mi.cutD (cs.map stD) lo hi).length ≤ 8 := fun lo hi => (hL11.cut lo hi).len
    have la := lc none (some at')
    have lb := lc (some (at' + 1)) none
    sizeOf_list_dec
    rename_i kv mv nv kw mw nw kx mx nx' kT mT nT k14 m14 n14
    have g1214 : Gr m12 m14 := (((nv.gr.trans nw.gr).trans nx'.gr).trans nT.gr).trans n14.gr
    have hp14 : Pen n m14 := g1214.pen hp11
    have hTn : kT ≠ n := nl_of (Nat.lt_of_lt_of_le hlt11 ((nv.gr.trans nw.gr).trans nx'.gr).len) nT.k
    have h14n : k14 ≠ n := nl_of (Nat.lt_of_lt_of_le hlt11 (((nv.gr.trans nw.gr).trans nx'.gr).trans nT.gr).len) n14.k
    refine (parted8 hp14 bc).mono ?_
    rintro v' m15 ⟨k15, rs15, rfl, h15n, h15, hr15, hl15, p15⟩
    have p1215 : Pd n m12 m15 := (Pd.gr hp11 g1214).trans p15
    have c14 := p15.at h14n n14.here
    have cT := p15.at hTn (n14.gr.at nT.here)
    have hk15 := p1215.at hne hk11
    have hL15 := hL11.kept p1215.kept
    have hrw15 := hrw.kept p1215.kept
    have hp15 := p1215.pen
    have hlt15 := pen_lt hp15
    have pall15 := pall.trans p1215
    have lT := ((hL15.cut none (some at')).app (LL.one hrw15)).app (hL15.cut (some (at' + 1)) none)
    have l15 : LL n m15 2 (rs15.map rD) := ⟨rs15, rfl, fun r hr => ⟨okT (hr15 r hr).1, (hr15 r hr).2⟩, hl15⟩
    have l15' := l15.len
    have lm := lc (some (-1)) none
    clear nv nw nx' nT n14 g1214 hp14 p15 p1215 hk11 hrw hp11 hlt11 pall c10 hL11
    generalize m15 = m16 at *
    sizeOf_list_dec
    rename_i q16 w16 a16 q15 w15 a15 q14 w14 a14 q13 w13 a13 q12 w12 a12 q11 w11 a11 q10 w10 a10 q9 w9 a9 q8 w8 a8 q7 w7 a7 q6 w6 a6 q5 w5 a5 q4 w4 a4 q3 w3 a3 q2 w2 a2 q1 w1 a1 q0 w0 a0
    have g14 : Gr m16 w14 := (a16.gr.trans a15.gr).trans a14.gr
    have g11 : Gr m16 w11 := ((g14.trans a13.gr).trans a12.gr).trans a11.gr
    have g8 : Gr m16 w8 := ((g11.trans a10.gr).trans a9.gr).trans a8.gr
    have g7 : Gr m16 w7 := g8.trans a7.gr
    have g3 : Gr m16 w3 := (((g7.trans a6.gr).trans a5.gr).trans a4.gr).trans a3.gr
    have g2 : Gr m16 w2 := g3.trans a2.gr
    have g1 : Gr m16 w1 := g2.trans a1.gr
    have g0 : Gr m16 w0 := g1.trans a0.gr
    have nn : ∀ {w : Mem} {q : Nat}, Gr m16 w → q = w.length → q ≠ n := fun {w q} g e => nl_of (Nat.lt_of_lt_of_le hlt15 g.len) e
    have nq14 : q14 ≠ n := nn (a16.gr.trans a15.gr) a14.k
    have nq11 : q11 ≠ n := nn ((g14.trans a13.gr).trans a12.gr) a11.k
    have nq8 : q8 ≠ n := nn ((g11.trans a10.gr).trans a9.gr) a8.k
    have nq7 : q7 ≠ n := nn g8 a7.k
    have nq2 : q2 ≠ n := nn g3 a2.k
    have nq0 : q0 ≠ n := nn g1 a0.k
    refine (anything8 (g0.pen hp15)).mono ?_
    rintro v2 mB ⟨t2, pB⟩
    have d0 := pB.at nq0 a0.here
    have dT := pB.at hTn (g0.at cT)
    have d14 := pB.at nq14 (a0.gr.at (a1.gr.at (a2.gr.at (a3.gr.at (a4.gr.at (a5.gr.at (a6.gr.at (a7.gr.at (a8.gr.at (a9.gr.at (a10.gr.at (a11.gr.at (a12.gr.at (a13.gr.at a14.here))))))))))))))
    have d11 := pB.at nq11 (a0.gr.at (a1.gr.at (a2.gr.at (a3.gr.at (a4.gr.at (a5.gr.at (a6.gr.at (a7.gr.at (a8.gr.at (a9.gr.at (a10.gr.at a11.here)))))))))))
    have d8 := pB.at nq8 (a0.gr.at (a1.gr.at (a2.gr.at (a3.gr.at (a4.gr.at (a5.gr.at (a6.gr.at (a7.gr.at a8.here))))))))
    have d7 := pB.at nq7 (a0.gr.at (a1.gr.at (a2.gr.at (a3.gr.at (a4.gr.at (a5.gr.at (a6.gr.at a7.here)))))))
    have d2 := pB.at nq2 (a0.gr.at (a1.gr.at a2.here))
    have p16B : Pd n m16 mB := (Pd.gr hp15 g0).trans pB
    have hLB := hL15.kept p16B.kept
    have lTB := lT.kept p16B.kept
    have l15B := l15.kept p16B.kept
    have hpB := p16B.pen
    have hltB := pen_lt hpB
    have pallB := pall15.trans p16B
    clear a16 a15 a14 a13 a12 a11 a10 a9 a8 a7 a6 a5 a4 a3 a2 a1 a0 g14 g11 g8 g7 g3 g2 g1 g0 pB p16B cT c14 h15 hk15 nn
    sizeOf_list_dec
    rename_i qy wy ay qz wz az
    have gz : Gr mB wz := ay.gr.trans az.gr
    have nqz : qz ≠ n := nl_of (Nat.lt_of_lt_of_le hltB ay.gr.len) az.k
    refine (pick_spec (gz.pen hpB) nqz az.here (by simp) (by simp)).mono ?_
    rintro v3 mE ⟨hv3, pE⟩
    have kE : Kept n mB mE := (gz.kept n).trans pE.kept
    refine ⟨?_, pallB.trans ((Pd.gr hpB gz).trans pE)⟩
    have rc : Rw n mE (stD c) := ⟨stR c, (stR_D c).symm, trivial, bd_st bc⟩
    have hLE := hLB.kept kE
    simp only [List.mem_append, List.mem_cons, List.not_mem_nil, or_false] at hv3
    rcases hv3 with ((rfl | rfl | rfl | rfl | rfl) | (rfl | rfl | rfl | rfl)) | rfl
    · exact (lTB.kept kE).t8 (by omega) (kE _ _ hTn dT) hTn
    · exact (lTB.kept kE).t8 (by omega) (kE _ _ hTn dT) hTn
    · exact (lTB.kept kE).t8 (by omega) (kE _ _ hTn dT) hTn
    · exact (((hLE.cut none (some at')).app (l15B.kept kE)).app (hLE.cut (some (at' + 1)) none)).t8 (by omega) (kE _ _ nq14 d14) nq14
    · exact ((hLE.cut none (some at')).app (hLE.cut (some (at' + 1)) none)).t8 (by omega) (kE _ _ nq11 d11) nq11
    · exact (hLE.app (hLE.cut (some (-1)) none)).t8 (by omega) (kE _ _ nq8 d8) nq8
    · exact hLE.rev.t8 (by omega) (kE _ _ nq7 d7) nq7
    · exact hLE.tup (by omega)
    · exact (((hLE.cut none (some at')).app ((LL.one rc).app (LL.one rc))).app (hLE.cut (some (at' + 1)) none)).t8 (by omega) (kE _ _ nq2 d2) nq2
    · exact t2.kept kE

theorem cut_ints (ns : List Int) (lo hi : Option Int) : ∃ ks : List Int, Mi.cutD (ns.map D.int) lo hi = ks.map D.int ∧ ks.length ≤ ns.length := by
  unfold Mi.cutD
  rw [List.length_map, ← List.map_drop, ← List.map_take]
  exact ⟨_, rfl, by rw [List.length_take, List.length_drop]; omega⟩
theorem same_bl8 (j : Nat) (a b : Bool) (m : Mem) : (f_law_same (j + 1) [.bl a, .bl b] m).post fun v m' => v = .bl (a == b) ∧ m' = m := by
  show (runM 4 (b_law_same (f_law_same j)) _ m).post _
  unfold b_law_same
  nofun
  refine iteTr (by decide) ?_
  nofun
theorem bd_crs {l : Lad} {bs : Bids} {s : Int} (gl : GoodL l) (gb : GoodB bs) (h1 : 1 ≤ s ∧ s ≤ 1000000) : ∀ c ∈ crsOf (runs l s bs), BdC c := fun c hc => by
  have gr := goodR gl gb h1.1
  obtain ⟨a, b, _, ⟨q, hq, e⟩, d, ⟨q2, hq2, e2⟩⟩ := crs_shape (crsOf_is (runs l s bs)) c hc
  have h2 := gr.top q2 hq2
  have h3 := gr.who q hq
  refine ⟨a, b, by omega, by omega, fun o ho => ?_⟩
  obtain ⟨_, q3, hq3, e3⟩ := d o ho
  have := gr.who q3 hq3
  omega
theorem thing8 {l : Lad} {bs : Bids} {s t : Int} (gl : GoodL l) (gb : GoodB bs) (h1 : 1 ≤ s ∧ s ≤ 1000000) (h2 : s ≤ t ∧ t ≤ 1000000) {n : Nat} {m : Mem} {d : D} {Y : Str} (h : T8 n m d) (hY : Y = (PyData.list (((crsOf (runs l s bs)).map stR).map rP)).shown) : ∃ (X : Str) (b : Bool), Sh n m d X ∧ (X == Y) = b ∧ ∀ m', Gr m m' → (f_is_course [ladD l, lotD s t, bidD bs, d] m').post fun v m2 => v = .bl b ∧ Gr m' m2 := by
  have eP : ((crsOf (runs l s bs)).map stR).map rP = (crsOf (runs l s bs)).map stP := by
    rw [List.map_map]
    exact List.map_congr_left fun c _ => stR_P c
  rcases h with ⟨k, rs, rfl, L⟩ | N
  · refine ⟨_, decide (rs.map rP = (crsOf (runs l s bs)).map stP), sh_l L, ?_, fun m' g => iscourse8 gl gb h1 h2 (L.kept (g.kept n))⟩
    rw [Bool.eq_iff_iff, beq_iff_eq, decide_eq_true_eq, hY, l_same, eP]
  · obtain ⟨x, c, tl, hx, hc, hne⟩ := N.sh
    refine ⟨x, false, hx, ?_, fun m' g => nocourse8 gl gb h1 h2 (N.nl.kept (g.kept n))⟩
    rw [beq_eq_false_iff_ne, hY]
    exact nl_ne hc hne
theorem law_post (ns : List Int) (h : ns.length ≤ 63) : (f_law [.fro (ns.map D.int)] []).post fun v _ => v = .bl true := by
  unfold f_law b_law
  sizeOf_list_dec
  refine (cell_spec ns _).mono ?_
  rintro v m0 ⟨c0, rfl, rfl⟩
  sizeOf_list_dec
  rename_i k1 m1 hn1 k2 m2 hn2
  obtain ⟨ks, ek, hks⟩ := cut_ints ns (some 1) (some 4)
  rw [ek] at hn2
  refine n_catR (hn2.gr.at hn1.here) hn2.here (by simp; omega) ?_
  intro ka mm hn
  sizeOf_list_dec
  have hka := hn.here
  clear hn hn1 hn2
  rw [show [D.int c0] ++ ks.map D.int = (c0 :: ks).map D.int from rfl] at hka ⊢
  generalize c0 :: ks = cs at *
  refine forL_on D.int (fun pr rest e m' => ∃ y1 y2 y3 y4 y5 y6 y7 y8 y9 y10, m'[ka]? = some (.lst (cs.map D.int)) ∧ e = [some (.fro (ns.map D.int)), y1, y2, y3, y4, y5, y6, y7, y8, y9, y10]) cs ⟨none, none, none, none, none, none, none, none, none, none, hka, rfl⟩ ?_ ?_
  · rintro e m' ⟨y1, y2, y3, y4, y5, y6, y7, y8, y9, y10, hk, rfl⟩
    refine ⟨hk, ?_⟩
    sizeOf_list_dec
  · rintro pr c rest e m' e1 ⟨y1, y2, y3, y4, y5, y6, y7, y8, y9, y10, hk, rfl⟩
    refine ⟨hk, ?_⟩
    sizeOf_list_dec
    refine (pen_spec c m').mono ?_
    rintro v m1 ⟨rfl, hp, g1⟩
    have hkn : ka ≠ m'.length := by have := lt_of_at hk; omega
    have hk1 := g1.at hk
    generalize m'.length = n at hp hkn
    clear g1
    sizeOf_list_dec
    rename_i k2 m2 n2
    refine (reachN (lo := 1) (hi := 1000000) hp n2 (by simp) (by simp) (by
      intro x hx
      simp only [List.mem_cons, List.not_mem_nil, or_false] at hx
      rcases hx with rfl | rfl | rfl <;> exact ⟨_, rfl, by decide, by decide⟩)).mono ?_
    rintro v m3 ⟨reach, rfl, hr, p3⟩
    sizeOf_list_dec
    refine (scene_spec p3.pen hr).mono ?_
    rintro v m4 ⟨l, s, t, bs, rfl, gl, hs, ht, gb, p4⟩
    have hk4 := p4.at hkn (p3.at hkn hk1)
    have hp4 := p4.pen
    clear p3 p4 n2 hk1 hp
    sizeOf_list_dec
    refine (runners_spec gl gb hs m4).mono ?_
    rintro v m5 ⟨k5, rfl, hk50, h5, g5⟩
    sizeOf_list_dec
    refine (rows_spec (goodR gl gb hs.1) h5).mono ?_
    rintro v m6 ⟨k6, rfl, hk60, h6, g6⟩
    have hk6 := g6.at (g5.at hk4)
    have hp6 := g6.pen (g5.pen hp4)
    have hne6 : k6 ≠ n := by
      have := pen_lt' (g5.pen hp4)
      omega
    have hcl : (crsOf (runs l s bs)).length ≤ 8 := Nat.le_trans (crsOf_len _) (goodR gl gb hs.1).len
    have hbd := bd_crs gl gb hs
    clear hk50 hk60 h5 g5 g6 hk4 hp4
    sizeOf_list_dec
    rename_i k7 m7 n7
    have hp7 := n7.gr.pen hp6
    have h67 := n7.gr.at h6
    have hk7 := n7.gr.at hk6
    have hne7 : k7 ≠ n := by have := n7.k; have := pen_lt' hp6; omega
    have c7 := n7.here
    clear n7 h6 hk6 hp6
    refine (lcL_inv (fun rest acc m' => Pd n m7 m' ∧ (∀ y ∈ acc, T8 n m' y) ∧ acc.length + rest.length ≤ 8) _ [] m7 ⟨Pd.refl hp7, fun _ z => (nomatch z), by simp [rgD]⟩ (Q := fun ys m' => Pd n m7 m' ∧ (∀ y ∈ ys, T8 n m' y) ∧ ys.length ≤ 8) ?_ ?_).mono ?_
    · rintro acc m8 ⟨p8, h8, hl8⟩
      exact ⟨trivial, p8, h8, by simpa using hl8⟩
    · rintro d ds acc m8 ⟨p8, h8, hl8⟩
      refine ⟨trivial, _, rfl, ?_⟩
      sizeOf_list_dec
      refine (other8 p8.pen (p8.at hne6 h67) hne6 hbd hcl).mono ?_
      rintro v m9 ⟨t9, p9⟩
      refine ⟨by simp at hl8; omega, p8.trans p9, fun y hy => ?_, by simp at hl8 ⊢; omega⟩
      rcases List.mem_append.mp hy with z | z
      · exact (h8 y z).kept p9.kept
      · simp at z
        subst z
        exact t9
    rintro ys m8 ⟨p8, h8, hl8⟩
    have c8 := p8.at hne7 c7
    have h68 := p8.at hne6 h67
    have hk8 := p8.at hkn hk7
    sizeOf_list_dec
    rename_i k9 m9 n9 k10 m10 n10
    have g10 : Gr m8 m10 := n9.gr.trans n10.gr
    have L0 : L8 n m8 k6 ((crsOf (runs l s bs)).map stR) := ⟨hne6, by rw [stR_Ds]; exact h68, fun r hr => by
      obtain ⟨c', hc', rfl⟩ := List.mem_map.mp hr
      trivial, fun r hr => by
      obtain ⟨c', hc', rfl⟩ := List.mem_map.mp hr
      exact bd_st (hbd c' hc'), by simp; omega⟩
    have hall : ∀ d ∈ [D.ref k6] ++ ys, T8 n m10 d := fun d hd => by
      rcases List.mem_append.mp hd with z | z
      · simp at z
        subst z
        exact .inl ⟨k6, _, rfl, L0.kept (g10.kept n)⟩
      · exact (h8 d z).kept (g10.kept n)
    have L10 := L0.kept (g10.kept n)
    have hk10 := g10.at hk8
    have h10 := n10.here
    clear n9 n10 L0 h8 c8 h68 hk8 g10 c7
    have hsY := sh_l L10
    generalize hYd : (PyData.list (((crsOf (runs l s bs)).map stR).map rP)).shown = Y at hsY
    refine forL_onI (fun pr rest e m' => ∃ y7 y8 y9 y10, Gr m10 m' ∧ e = [some (.fro (ns.map D.int)), some (.int c), some (.ref n), some (ladD l), some (lotD s t), some (bidD bs), some (.ref k6), y7, y8, y9, y10]) _ ⟨_, _, _, _, Gr.refl _, rfl⟩ ?_ ?_
    · rintro e m11 ⟨y7', y8', y9', y10', g11, rfl⟩
      exact ⟨g11.at h10, _, _, _, _, _, _, _, _, _, _, g11.at hk10, rfl⟩
    · rintro pr4 d rest4 e m11 e4 ⟨y7', y8', y9', y10', g11, rfl⟩
      refine ⟨g11.at h10, ?_⟩
      have t11 := (hall d (by rw [e4]; simp)).kept (g11.kept n)
      obtain ⟨X, b, hX, hXY, hcr⟩ := thing8 gl gb hs ht t11 hYd.symm
      have hY11 : Sh n m11 (.ref k6) Y := fun m' g => hsY m' ((g11.kept n).trans g)
      clear hYd hsY
      sizeOf_list_dec
      refine p_sh hX (Kept.refl n m11) ?_
      sizeOf_list_dec
      refine (hcr m11 (Gr.refl _)).mono ?_
      rintro v m12 ⟨rfl, g12⟩
      sizeOf_list_dec
      refine p_sh hY11 (g12.kept n) ?_
      sizeOf_list_dec
      rw [hXY]
      refine (same_bl8 3 b b m12).mono ?_
      rintro v m13 ⟨rfl, rfl⟩
      refine p_trB ?_
      rw [beq_self_eq_true]
      sizeOf_list_dec
      refine p_sh hX (g12.kept n) ?_
      sizeOf_list_dec
      refine iteFl (by simp) ?_
      sizeOf_list_dec
      exact ⟨_, _, _, _, g11.trans g12, rfl⟩
theorem law_true (ns : List Int) (h : ns.length ≤ 63) : ∃ m', f_law [.fro (ns.map D.int)] [] = .ok (.bl true) m' := by
  obtain ⟨a, m, e, rfl⟩ := (law_post ns h).ex
  exact ⟨m, e⟩

end Lk08
namespace Lk08
open PySem PySem.Spec PyProof.Rows L2 Mi
/-! ### the law from what the top has left -/
section
variable {P : Program} {w : World} {K : PySem.W.Frag} {mg : Str → Option Value} {base : Heap}
theorem law_all (T : Top K mg) {f_1 : Addr} {d_1 : FuncData} (F_1 : Fun K "is_number" "is_number" s_is_number f_1 d_1) (m_1 : mg "is_number" = some (.ref f_1)) {f_3 : Addr} {d_3 : FuncData} (F_3 : Fun K "is_tuple_of" "is_tuple_of" s_is_tuple_of f_3 d_3) (m_3 : mg "is_tuple_of" = some (.ref f_3)) {f_4 : Addr} {d_4 : FuncData} (F_4 : Fun K "is_rising" "is_rising" s_is_rising f_4 d_4) (m_4 : mg "is_rising" = some (.ref f_4)) {f_19 : Addr} {d_19 : FuncData} (F_19 : Fun K "flights_of" "flights_of" s_flights_of f_19 d_19) (m_19 : mg "flights_of" = some (.ref f_19)) {f_36 : Addr} {d_36 : FuncData} (F_36 : Fun K "taker_behind" "taker_behind" s_taker_behind f_36 d_36) (m_36 : mg "taker_behind" = some (.ref f_36)) {f_38 : Addr} {d_38 : FuncData} (F_38 : Fun K "turn_missed" "turn_missed" s_turn_missed f_38 d_38) (m_38 : mg "turn_missed" = some (.ref f_38)) {f_39 : Addr} {d_39 : FuncData} (F_39 : Fun K "taker_in" "taker_in" s_taker_in f_39 d_39) (m_39 : mg "taker_in" = some (.ref f_39)) {f_43 : Addr} {d_43 : FuncData} (F_43 : Fun K "_law_cell" "_law_cell" s_law_cell f_43 d_43) (m_43 : mg "_law_cell" = some (.ref f_43)) {f_44 : Addr} {d_44 : FuncData} (F_44 : Fun K "_law_pen" "_law_pen" s_law_pen f_44 d_44) (m_44 : mg "_law_pen" = some (.ref f_44)) {f_45 : Addr} {d_45 : FuncData} (F_45 : Fun K "_law_draw" "_law_draw" s_law_draw f_45 d_45) (m_45 : mg "_law_draw" = some (.ref f_45)) {f_48 : Addr} {d_48 : FuncData} (F_48 : Fun K "_law_same" "_law_same" s_law_same f_48 d_48) (m_48 : mg "_law_same" = some (.ref f_48)) {f_54 : Addr} {d_54 : FuncData} (F_54 : Fun K "_law_top" "_law_top" s_law_top f_54 d_54) (m_54 : mg "_law_top" = some (.ref f_54)) {f_56 : Addr} {d_56 : FuncData} (F_56 : Fun K "_law_next" "_law_next" s_law_next f_56 d_56) (m_56 : mg "_law_next" = some (.ref f_56)) {f_2 : Addr} {d_2 : FuncData} (F_2 : Fun K "is_within" "is_within" s_is_within f_2 d_2) (m_2 : mg "is_within" = some (.ref f_2)) {f_37 : Addr} {d_37 : FuncData} (F_37 : Fun K "stretch_from" "stretch_from" s_stretch_from f_37 d_37) (m_37 : mg "stretch_from" = some (.ref f_37)) {f_41 : Addr} {d_41 : FuncData} (F_41 : Fun K "is_stretch" "is_stretch" s_is_stretch f_41 d_41) (m_41 : mg "is_stretch" = some (.ref f_41)) {f_46 : Addr} {d_46 : FuncData} (F_46 : Fun K "_law_pick" "_law_pick" s_law_pick f_46 d_46) (m_46 : mg "_law_pick" = some (.ref f_46)) {f_47 : Addr} {d_47 : FuncData} (F_47 : Fun K "_law_mixed" "_law_mixed" s_law_mixed f_47 d_47) (m_47 : mg "_law_mixed" = some (.ref f_47)) {f_55 : Addr} {d_55 : FuncData} (F_55 : Fun K "_law_runners" "_law_runners" s_law_runners f_55 d_55) (m_55 : mg "_law_runners" = some (.ref f_55)) {f_57 : Addr} {d_57 : FuncData} (F_57 : Fun K "_law_rows" "_law_rows" s_law_rows f_57 d_57) (m_57 : mg "_law_rows" = some (.ref f_57)) {f_58 : Addr} {d_58 : FuncData} (F_58 : Fun K "_law_parted" "_law_parted" s_law_parted f_58 d_58) (m_58 : mg "_law_parted" = some (.ref f_58)) {f_17 : Addr} {d_17 : FuncData} (F_17 : Fun K "is_floor_and_step" "is_floor_and_step" s_is_floor_and_step f_17 d_17) (m_17 : mg "is_floor_and_step" = some (.ref f_17)) {f_21 : Addr} {d_21 : FuncData} (F_21 : Fun K "check_price" "check_price" s_check_price f_21 d_21) (m_21 : mg "check_price" = some (.ref f_21)) {f_25 : Addr} {d_25 : FuncData} (F_25 : Fun K "is_lot" "is_lot" s_is_lot f_25 d_25) (m_25 : mg "is_lot" = some (.ref f_25)) {f_28 : Addr} {d_28 : FuncData} (F_28 : Fun K "is_buyer" "is_buyer" s_is_buyer f_28 d_28) (m_28 : mg "is_buyer" = some (.ref f_28)) {f_49 : Addr} {d_49 : FuncData} (F_49 : Fun K "_law_anything" "_law_anything" s_law_anything f_49 d_49) (m_49 : mg "_law_anything" = some (.ref f_49)) {f_50 : Addr} {d_50 : FuncData} (F_50 : Fun K "_law_ladder" "_law_ladder" s_law_ladder f_50 d_50) (m_50 : mg "_law_ladder" = some (.ref f_50)) {f_51 : Addr} {d_51 : FuncData} (F_51 : Fun K "_law_lot" "_law_lot" s_law_lot f_51 d_51) (m_51 : mg "_law_lot" = some (.ref f_51)) {f_52 : Addr} {d_52 : FuncData} (F_52 : Fun K "_law_bids" "_law_bids" s_law_bids f_52 d_52) (m_52 : mg "_law_bids" = some (.ref f_52)) {f_16 : Addr} {d_16 : FuncData} (F_16 : Fun K "is_ladder" "is_ladder" s_is_ladder f_16 d_16) (m_16 : mg "is_ladder" = some (.ref f_16)) {f_27 : Addr} {d_27 : FuncData} (F_27 : Fun K "is_bid" "is_bid" s_is_bid f_27 d_27) (m_27 : mg "is_bid" = some (.ref f_27)) {f_31 : Addr} {d_31 : FuncData} (F_31 : Fun K "check_lot" "check_lot" s_check_lot f_31 d_31) (m_31 : mg "check_lot" = some (.ref f_31)) {f_53 : Addr} {d_53 : FuncData} (F_53 : Fun K "_law_scene" "_law_scene" s_law_scene f_53 d_53) (m_53 : mg "_law_scene" = some (.ref f_53)) {f_59 : Addr} {d_59 : FuncData} (F_59 : Fun K "_law_other" "_law_other" s_law_other f_59 d_59) (m_59 : mg "_law_other" = some (.ref f_59)) {f_20 : Addr} {d_20 : FuncData} (F_20 : Fun K "check_ladder" "check_ladder" s_check_ladder f_20 d_20) (m_20 : mg "check_ladder" = some (.ref f_20)) {f_26 : Addr} {d_26 : FuncData} (F_26 : Fun K "are_bids" "are_bids" s_are_bids f_26 d_26) (m_26 : mg "are_bids" = some (.ref f_26)) {f_18 : Addr} {d_18 : FuncData} (F_18 : Fun K "last_rung" "last_rung" s_last_rung f_18 d_18) (m_18 : mg "last_rung" = some (.ref f_18)) {f_32 : Addr} {d_32 : FuncData} (F_32 : Fun K "check_bids" "check_bids" s_check_bids f_32 d_32) (m_32 : mg "check_bids" = some (.ref f_32)) {f_30 : Addr} {d_30 : FuncData} (F_30 : Fun K "check_offer" "check_offer" s_check_offer f_30 d_30) (m_30 : mg "check_offer" = some (.ref f_30)) {f_29 : Addr} {d_29 : FuncData} (F_29 : Fun K "tops_of" "tops_of" s_tops_of f_29 d_29) (m_29 : mg "tops_of" = some (.ref f_29)) {f_35 : Addr} {d_35 : FuncData} (F_35 : Fun K "tops_by_buyer" "tops_by_buyer" s_tops_by_buyer f_35 d_35) (m_35 : mg "tops_by_buyer" = some (.ref f_35)) {f_34 : Addr} {d_34 : FuncData} (F_34 : Fun K "course_of" "course_of" s_course_of f_34 d_34) (m_34 : mg "course_of" = some (.ref f_34)) {f_40 : Addr} {d_40 : FuncData} (F_40 : Fun K "is_course" "is_course" s_is_course f_40 d_40) (m_40 : mg "is_course" = some (.ref f_40)) {f_60 : Addr} {d_60 : FuncData} (F_60 : Fun K "law" "law" s_law f_60 d_60) (m_60 : mg "law" = some (.ref f_60)) : FnG P w K mg base 12 f_60 d_60 ["_law_script"] (spM ⟨K, mg⟩ 1 f_law) := by
  have c_1 := cal_is_number (P := P) (w := w) (base := base) T F_1 m_1
  have c_3 := cal_is_tuple_of (P := P) (w := w) (base := base) T F_3 m_3
  have c_4 := cal_is_rising (P := P) (w := w) (base := base) T F_4 m_4
  have c_19 := cal_flights_of (P := P) (w := w) (base := base) T F_19 m_19
  have c_36 := cal_taker_behind (P := P) (w := w) (base := base) T F_36 m_36
  have c_38 := cal_turn_missed (P := P) (w := w) (base := base) T F_38 m_38
  have c_39 := cal_taker_in (P := P) (w := w) (base := base) T F_39 m_39
  have c_43 := cal_law_cell (P := P) (w := w) (base := base) T F_43 m_43
  have c_44 := cal_law_pen (P := P) (w := w) (base := base) T F_44 m_44
  have c_45 := cal_law_draw (P := P) (w := w) (base := base) T F_45 m_45
  have c_48 := cal_law_same (P := P) (w := w) (base := base) T F_48 m_48 4
  have c_54 := cal_law_top (P := P) (w := w) (base := base) T F_54 m_54
  have c_56 := cal_law_next (P := P) (w := w) (base := base) T F_56 m_56
  have c_2 := cal_is_within (P := P) (w := w) (base := base) T F_2 m_2 c_1
  have c_37 := cal_stretch_from (P := P) (w := w) (base := base) T F_37 m_37 c_36 c_38
  have c_41 := cal_is_stretch (P := P) (w := w) (base := base) T F_41 m_41 c_1
  have c_46 := cal_law_pick (P := P) (w := w) (base := base) T F_46 m_46 c_45
  have c_47 := cal_law_mixed (P := P) (w := w) (base := base) T F_47 m_47 c_45
  have c_55 := cal_law_runners (P := P) (w := w) (base := base) T F_55 m_55 c_54
  have c_57 := cal_law_rows (P := P) (w := w) (base := base) T F_57 m_57 c_56
  have c_58 := cal_law_parted (P := P) (w := w) (base := base) T F_58 m_58 c_45
  have c_17 := cal_is_floor_and_step (P := P) (w := w) (base := base) T F_17 m_17 c_3 c_2
  have c_21 := cal_check_price (P := P) (w := w) (base := base) T F_21 m_21 c_2
  have c_25 := cal_is_lot (P := P) (w := w) (base := base) T F_25 m_25 c_3 c_2
  have c_28 := cal_is_buyer (P := P) (w := w) (base := base) T F_28 m_28 c_2
  have c_49 := cal_law_anything (P := P) (w := w) (base := base) T F_49 m_49 c_46
  have c_50 := cal_law_ladder (P := P) (w := w) (base := base) T F_50 m_50 c_45 c_46
  have c_51 := cal_law_lot (P := P) (w := w) (base := base) T F_51 m_51 c_45 c_46
  have c_52 := cal_law_bids (P := P) (w := w) (base := base) T F_52 m_52 c_45 c_46 c_47
  have c_16 := cal_is_ladder (P := P) (w := w) (base := base) T F_16 m_16 c_3 c_4 c_17
  have c_27 := cal_is_bid (P := P) (w := w) (base := base) T F_27 m_27 c_3 c_2 c_28
  have c_31 := cal_check_lot (P := P) (w := w) (base := base) T F_31 m_31 c_25
  have c_53 := cal_law_scene (P := P) (w := w) (base := base) T F_53 m_53 c_50 c_51 c_52
  have c_59 := cal_law_other (P := P) (w := w) (base := base) T F_59 m_59 c_45 c_46 c_58 c_49
  have c_20 := cal_check_ladder (P := P) (w := w) (base := base) T F_20 m_20 c_16
  have c_26 := cal_are_bids (P := P) (w := w) (base := base) T F_26 m_26 c_3 c_27
  have c_18 := cal_last_rung (P := P) (w := w) (base := base) T F_18 m_18 c_19 c_21 c_20
  have c_32 := cal_check_bids (P := P) (w := w) (base := base) T F_32 m_32 c_26
  have c_30 := cal_check_offer (P := P) (w := w) (base := base) T F_30 m_30 c_31 c_20 c_32
  have c_29 := cal_tops_of (P := P) (w := w) (base := base) T F_29 m_29 c_18 c_30
  have c_35 := cal_tops_by_buyer (P := P) (w := w) (base := base) T F_35 m_35 c_29
  have c_34 := cal_course_of (P := P) (w := w) (base := base) T F_34 m_34 c_36 c_39 c_37 c_35
  have c_40 := cal_is_course (P := P) (w := w) (base := base) T F_40 m_40 c_41 c_34
  exact ok_law T F_60 m_60 c_43 c_44 c_48 c_46 c_55 c_57 c_53 c_59 c_40
end
theorem all_mk {l : PySem.W.OpenLaw} {w : World} {K : PySem.W.Frag} {h : Heap} {mg : Str → Option Value} {fa : Addr} {f1 : Addr} {od1 an1 : Option Addr} {sl1 : Array (Option Value)} {oc1 kv1 dc1 pm1 cd1 ct1 : Value} {f3 : Addr} {od3 an3 : Option Addr} {sl3 : Array (Option Value)} {oc3 kv3 dc3 pm3 cd3 ct3 : Value} {f4 : Addr} {od4 an4 : Option Addr} {sl4 : Array (Option Value)} {oc4 kv4 dc4 pm4 cd4 ct4 : Value} {f19 : Addr} {od19 an19 : Option Addr} {sl19 : Array (Option Value)} {oc19 kv19 dc19 pm19 cd19 ct19 : Value} {f36 : Addr} {od36 an36 : Option Addr} {sl36 : Array (Option Value)} {oc36 kv36 dc36 pm36 cd36 ct36 : Value} {f38 : Addr} {od38 an38 : Option Addr} {sl38 : Array (Option Value)} {oc38 kv38 dc38 pm38 cd38 ct38 : Value} {f39 : Addr} {od39 an39 : Option Addr} {sl39 : Array (Option Value)} {oc39 kv39 dc39 pm39 cd39 ct39 : Value} {f43 : Addr} {od43 an43 : Option Addr} {sl43 : Array (Option Value)} {oc43 kv43 dc43 pm43 cd43 ct43 : Value} {f44 : Addr} {od44 an44 : Option Addr} {sl44 : Array (Option Value)} {oc44 kv44 dc44 pm44 cd44 ct44 : Value} {f45 : Addr} {od45 an45 : Option Addr} {sl45 : Array (Option Value)} {oc45 kv45 dc45 pm45 cd45 ct45 : Value} {f48 : Addr} {od48 an48 : Option Addr} {sl48 : Array (Option Value)} {oc48 kv48 dc48 pm48 cd48 ct48 : Value} {f54 : Addr} {od54 an54 : Option Addr} {sl54 : Array (Option Value)} {oc54 kv54 dc54 pm54 cd54 ct54 : Value} {f56 : Addr} {od56 an56 : Option Addr} {sl56 : Array (Option Value)} {oc56 kv56 dc56 pm56 cd56 ct56 : Value} {f2 : Addr} {od2 an2 : Option Addr} {sl2 : Array (Option Value)} {oc2 kv2 dc2 pm2 cd2 ct2 : Value} {f37 : Addr} {od37 an37 : Option Addr} {sl37 : Array (Option Value)} {oc37 kv37 dc37 pm37 cd37 ct37 : Value} {f41 : Addr} {od41 an41 : Option Addr} {sl41 : Array (Option Value)} {oc41 kv41 dc41 pm41 cd41 ct41 : Value} {f46 : Addr} {od46 an46 : Option Addr} {sl46 : Array (Option Value)} {oc46 kv46 dc46 pm46 cd46 ct46 : Value} {f47 : Addr} {od47 an47 : Option Addr} {sl47 : Array (Option Value)} {oc47 kv47 dc47 pm47 cd47 ct47 : Value} {f55 : Addr} {od55 an55 : Option Addr} {sl55 : Array (Option Value)} {oc55 kv55 dc55 pm55 cd55 ct55 : Value} {f57 : Addr} {od57 an57 : Option Addr} {sl57 : Array (Option Value)} {oc57 kv57 dc57 pm57 cd57 ct57 : Value} {f58 : Addr} {od58 an58 : Option Addr} {sl58 : Array (Option Value)} {oc58 kv58 dc58 pm58 cd58 ct58 : Value} {f17 : Addr} {od17 an17 : Option Addr} {sl17 : Array (Option Value)} {oc17 kv17 dc17 pm17 cd17 ct17 : Value} {f21 : Addr} {od21 an21 : Option Addr} {sl21 : Array (Option Value)} {oc21 kv21 dc21 pm21 cd21 ct21 : Value} {f25 : Addr} {od25 an25 : Option Addr} {sl25 : Array (Option Value)} {oc25 kv25 dc25 pm25 cd25 ct25 : Value} {f28 : Addr} {od28 an28 : Option Addr} {sl28 : Array (Option Value)} {oc28 kv28 dc28 pm28 cd28 ct28 : Value} {f49 : Addr} {od49 an49 : Option Addr} {sl49 : Array (Option Value)} {oc49 kv49 dc49 pm49 cd49 ct49 : Value} {f50 : Addr} {od50 an50 : Option Addr} {sl50 : Array (Option Value)} {oc50 kv50 dc50 pm50 cd50 ct50 : Value} {f51 : Addr} {od51 an51 : Option Addr} {sl51 : Array (Option Value)} {oc51 kv51 dc51 pm51 cd51 ct51 : Value} {f52 : Addr} {od52 an52 : Option Addr} {sl52 : Array (Option Value)} {oc52 kv52 dc52 pm52 cd52 ct52 : Value} {f16 : Addr} {od16 an16 : Option Addr} {sl16 : Array (Option Value)} {oc16 kv16 dc16 pm16 cd16 ct16 : Value} {f27 : Addr} {od27 an27 : Option Addr} {sl27 : Array (Option Value)} {oc27 kv27 dc27 pm27 cd27 ct27 : Value} {f31 : Addr} {od31 an31 : Option Addr} {sl31 : Array (Option Value)} {oc31 kv31 dc31 pm31 cd31 ct31 : Value} {f53 : Addr} {od53 an53 : Option Addr} {sl53 : Array (Option Value)} {oc53 kv53 dc53 pm53 cd53 ct53 : Value} {f59 : Addr} {od59 an59 : Option Addr} {sl59 : Array (Option Value)} {oc59 kv59 dc59 pm59 cd59 ct59 : Value} {f20 : Addr} {od20 an20 : Option Addr} {sl20 : Array (Option Value)} {oc20 kv20 dc20 pm20 cd20 ct20 : Value} {f26 : Addr} {od26 an26 : Option Addr} {sl26 : Array (Option Value)} {oc26 kv26 dc26 pm26 cd26 ct26 : Value} {f18 : Addr} {od18 an18 : Option Addr} {sl18 : Array (Option Value)} {oc18 kv18 dc18 pm18 cd18 ct18 : Value} {f32 : Addr} {od32 an32 : Option Addr} {sl32 : Array (Option Value)} {oc32 kv32 dc32 pm32 cd32 ct32 : Value} {f30 : Addr} {od30 an30 : Option Addr} {sl30 : Array (Option Value)} {oc30 kv30 dc30 pm30 cd30 ct30 : Value} {f29 : Addr} {od29 an29 : Option Addr} {sl29 : Array (Option Value)} {oc29 kv29 dc29 pm29 cd29 ct29 : Value} {f35 : Addr} {od35 an35 : Option Addr} {sl35 : Array (Option Value)} {oc35 kv35 dc35 pm35 cd35 ct35 : Value} {f34 : Addr} {od34 an34 : Option Addr} {sl34 : Array (Option Value)} {oc34 kv34 dc34 pm34 cd34 ct34 : Value} {f40 : Addr} {od40 an40 : Option Addr} {sl40 : Array (Option Value)} {oc40 kv40 dc40 pm40 cd40 ct40 : Value} {f60 : Addr} {od60 an60 : Option Addr} {sl60 : Array (Option Value)} {oc60 kv60 dc60 pm60 cd60 ct60 : Value} {t_MOST_FLOORS : Tok} {t_GREATEST_BUYER : Tok} {t_MOST_BIDS : Tok} (X : K.In h) (G : h.Ns mainGlobals mg) (hfa : mg "law" = some (.ref fa))
    (a1 : PySem.W.nsIn K mainGlobals "is_number" = some (some (.ref f1))) (l1 : K.lookup f1 = some ⟨oc1, od1, .func (PySem.W.fnOf "is_number" "is_number" (defArgs s_is_number) (defBody s_is_number) (defScope s_is_number) .none kv1 dc1 pm1 an1 cd1 ct1), sl1⟩) (c1 : PySem.W.codeIn K cd1 "is_number" = true) (k1 : PySem.W.keepIn K (.ref f1) = true)
    (a3 : PySem.W.nsIn K mainGlobals "is_tuple_of" = some (some (.ref f3))) (l3 : K.lookup f3 = some ⟨oc3, od3, .func (PySem.W.fnOf "is_tuple_of" "is_tuple_of" (defArgs s_is_tuple_of) (defBody s_is_tuple_of) (defScope s_is_tuple_of) .none kv3 dc3 pm3 an3 cd3 ct3), sl3⟩) (c3 : PySem.W.codeIn K cd3 "is_tuple_of" = true) (k3 : PySem.W.keepIn K (.ref f3) = true)
    (a4 : PySem.W.nsIn K mainGlobals "is_rising" = some (some (.ref f4))) (l4 : K.lookup f4 = some ⟨oc4, od4, .func (PySem.W.fnOf "is_rising" "is_rising" (defArgs s_is_rising) (defBody s_is_rising) (defScope s_is_rising) .none kv4 dc4 pm4 an4 cd4 ct4), sl4⟩) (c4 : PySem.W.codeIn K cd4 "is_rising" = true) (k4 : PySem.W.keepIn K (.ref f4) = true)
    (a19 : PySem.W.nsIn K mainGlobals "flights_of" = some (some (.ref f19))) (l19 : K.lookup f19 = some ⟨oc19, od19, .func (PySem.W.fnOf "flights_of" "flights_of" (defArgs s_flights_of) (defBody s_flights_of) (defScope s_flights_of) .none kv19 dc19 pm19 an19 cd19 ct19), sl19⟩) (c19 : PySem.W.codeIn K cd19 "flights_of" = true) (k19 : PySem.W.keepIn K (.ref f19) = true)
    (a36 : PySem.W.nsIn K mainGlobals "taker_behind" = some (some (.ref f36))) (l36 : K.lookup f36 = some ⟨oc36, od36, .func (PySem.W.fnOf "taker_behind" "taker_behind" (defArgs s_taker_behind) (defBody s_taker_behind) (defScope s_taker_behind) .none kv36 dc36 pm36 an36 cd36 ct36), sl36⟩) (c36 : PySem.W.codeIn K cd36 "taker_behind" = true) (k36 : PySem.W.keepIn K (.ref f36) = true)
    (a38 : PySem.W.nsIn K mainGlobals "turn_missed" = some (some (.ref f38))) (l38 : K.lookup f38 = some ⟨oc38, od38, .func (PySem.W.fnOf "turn_missed" "turn_missed" (defArgs s_turn_missed) (defBody s_turn_missed) (defScope s_turn_missed) .none kv38 dc38 pm38 an38 cd38 ct38), sl38⟩) (c38 : PySem.W.codeIn K cd38 "turn_missed" = true) (k38 : PySem.W.keepIn K (.ref f38) = true)
    (a39 : PySem.W.nsIn K mainGlobals "taker_in" = some (some (.ref f39))) (l39 : K.lookup f39 = some ⟨oc39, od39, .func (PySem.W.fnOf "taker_in" "taker_in" (defArgs s_taker_in) (defBody s_taker_in) (defScope s_taker_in) .none kv39 dc39 pm39 an39 cd39 ct39), sl39⟩) (c39 : PySem.W.codeIn K cd39 "taker_in" = true) (k39 : PySem.W.keepIn K (.ref f39) = true)
    (a43 : PySem.W.nsIn K mainGlobals "_law_cell" = some (some (.ref f43))) (l43 : K.lookup f43 = some ⟨oc43, od43, .func (PySem.W.fnOf "_law_cell" "_law_cell" (defArgs s_law_cell) (defBody s_law_cell) (defScope s_law_cell) .none kv43 dc43 pm43 an43 cd43 ct43), sl43⟩) (c43 : PySem.W.codeIn K cd43 "_law_cell" = true) (k43 : PySem.W.keepIn K (.ref f43) = true)
    (a44 : PySem.W.nsIn K mainGlobals "_law_pen" = some (some (.ref f44))) (l44 : K.lookup f44 = some ⟨oc44, od44, .func (PySem.W.fnOf "_law_pen" "_law_pen" (defArgs s_law_pen) (defBody s_law_pen) (defScope s_law_pen) .none kv44 dc44 pm44 an44 cd44 ct44), sl44⟩) (c44 : PySem.W.codeIn K cd44 "_law_pen" = true) (k44 : PySem.W.keepIn K (.ref f44) = true)
    (a45 : PySem.W.nsIn K mainGlobals "_law_draw" = some (some (.ref f45))) (l45 : K.lookup f45 = some ⟨oc45, od45, .func (PySem.W.fnOf "_law_draw" "_law_draw" (defArgs s_law_draw) (defBody s_law_draw) (defScope s_law_draw) .none kv45 dc45 pm45 an45 cd45 ct45), sl45⟩) (c45 : PySem.W.codeIn K cd45 "_law_draw" = true) (k45 : PySem.W.keepIn K (.ref f45) = true)
    (a48 : PySem.W.nsIn K mainGlobals "_law_same" = some (some (.ref f48))) (l48 : K.lookup f48 = some ⟨oc48, od48, .func (PySem.W.fnOf "_law_same" "_law_same" (defArgs s_law_same) (defBody s_law_same) (defScope s_law_same) .none kv48 dc48 pm48 an48 cd48 ct48), sl48⟩) (c48 : PySem.W.codeIn K cd48 "_law_same" = true) (k48 : PySem.W.keepIn K (.ref f48) = true)
    (a54 : PySem.W.nsIn K mainGlobals "_law_top" = some (some (.ref f54))) (l54 : K.lookup f54 = some ⟨oc54, od54, .func (PySem.W.fnOf "_law_top" "_law_top" (defArgs s_law_top) (defBody s_law_top) (defScope s_law_top) .none kv54 dc54 pm54 an54 cd54 ct54), sl54⟩) (c54 : PySem.W.codeIn K cd54 "_law_top" = true) (k54 : PySem.W.keepIn K (.ref f54) = true)
    (a56 : PySem.W.nsIn K mainGlobals "_law_next" = some (some (.ref f56))) (l56 : K.lookup f56 = some ⟨oc56, od56, .func (PySem.W.fnOf "_law_next" "_law_next" (defArgs s_law_next) (defBody s_law_next) (defScope s_law_next) .none kv56 dc56 pm56 an56 cd56 ct56), sl56⟩) (c56 : PySem.W.codeIn K cd56 "_law_next" = true) (k56 : PySem.W.keepIn K (.ref f56) = true)
    (a2 : PySem.W.nsIn K mainGlobals "is_within" = some (some (.ref f2))) (l2 : K.lookup f2 = some ⟨oc2, od2, .func (PySem.W.fnOf "is_within" "is_within" (defArgs s_is_within) (defBody s_is_within) (defScope s_is_within) .none kv2 dc2 pm2 an2 cd2 ct2), sl2⟩) (c2 : PySem.W.codeIn K cd2 "is_within" = true) (k2 : PySem.W.keepIn K (.ref f2) = true)
    (a37 : PySem.W.nsIn K mainGlobals "stretch_from" = some (some (.ref f37))) (l37 : K.lookup f37 = some ⟨oc37, od37, .func (PySem.W.fnOf "stretch_from" "stretch_from" (defArgs s_stretch_from) (defBody s_stretch_from) (defScope s_stretch_from) .none kv37 dc37 pm37 an37 cd37 ct37), sl37⟩) (c37 : PySem.W.codeIn K cd37 "stretch_from" = true) (k37 : PySem.W.keepIn K (.ref f37) = true)
    (a41 : PySem.W.nsIn K mainGlobals "is_stretch" = some (some (.ref f41))) (l41 : K.lookup f41 = some ⟨oc41, od41, .func (PySem.W.fnOf "is_stretch" "is_stretch" (defArgs s_is_stretch) (defBody s_is_stretch) (defScope s_is_stretch) .none kv41 dc41 pm41 an41 cd41 ct41), sl41⟩) (c41 : PySem.W.codeIn K cd41 "is_stretch" = true) (k41 : PySem.W.keepIn K (.ref f41) = true)
    (a46 : PySem.W.nsIn K mainGlobals "_law_pick" = some (some (.ref f46))) (l46 : K.lookup f46 = some ⟨oc46, od46, .func (PySem.W.fnOf "_law_pick" "_law_pick" (defArgs s_law_pick) (defBody s_law_pick) (defScope s_law_pick) .none kv46 dc46 pm46 an46 cd46 ct46), sl46⟩) (c46 : PySem.W.codeIn K cd46 "_law_pick" = true) (k46 : PySem.W.keepIn K (.ref f46) = true)
    (a47 : PySem.W.nsIn K mainGlobals "_law_mixed" = some (some (.ref f47))) (l47 : K.lookup f47 = some ⟨oc47, od47, .func (PySem.W.fnOf "_law_mixed" "_law_mixed" (defArgs s_law_mixed) (defBody s_law_mixed) (defScope s_law_mixed) .none kv47 dc47 pm47 an47 cd47 ct47), sl47⟩) (c47 : PySem.W.codeIn K cd47 "_law_mixed" = true) (k47 : PySem.W.keepIn K (.ref f47) = true)
    (a55 : PySem.W.nsIn K mainGlobals "_law_runners" = some (some (.ref f55))) (l55 : K.lookup f55 = some ⟨oc55, od55, .func (PySem.W.fnOf "_law_runners" "_law_runners" (defArgs s_law_runners) (defBody s_law_runners) (defScope s_law_runners) .none kv55 dc55 pm55 an55 cd55 ct55), sl55⟩) (c55 : PySem.W.codeIn K cd55 "_law_runners" = true) (k55 : PySem.W.keepIn K (.ref f55) = true)
    (a57 : PySem.W.nsIn K mainGlobals "_law_rows" = some (some (.ref f57))) (l57 : K.lookup f57 = some ⟨oc57, od57, .func (PySem.W.fnOf "_law_rows" "_law_rows" (defArgs s_law_rows) (defBody s_law_rows) (defScope s_law_rows) .none kv57 dc57 pm57 an57 cd57 ct57), sl57⟩) (c57 : PySem.W.codeIn K cd57 "_law_rows" = true) (k57 : PySem.W.keepIn K (.ref f57) = true)
    (a58 : PySem.W.nsIn K mainGlobals "_law_parted" = some (some (.ref f58))) (l58 : K.lookup f58 = some ⟨oc58, od58, .func (PySem.W.fnOf "_law_parted" "_law_parted" (defArgs s_law_parted) (defBody s_law_parted) (defScope s_law_parted) .none kv58 dc58 pm58 an58 cd58 ct58), sl58⟩) (c58 : PySem.W.codeIn K cd58 "_law_parted" = true) (k58 : PySem.W.keepIn K (.ref f58) = true)
    (a17 : PySem.W.nsIn K mainGlobals "is_floor_and_step" = some (some (.ref f17))) (l17 : K.lookup f17 = some ⟨oc17, od17, .func (PySem.W.fnOf "is_floor_and_step" "is_floor_and_step" (defArgs s_is_floor_and_step) (defBody s_is_floor_and_step) (defScope s_is_floor_and_step) .none kv17 dc17 pm17 an17 cd17 ct17), sl17⟩) (c17 : PySem.W.codeIn K cd17 "is_floor_and_step" = true) (k17 : PySem.W.keepIn K (.ref f17) = true)
    (a21 : PySem.W.nsIn K mainGlobals "check_price" = some (some (.ref f21))) (l21 : K.lookup f21 = some ⟨oc21, od21, .func (PySem.W.fnOf "check_price" "check_price" (defArgs s_check_price) (defBody s_check_price) (defScope s_check_price) .none kv21 dc21 pm21 an21 cd21 ct21), sl21⟩) (c21 : PySem.W.codeIn K cd21 "check_price" = true) (k21 : PySem.W.keepIn K (.ref f21) = true)
    (a25 : PySem.W.nsIn K mainGlobals "is_lot" = some (some (.ref f25))) (l25 : K.lookup f25 = some ⟨oc25, od25, .func (PySem.W.fnOf "is_lot" "is_lot" (defArgs s_is_lot) (defBody s_is_lot) (defScope s_is_lot) .none kv25 dc25 pm25 an25 cd25 ct25), sl25⟩) (c25 : PySem.W.codeIn K cd25 "is_lot" = true) (k25 : PySem.W.keepIn K (.ref f25) = true)
    (a28 : PySem.W.nsIn K mainGlobals "is_buyer" = some (some (.ref f28))) (l28 : K.lookup f28 = some ⟨oc28, od28, .func (PySem.W.fnOf "is_buyer" "is_buyer" (defArgs s_is_buyer) (defBody s_is_buyer) (defScope s_is_buyer) .none kv28 dc28 pm28 an28 cd28 ct28), sl28⟩) (c28 : PySem.W.codeIn K cd28 "is_buyer" = true) (k28 : PySem.W.keepIn K (.ref f28) = true)
    (a49 : PySem.W.nsIn K mainGlobals "_law_anything" = some (some (.ref f49))) (l49 : K.lookup f49 = some ⟨oc49, od49, .func (PySem.W.fnOf "_law_anything" "_law_anything" (defArgs s_law_anything) (defBody s_law_anything) (defScope s_law_anything) .none kv49 dc49 pm49 an49 cd49 ct49), sl49⟩) (c49 : PySem.W.codeIn K cd49 "_law_anything" = true) (k49 : PySem.W.keepIn K (.ref f49) = true)
    (a50 : PySem.W.nsIn K mainGlobals "_law_ladder" = some (some (.ref f50))) (l50 : K.lookup f50 = some ⟨oc50, od50, .func (PySem.W.fnOf "_law_ladder" "_law_ladder" (defArgs s_law_ladder) (defBody s_law_ladder) (defScope s_law_ladder) .none kv50 dc50 pm50 an50 cd50 ct50), sl50⟩) (c50 : PySem.W.codeIn K cd50 "_law_ladder" = true) (k50 : PySem.W.keepIn K (.ref f50) = true)
    (a51 : PySem.W.nsIn K mainGlobals "_law_lot" = some (some (.ref f51))) (l51 : K.lookup f51 = some ⟨oc51, od51, .func (PySem.W.fnOf "_law_lot" "_law_lot" (defArgs s_law_lot) (defBody s_law_lot) (defScope s_law_lot) .none kv51 dc51 pm51 an51 cd51 ct51), sl51⟩) (c51 : PySem.W.codeIn K cd51 "_law_lot" = true) (k51 : PySem.W.keepIn K (.ref f51) = true)
    (a52 : PySem.W.nsIn K mainGlobals "_law_bids" = some (some (.ref f52))) (l52 : K.lookup f52 = some ⟨oc52, od52, .func (PySem.W.fnOf "_law_bids" "_law_bids" (defArgs s_law_bids) (defBody s_law_bids) (defScope s_law_bids) .none kv52 dc52 pm52 an52 cd52 ct52), sl52⟩) (c52 : PySem.W.codeIn K cd52 "_law_bids" = true) (k52 : PySem.W.keepIn K (.ref f52) = true)
    (a16 : PySem.W.nsIn K mainGlobals "is_ladder" = some (some (.ref f16))) (l16 : K.lookup f16 = some ⟨oc16, od16, .func (PySem.W.fnOf "is_ladder" "is_ladder" (defArgs s_is_ladder) (defBody s_is_ladder) (defScope s_is_ladder) .none kv16 dc16 pm16 an16 cd16 ct16), sl16⟩) (c16 : PySem.W.codeIn K cd16 "is_ladder" = true) (k16 : PySem.W.keepIn K (.ref f16) = true)
    (a27 : PySem.W.nsIn K mainGlobals "is_bid" = some (some (.ref f27))) (l27 : K.lookup f27 = some ⟨oc27, od27, .func (PySem.W.fnOf "is_bid" "is_bid" (defArgs s_is_bid) (defBody s_is_bid) (defScope s_is_bid) .none kv27 dc27 pm27 an27 cd27 ct27), sl27⟩) (c27 : PySem.W.codeIn K cd27 "is_bid" = true) (k27 : PySem.W.keepIn K (.ref f27) = true)
    (a31 : PySem.W.nsIn K mainGlobals "check_lot" = some (some (.ref f31))) (l31 : K.lookup f31 = some ⟨oc31, od31, .func (PySem.W.fnOf "check_lot" "check_lot" (defArgs s_check_lot) (defBody s_check_lot) (defScope s_check_lot) .none kv31 dc31 pm31 an31 cd31 ct31), sl31⟩) (c31 : PySem.W.codeIn K cd31 "check_lot" = true) (k31 : PySem.W.keepIn K (.ref f31) = true)
    (a53 : PySem.W.nsIn K mainGlobals "_law_scene" = some (some (.ref f53))) (l53 : K.lookup f53 = some ⟨oc53, od53, .func (PySem.W.fnOf "_law_scene" "_law_scene" (defArgs s_law_scene) (defBody s_law_scene) (defScope s_law_scene) .none kv53 dc53 pm53 an53 cd53 ct53), sl53⟩) (c53 : PySem.W.codeIn K cd53 "_law_scene" = true) (k53 : PySem.W.keepIn K (.ref f53) = true)
    (a59 : PySem.W.nsIn K mainGlobals "_law_other" = some (some (.ref f59))) (l59 : K.lookup f59 = some ⟨oc59, od59, .func (PySem.W.fnOf "_law_other" "_law_other" (defArgs s_law_other) (defBody s_law_other) (defScope s_law_other) .none kv59 dc59 pm59 an59 cd59 ct59), sl59⟩) (c59 : PySem.W.codeIn K cd59 "_law_other" = true) (k59 : PySem.W.keepIn K (.ref f59) = true)
    (a20 : PySem.W.nsIn K mainGlobals "check_ladder" = some (some (.ref f20))) (l20 : K.lookup f20 = some ⟨oc20, od20, .func (PySem.W.fnOf "check_ladder" "check_ladder" (defArgs s_check_ladder) (defBody s_check_ladder) (defScope s_check_ladder) .none kv20 dc20 pm20 an20 cd20 ct20), sl20⟩) (c20 : PySem.W.codeIn K cd20 "check_ladder" = true) (k20 : PySem.W.keepIn K (.ref f20) = true)
    (a26 : PySem.W.nsIn K mainGlobals "are_bids" = some (some (.ref f26))) (l26 : K.lookup f26 = some ⟨oc26, od26, .func (PySem.W.fnOf "are_bids" "are_bids" (defArgs s_are_bids) (defBody s_are_bids) (defScope s_are_bids) .none kv26 dc26 pm26 an26 cd26 ct26), sl26⟩) (c26 : PySem.W.codeIn K cd26 "are_bids" = true) (k26 : PySem.W.keepIn K (.ref f26) = true)
    (a18 : PySem.W.nsIn K mainGlobals "last_rung" = some (some (.ref f18))) (l18 : K.lookup f18 = some ⟨oc18, od18, .func (PySem.W.fnOf "last_rung" "last_rung" (defArgs s_last_rung) (defBody s_last_rung) (defScope s_last_rung) .none kv18 dc18 pm18 an18 cd18 ct18), sl18⟩) (c18 : PySem.W.codeIn K cd18 "last_rung" = true) (k18 : PySem.W.keepIn K (.ref f18) = true)
    (a32 : PySem.W.nsIn K mainGlobals "check_bids" = some (some (.ref f32))) (l32 : K.lookup f32 = some ⟨oc32, od32, .func (PySem.W.fnOf "check_bids" "check_bids" (defArgs s_check_bids) (defBody s_check_bids) (defScope s_check_bids) .none kv32 dc32 pm32 an32 cd32 ct32), sl32⟩) (c32 : PySem.W.codeIn K cd32 "check_bids" = true) (k32 : PySem.W.keepIn K (.ref f32) = true)
    (a30 : PySem.W.nsIn K mainGlobals "check_offer" = some (some (.ref f30))) (l30 : K.lookup f30 = some ⟨oc30, od30, .func (PySem.W.fnOf "check_offer" "check_offer" (defArgs s_check_offer) (defBody s_check_offer) (defScope s_check_offer) .none kv30 dc30 pm30 an30 cd30 ct30), sl30⟩) (c30 : PySem.W.codeIn K cd30 "check_offer" = true) (k30 : PySem.W.keepIn K (.ref f30) = true)
    (a29 : PySem.W.nsIn K mainGlobals "tops_of" = some (some (.ref f29))) (l29 : K.lookup f29 = some ⟨oc29, od29, .func (PySem.W.fnOf "tops_of" "tops_of" (defArgs s_tops_of) (defBody s_tops_of) (defScope s_tops_of) .none kv29 dc29 pm29 an29 cd29 ct29), sl29⟩) (c29 : PySem.W.codeIn K cd29 "tops_of" = true) (k29 : PySem.W.keepIn K (.ref f29) = true)
    (a35 : PySem.W.nsIn K mainGlobals "tops_by_buyer" = some (some (.ref f35))) (l35 : K.lookup f35 = some ⟨oc35, od35, .func (PySem.W.fnOf "tops_by_buyer" "tops_by_buyer" (defArgs s_tops_by_buyer) (defBody s_tops_by_buyer) (defScope s_tops_by_buyer) .none kv35 dc35 pm35 an35 cd35 ct35), sl35⟩) (c35 : PySem.W.codeIn K cd35 "tops_by_buyer" = true) (k35 : PySem.W.keepIn K (.ref f35) = true)
    (a34 : PySem.W.nsIn K mainGlobals "course_of" = some (some (.ref f34))) (l34 : K.lookup f34 = some ⟨oc34, od34, .func (PySem.W.fnOf "course_of" "course_of" (defArgs s_course_of) (defBody s_course_of) (defScope s_course_of) .none kv34 dc34 pm34 an34 cd34 ct34), sl34⟩) (c34 : PySem.W.codeIn K cd34 "course_of" = true) (k34 : PySem.W.keepIn K (.ref f34) = true)
    (a40 : PySem.W.nsIn K mainGlobals "is_course" = some (some (.ref f40))) (l40 : K.lookup f40 = some ⟨oc40, od40, .func (PySem.W.fnOf "is_course" "is_course" (defArgs s_is_course) (defBody s_is_course) (defScope s_is_course) .none kv40 dc40 pm40 an40 cd40 ct40), sl40⟩) (c40 : PySem.W.codeIn K cd40 "is_course" = true) (k40 : PySem.W.keepIn K (.ref f40) = true)
    (a60 : PySem.W.nsIn K mainGlobals "law" = some (some (.ref f60))) (l60 : K.lookup f60 = some ⟨oc60, od60, .func (PySem.W.fnOf "law" "law" (defArgs s_law) (defBody s_law) (defScope s_law) .none kv60 dc60 pm60 an60 cd60 ct60), sl60⟩) (c60 : PySem.W.codeIn K cd60 "law" = true) (k60 : PySem.W.keepIn K (.ref f60) = true)
    (z_all : PySem.W.nsIn K mainGlobals "all" = some none)
    (z_bool : PySem.W.nsIn K mainGlobals "bool" = some none)
    (z_enumerate : PySem.W.nsIn K mainGlobals "enumerate" = some none)
    (z_int : PySem.W.nsIn K mainGlobals "int" = some none)
    (z_isinstance : PySem.W.nsIn K mainGlobals "isinstance" = some none)
    (z_len : PySem.W.nsIn K mainGlobals "len" = some none)
    (z_list : PySem.W.nsIn K mainGlobals "list" = some none)
    (z_max : PySem.W.nsIn K mainGlobals "max" = some none)
    (z_min : PySem.W.nsIn K mainGlobals "min" = some none)
    (z_range : PySem.W.nsIn K mainGlobals "range" = some none)
    (z_repr : PySem.W.nsIn K mainGlobals "repr" = some none)
    (z_sorted : PySem.W.nsIn K mainGlobals "sorted" = some none)
    (z_tuple : PySem.W.nsIn K mainGlobals "tuple" = some none)
    (z_zip : PySem.W.nsIn K mainGlobals "zip" = some none)
    (x_MOST_FLOORS : PySem.W.nsIn K mainGlobals "MOST_FLOORS" = some (some (.int 4 t_MOST_FLOORS)))
    (x_GREATEST_FLOOR : ∃ t, mg "GREATEST_FLOOR" = some (.int 1000000 t))
    (x_GREATEST_STEP : ∃ t, mg "GREATEST_STEP" = some (.int 100000 t))
    (x_GREATEST_BOUND : ∃ t, mg "GREATEST_BOUND" = some (.int 1000000 t))
    (x_GREATEST_BUYER : PySem.W.nsIn K mainGlobals "GREATEST_BUYER" = some (some (.int 7 t_GREATEST_BUYER)))
    (x_MOST_BIDS : PySem.W.nsIn K mainGlobals "MOST_BIDS" = some (some (.int 8 t_MOST_BIDS))) :
    ∃ fd : FuncData, (∀ (s : Shared) (v : Value), BindsTo s fd ⟨[v], []⟩ [("_law_script", v)]) ∧ ∀ base : Heap, K.In base → base.Ns mainGlobals mg → FnG l.prog w K mg base 12 fa fd ["_law_script"] (spLaw K) := by
  have e := hfa.symm.trans (PySem.W.mg_of X G a60)
  cases e
  have T : Top K mg := ⟨PySem.W.mg_none_of X G z_all, PySem.W.mg_none_of X G z_bool, PySem.W.mg_none_of X G z_enumerate, PySem.W.mg_none_of X G z_int, PySem.W.mg_none_of X G z_isinstance, PySem.W.mg_none_of X G z_len, PySem.W.mg_none_of X G z_list, PySem.W.mg_none_of X G z_max, PySem.W.mg_none_of X G z_min, PySem.W.mg_none_of X G z_range, PySem.W.mg_none_of X G z_repr, PySem.W.mg_none_of X G z_sorted, PySem.W.mg_none_of X G z_tuple, PySem.W.mg_none_of X G z_zip, ⟨_, PySem.W.mg_of X G x_MOST_FLOORS⟩, x_GREATEST_FLOOR, x_GREATEST_STEP, x_GREATEST_BOUND, ⟨_, PySem.W.mg_of X G x_GREATEST_BUYER⟩, ⟨_, PySem.W.mg_of X G x_MOST_BIDS⟩⟩
  refine ⟨PySem.W.fnOf "law" "law" (defArgs s_law) (defBody s_law) (defScope s_law) .none kv60 dc60 pm60 an60 cd60 ct60, fun s v => .of_eq rfl, fun base _ _ => ?_⟩
  exact (law_all T (fun_mk (st := s_is_number) l1 c1 k1) (PySem.W.mg_of X G a1) (fun_mk (st := s_is_tuple_of) l3 c3 k3) (PySem.W.mg_of X G a3) (fun_mk (st := s_is_rising) l4 c4 k4) (PySem.W.mg_of X G a4) (fun_mk (st := s_flights_of) l19 c19 k19) (PySem.W.mg_of X G a19) (fun_mk (st := s_taker_behind) l36 c36 k36) (PySem.W.mg_of X G a36) (fun_mk (st := s_turn_missed) l38 c38 k38) (PySem.W.mg_of X G a38) (fun_mk (st := s_taker_in) l39 c39 k39) (PySem.W.mg_of X G a39) (fun_mk (st := s_law_cell) l43 c43 k43) (PySem.W.mg_of X G a43) (fun_mk (st := s_law_pen) l44 c44 k44) (PySem.W.mg_of X G a44) (fun_mk (st := s_law_draw) l45 c45 k45) (PySem.W.mg_of X G a45) (fun_mk (st := s_law_same) l48 c48 k48) (PySem.W.mg_of X G a48) (fun_mk (st := s_law_top) l54 c54 k54) (PySem.W.mg_of X G a54) (fun_mk (st := s_law_next) l56 c56 k56) (PySem.W.mg_of X G a56) (fun_mk (st := s_is_within) l2 c2 k2) (PySem.W.mg_of X G a2) (fun_mk (st := s_stretch_from) l37 c37 k37) (PySem.W.mg_of X G a37) (fun_mk (st := s_is_stretch) l41 c41 k41) (PySem.W.mg_of X G a41) (fun_mk (st := s_law_pick) l46 c46 k46) (PySem.W.mg_of X G a46) (fun_mk (st := s_law_mixed) l47 c47 k47) (PySem.W.mg_of X G a47) (fun_mk (st := s_law_runners) l55 c55 k55) (PySem.W.mg_of X G a55) (fun_mk (st := s_law_rows) l57 c57 k57) (PySem.W.mg_of X G a57) (fun_mk (st := s_law_parted) l58 c58 k58) (PySem.W.mg_of X G a58) (fun_mk (st := s_is_floor_and_step) l17 c17 k17) (PySem.W.mg_of X G a17) (fun_mk (st := s_check_price) l21 c21 k21) (PySem.W.mg_of X G a21) (fun_mk (st := s_is_lot) l25 c25 k25) (PySem.W.mg_of X G a25) (fun_mk (st := s_is_buyer) l28 c28 k28) (PySem.W.mg_of X G a28) (fun_mk (st := s_law_anything) l49 c49 k49) (PySem.W.mg_of X G a49) (fun_mk (st := s_law_ladder) l50 c50 k50) (PySem.W.mg_of X G a50) (fun_mk (st := s_law_lot) l51 c51 k51) (PySem.W.mg_of X G a51) (fun_mk (st := s_law_bids) l52 c52 k52) (PySem.W.mg_of X G a52) (fun_mk (st := s_is_ladder) l16 c16 k16) (PySem.W.mg_of X G a16) (fun_mk (st := s_is_bid) l27 c27 k27) (PySem.W.mg_of X G a27) (fun_mk (st := s_check_lot) l31 c31 k31) (PySem.W.mg_of X G a31) (fun_mk (st := s_law_scene) l53 c53 k53) (PySem.W.mg_of X G a53) (fun_mk (st := s_law_other) l59 c59 k59) (PySem.W.mg_of X G a59) (fun_mk (st := s_check_ladder) l20 c20 k20) (PySem.W.mg_of X G a20) (fun_mk (st := s_are_bids) l26 c26 k26) (PySem.W.mg_of X G a26) (fun_mk (st := s_last_rung) l18 c18 k18) (PySem.W.mg_of X G a18) (fun_mk (st := s_check_bids) l32 c32 k32) (PySem.W.mg_of X G a32) (fun_mk (st := s_check_offer) l30 c30 k30) (PySem.W.mg_of X G a30) (fun_mk (st := s_tops_of) l29 c29 k29) (PySem.W.mg_of X G a29) (fun_mk (st := s_tops_by_buyer) l35 c35 k35) (PySem.W.mg_of X G a35) (fun_mk (st := s_course_of) l34 c34 k34) (PySem.W.mg_of X G a34) (fun_mk (st := s_is_course) l40 c40 k40) (PySem.W.mg_of X G a40) (fun_mk (st := s_law) l60 c60 k60) (PySem.W.mg_of X G a60)).imp (fun vs H Q E => sp_law law_true vs H Q E)
end Lk08
open PySem PySem.W PyProof.Rows
set_option maxHeartbeats 0 in
theorem PySem.Challenge.cw_hammersale_k08_courses_looked_at_holds : PySem.Challenge.rw_hammersale_k08_courses_looked_at.Holds := by
  w_on; o_law; k_head; (case hw => w_witness2)
  k_fill
  refine Mi.walk_ofG (l := PySem.Challenge.rw_hammersale_k08_courses_looked_at) (n := 63) (k := 12) (x := "_law_script") (sp := fun w => Mi.spLaw _) rfl (by decide) rfl ⟨rfl, by decide, by decide⟩ (fun w h Y => PySem.W.kIn_of Y) ?F (fun _ _ a ns hl hO hS => ⟨a, ns, rfl, Mi.fz_only hO hS, hl, fun _ => rfl⟩) (fun _ _ _ _ _ h => Mi.cx_no h)
  case F =>
    intro w mg fa h KX G hX hmg
    refine' Lk08.all_mk KX G hmg ?a1 ?l1 ?c1 ?k1 ?a3 ?l3 ?c3 ?k3 ?a4 ?l4 ?c4 ?k4 ?a19 ?l19 ?c19 ?k19 ?a36 ?l36 ?c36 ?k36 ?a38 ?l38 ?c38 ?k38 ?a39 ?l39 ?c39 ?k39 ?a43 ?l43 ?c43 ?k43 ?a44 ?l44 ?c44 ?k44 ?a45 ?l45 ?c45 ?k45 ?a48 ?l48 ?c48 ?k48 ?a54 ?l54 ?c54 ?k54 ?a56 ?l56 ?c56 ?k56 ?a2 ?l2 ?c2 ?k2 ?a37 ?l37 ?c37 ?k37 ?a41 ?l41 ?c41 ?k41 ?a46 ?l46 ?c46 ?k46 ?a47 ?l47 ?c47 ?k47 ?a55 ?l55 ?c55 ?k55 ?a57 ?l57 ?c57 ?k57 ?a58 ?l58 ?c58 ?k58 ?a17 ?l17 ?c17 ?k17 ?a21 ?l21 ?c21 ?k21 ?a25 ?l25 ?c25 ?k25 ?a28 ?l28 ?c28 ?k28 ?a49 ?l49 ?c49 ?k49 ?a50 ?l50 ?c50 ?k50 ?a51 ?l51 ?c51 ?k51 ?a52 ?l52 ?c52 ?k52 ?a16 ?l16 ?c16 ?k16 ?a27 ?l27 ?c27 ?k27 ?a31 ?l31 ?c31 ?k31 ?a53 ?l53 ?c53 ?k53 ?a59 ?l59 ?c59 ?k59 ?a20 ?l20 ?c20 ?k20 ?a26 ?l26 ?c26 ?k26 ?a18 ?l18 ?c18 ?k18 ?a32 ?l32 ?c32 ?k32 ?a30 ?l30 ?c30 ?k30 ?a29 ?l29 ?c29 ?k29 ?a35 ?l35 ?c35 ?k35 ?a34 ?l34 ?c34 ?k34 ?a40 ?l40 ?c40 ?k40 ?a60 ?l60 ?c60 ?k60 ?z_all ?z_bool ?z_enumerate ?z_int ?z_isinstance ?z_len ?z_list ?z_max ?z_min ?z_range ?z_repr ?z_sorted ?z_tuple ?z_zip ?x_MOST_FLOORS ?x_GREATEST_FLOOR ?x_GREATEST_STEP ?x_GREATEST_BOUND ?x_GREATEST_BUYER ?x_MOST_BIDS
    (case a1 => k_is)
    (case l1 => k_is)
    (case c1 => k_is)
    (case k1 => k_is)
    (case a3 => k_is)
    (case l3 => k_is)
    (case c3 => k_is)
    (case k3 => k_is)
    (case a4 => k_is)
    (case l4 => k_is)
    (case c4 => k_is)
    (case k4 => k_is)
    (case a19 => k_is)
    (case l19 => k_is)
    (case c19 => k_is)
    (case k19 => k_is)
    (case a36 => k_is)
    (case l36 => k_is)
    (case c36 => k_is)
    (case k36 => k_is)
    (case a38 => k_is)
    (case l38 => k_is)
    (case c38 => k_is)
    (case k38 => k_is)
    (case a39 => k_is)
    (case l39 => k_is)
    (case c39 => k_is)
    (case k39 => k_is)
    (case a43 => k_is)
    (case l43 => k_is)
    (case c43 => k_is)
    (case k43 => k_is)
    (case a44 => k_is)
    (case l44 => k_is)
    (case c44 => k_is)
    (case k44 => k_is)
    (case a45 => k_is)
    (case l45 => k_is)
    (case c45 => k_is)
    (case k45 => k_is)
    (case a48 => k_is)
    (case l48 => k_is)
    (case c48 => k_is)
    (case k48 => k_is)
    (case a54 => k_is)
    (case l54 => k_is)
    (case c54 => k_is)
    (case k54 => k_is)
    (case a56 => k_is)
    (case l56 => k_is)
    (case c56 => k_is)
    (case k56 => k_is)
    (case a2 => k_is)
    (case l2 => k_is)
    (case c2 => k_is)
    (case k2 => k_is)
    (case a37 => k_is)
    (case l37 => k_is)
    (case c37 => k_is)
    (case k37 => k_is)
    (case a41 => k_is)
    (case l41 => k_is)
    (case c41 => k_is)
    (case k41 => k_is)
    (case a46 => k_is)
    (case l46 => k_is)
    (case c46 => k_is)
    (case k46 => k_is)
    (case a47 => k_is)
    (case l47 => k_is)
    (case c47 => k_is)
    (case k47 => k_is)
    (case a55 => k_is)
    (case l55 => k_is)
    (case c55 => k_is)
    (case k55 => k_is)
    (case a57 => k_is)
    (case l57 => k_is)
    (case c57 => k_is)
    (case k57 => k_is)
    (case a58 => k_is)
    (case l58 => k_is)
    (case c58 => k_is)
    (case k58 => k_is)
    (case a17 => k_is)
    (case l17 => k_is)
    (case c17 => k_is)
    (case k17 => k_is)
    (case a21 => k_is)
    (case l21 => k_is)
    (case c21 => k_is)
    (case k21 => k_is)
    (case a25 => k_is)
    (case l25 => k_is)
    (case c25 => k_is)
    (case k25 => k_is)
    (case a28 => k_is)
    (case l28 => k_is)
    (case c28 => k_is)
    (case k28 => k_is)
    (case a49 => k_is)
    (case l49 => k_is)
    (case c49 => k_is)
    (case k49 => k_is)
    (case a50 => k_is)
    (case l50 => k_is)
    (case c50 => k_is)
    (case k50 => k_is)
    (case a51 => k_is)
    (case l51 => k_is)
    (case c51 => k_is)
    (case k51 => k_is)
    (case a52 => k_is)
    (case l52 => k_is)
    (case c52 => k_is)
    (case k52 => k_is)
    (case a16 => k_is)
    (case l16 => k_is)
    (case c16 => k_is)
    (case k16 => k_is)
    (case a27 => k_is)
    (case l27 => k_is)
    (case c27 => k_is)
    (case k27 => k_is)
    (case a31 => k_is)
    (case l31 => k_is)
    (case c31 => k_is)
    (case k31 => k_is)
    (case a53 => k_is)
    (case l53 => k_is)
    (case c53 => k_is)
    (case k53 => k_is)
    (case a59 => k_is)
    (case l59 => k_is)
    (case c59 => k_is)
    (case k59 => k_is)
    (case a20 => k_is)
    (case l20 => k_is)
    (case c20 => k_is)
    (case k20 => k_is)
    (case a26 => k_is)
    (case l26 => k_is)
    (case c26 => k_is)
    (case k26 => k_is)
    (case a18 => k_is)
    (case l18 => k_is)
    (case c18 => k_is)
    (case k18 => k_is)
    (case a32 => k_is)
    (case l32 => k_is)
    (case c32 => k_is)
    (case k32 => k_is)
    (case a30 => k_is)
    (case l30 => k_is)
    (case c30 => k_is)
    (case k30 => k_is)
    (case a29 => k_is)
    (case l29 => k_is)
    (case c29 => k_is)
    (case k29 => k_is)
    (case a35 => k_is)
    (case l35 => k_is)
    (case c35 => k_is)
    (case k35 => k_is)
    (case a34 => k_is)
    (case l34 => k_is)
    (case c34 => k_is)
    (case k34 => k_is)
    (case a40 => k_is)
    (case l40 => k_is)
    (case c40 => k_is)
    (case k40 => k_is)
    (case a60 => k_is)
    (case l60 => k_is)
    (case c60 => k_is)
    (case k60 => k_is)
    (case z_all => k_is)
    (case z_bool => k_is)
    (case z_enumerate => k_is)
    (case z_int => k_is)
    (case z_isinstance => k_is)
    (case z_len => k_is)
    (case z_list => k_is)
    (case z_max => k_is)
    (case z_min => k_is)
    (case z_range => k_is)
    (case z_repr => k_is)
    (case z_sorted => k_is)
    (case z_tuple => k_is)
    (case z_zip => k_is)
    (case x_MOST_FLOORS => k_is)
    (case x_GREATEST_FLOOR => exact Mi.loose_int hX.2 (by simp))
    (case x_GREATEST_STEP => exact Mi.loose_int hX.2 (by simp))
    (case x_GREATEST_BOUND => exact Mi.loose_int hX.2 (by simp))
    (case x_GREATEST_BUYER => k_is)
    (case x_MOST_BIDS => k_is)
