import PyProof.Rows.All
import Wide.All
import OpenK.AllK
import Wide.FinOn
import HandS.ForMost
import HandS.ForExc
import HandS.ExcInit
import HandS.ExcCtx
import HandS.HotCalls
import HandS.Deep
import HandS.Wide
import KE.SortData
import KE.DataMinMax
import KE.DataFind
import KE.DataEq
import HandS.IsInst
import HandS.TupAny
import HandS.More
import HandS.SetFor
import KE.DataAny
import HandS.TupLen
import HandS.WideBits
import PyProof.StrOps2
import PyProof.FitsStr
import KE.KDictKeyed
import HandS.FStr
import HandS.Defaults
import HandS.RaiseMore
import HandS.EndBits
import HandS.MakeKwOnly
import HandS.Style
import HandS.DictTup
import PyProof.Transfer
import HandS.Replace
import PyProof.ListStr
import HandS.DictEq
import HandS.Codes
import KE.KExcIs
import HandS.SlotsOwn
import HandS.ExcField
import HandS.ExcIs
import HandS.ExcOwn
import KE.IntTextLaws
import PySem.Challenge.RW_roundfence_k53_texts_of_no_standing
set_option Elab.async false
set_option linter.all false
set_option maxRecDepth 100000
set_option maxHeartbeats 4000000
/-! RD: values as whole data over the hand layer: what is made and never changed again is data (fz); what one name alone holds and may change is a cell (ow). -/
namespace RD
open PySem L2

abbrev D := PyData

/-- a key of a dict, as data -/
def keyD : Key → D
  | .inl i => .int i
  | .inr x => .str x
/-- a tuple of keys, as data -/
def keysD (k : List Key) : D := .tuple (k.map keyD)
/-- an instance of the class at C, as data: its class, then its fields -/
def obD (C : Addr) (fs : List (Str × D)) : D := .dict ((.none, .int C) :: fs.map fun f => (.str f.1, f.2))

/-- a thing by its address alone -/
def adrD (a : Addr) : D := .dict [(.int a, .none)]

mutual
inductive Rep (F : Hp) : V → D → Prop
  | non : Rep F .non .none
  | bl (b : Bool) : Rep F (.bl b) (.bool b)
  | int (i : Int) : Rep F (.int i) (.int i)
  | str (x : Str) : Rep F (.str x) (.str x)
  | lst {a : Addr} {xs : List V} {ds : List D} : F a = some (.lst xs) → Reps F xs ds → Rep F (.ref a) (.list ds)
  | tup {a : Addr} {xs : List V} {ds : List D} : F a = some (.tup xs) → Reps F xs ds → Rep F (.ref a) (.tuple ds)
  | dk {a : Addr} {kvs : List (Key × V)} {ds : List D} : F a = some (.dK kvs) → Reps F (kvs.map (·.2)) ds → Rep F (.ref a) (.dict ((.bool false, .none) :: ((kvs.map (·.1)).map keyD).zip ds))
  | dt {a : Addr} {kvs : List (List Key × V)} {ds : List D} : F a = some (.dT kvs) → Reps F (kvs.map (·.2)) ds → Rep F (.ref a) (.dict ((.bool true, .none) :: ((kvs.map (·.1)).map keysD).zip ds))
  | ob {a C dx : Addr} {fs : List (Str × V)} {ds : List D} : F a = some (.ins C dx fs) → F dx = some (.own a) → Reps F (fs.map (·.2)) ds → Rep F (.ref a) (obD C ((fs.map (·.1)).zip ds))
  | adr (a : Addr) : Rep F (.ref a) (adrD a)
inductive Reps (F : Hp) : List V → List D → Prop
  | nil : Reps F [] []
  | cons {v : V} {vs : List V} {d : D} {ds : List D} : Rep F v d → Reps F vs ds → Reps F (v :: vs) (d :: ds)
end

theorem Reps.length {F : Hp} : ∀ {vs : List V} {ds : List D}, Reps F vs ds → vs.length = ds.length
  | _, _, .nil => rfl
  | _, _, .cons _ t => by rw [List.length_cons, List.length_cons, Reps.length t]
theorem Reps.append {F : Hp} : ∀ {vs : List V} {ds : List D} {ws : List V} {es : List D}, Reps F vs ds → Reps F ws es → Reps F (vs ++ ws) (ds ++ es)
  | _, _, _, _, .nil, s => s
  | _, _, _, _, .cons r t, s => .cons r (Reps.append t s)
theorem Reps.get {F : Hp} : ∀ {vs : List V} {ds : List D} {i : Nat} {d : D}, Reps F vs ds → ds[i]? = some d → ∃ v, vs[i]? = some v ∧ Rep F v d
  | _, _, 0, d, .cons r _, e => by simp at e; subst e; exact ⟨_, rfl, r⟩
  | _, _, i + 1, d, .cons _ t, e => by
    obtain ⟨v, h1, h2⟩ := Reps.get (i := i) (d := d) t (by simpa using e)
    exact ⟨v, by simpa using h1, h2⟩
theorem Reps.get' {F : Hp} : ∀ {vs : List V} {ds : List D} {i : Nat} {v : V}, Reps F vs ds → vs[i]? = some v → ∃ d, ds[i]? = some d ∧ Rep F v d
  | _, _, 0, d, .cons r _, e => by simp at e; subst e; exact ⟨_, rfl, r⟩
  | _, _, i + 1, d, .cons _ t, e => by
    obtain ⟨v, h1, h2⟩ := Reps.get' (i := i) (v := d) t (by simpa using e)
    exact ⟨v, by simpa using h1, h2⟩
theorem Reps.take {F : Hp} : ∀ {vs : List V} {ds : List D} (n : Nat), Reps F vs ds → Reps F (vs.take n) (ds.take n)
  | _, _, 0, _ => .nil
  | _, _, _ + 1, .nil => .nil
  | _, _, n + 1, .cons r t => .cons r (Reps.take n t)
theorem Reps.drop {F : Hp} : ∀ {vs : List V} {ds : List D} (n : Nat), Reps F vs ds → Reps F (vs.drop n) (ds.drop n)
  | _, _, 0, r => r
  | _, _, _ + 1, .nil => .nil
  | _, _, n + 1, .cons r t => Reps.drop n t
theorem Reps.set {F : Hp} {x : V} {e : D} (r : Rep F x e) : ∀ {vs : List V} {ds : List D} (i : Nat), Reps F vs ds → Reps F (vs.set i x) (ds.set i e)
  | _, _, _, .nil => .nil
  | _, _, 0, .cons _ t => .cons r t
  | _, _, i + 1, .cons q t => .cons q (Reps.set r i t)
theorem Reps.eraseIdx {F : Hp} : ∀ {vs : List V} {ds : List D} (i : Nat), Reps F vs ds → Reps F (vs.eraseIdx i) (ds.eraseIdx i)
  | _, _, _, .nil => .nil
  | _, _, 0, .cons _ t => t
  | _, _, i + 1, .cons q t => .cons q (Reps.eraseIdx i t)
theorem Reps.reverse {F : Hp} : ∀ {vs : List V} {ds : List D}, Reps F vs ds → Reps F vs.reverse ds.reverse
  | _, _, .nil => .nil
  | _, _, .cons r t => by
    rw [List.reverse_cons, List.reverse_cons]
    exact Reps.append (Reps.reverse t) (.cons r .nil)
theorem Reps.map_int {F : Hp} : ∀ ns : List Int, Reps F (ns.map V.int) (ns.map PyData.int)
  | [] => .nil
  | n :: ns => .cons (.int n) (Reps.map_int ns)

/-! ### what is frozen grows -/
mutual
theorem Rep.mono {F F' : Hp} (e : Same F F') : ∀ {v : V} {d : D}, Rep F v d → Rep F' v d
  | _, _, .non => .non
  | _, _, .bl b => .bl b
  | _, _, .int i => .int i
  | _, _, .str x => .str x
  | _, _, .lst h r => .lst (e _ _ h) (Reps.mono e r)
  | _, _, .tup h r => .tup (e _ _ h) (Reps.mono e r)
  | _, _, .dk h r => .dk (e _ _ h) (Reps.mono e r)
  | _, _, .dt h r => .dt (e _ _ h) (Reps.mono e r)
  | _, _, .ob h h2 r => .ob (e _ _ h) (e _ _ h2) (Reps.mono e r)
  | _, _, .adr a => .adr a
theorem Reps.mono {F F' : Hp} (e : Same F F') : ∀ {vs : List V} {ds : List D}, Reps F vs ds → Reps F' vs ds
  | _, _, .nil => .nil
  | _, _, .cons r t => .cons (Rep.mono e r) (Reps.mono e t)
end

/-! ### inversions -/
section
variable {F : Hp} {v : V}
theorem Rep.int_of {i : Int} (h : Rep F v (.int i)) : v = .int i := by cases h; rfl
theorem Rep.str_of {x : Str} (h : Rep F v (.str x)) : v = .str x := by cases h; rfl
theorem Rep.bl_of {b : Bool} (h : Rep F v (.bool b)) : v = .bl b := by cases h; rfl
theorem Rep.adr_of {a : Addr} (h : Rep F v (adrD a)) : v = .ref a := by
  unfold adrD at h
  cases h
  rfl
theorem Rep.non_of (h : Rep F v .none) : v = .non := by cases h; rfl
theorem Rep.lst_of {ds : List D} (h : Rep F v (.list ds)) : ∃ a xs, v = .ref a ∧ F a = some (.lst xs) ∧ Reps F xs ds := by
  cases h with
  | lst h1 h2 => exact ⟨_, _, rfl, h1, h2⟩
theorem Rep.tup_of {ds : List D} (h : Rep F v (.tuple ds)) : ∃ a xs, v = .ref a ∧ F a = some (.tup xs) ∧ Reps F xs ds := by
  cases h with
  | tup h1 h2 => exact ⟨_, _, rfl, h1, h2⟩
theorem Reps.cons_of {vs : List V} {d : D} {ds : List D} (h : Reps F vs (d :: ds)) : ∃ v ws, vs = v :: ws ∧ Rep F v d ∧ Reps F ws ds := by
  cases h with
  | cons h1 h2 => exact ⟨_, _, rfl, h1, h2⟩
theorem Reps.nil_of {vs : List V} (h : Reps F vs []) : vs = [] := by cases h; rfl
theorem Reps.ints_of : ∀ {ns : List Int} {vs : List V}, Reps F vs (ns.map PyData.int) → vs = ns.map V.int
  | [], _, h => h.nil_of
  | n :: ns, _, h => by
    obtain ⟨v, ws, rfl, h1, h2⟩ := Reps.cons_of (d := .int n) (ds := ns.map PyData.int) h
    rw [h1.int_of, Reps.ints_of h2]
    rfl
theorem Reps.strs_of : ∀ {ns : List Str} {vs : List V}, Reps F vs (ns.map PyData.str) → vs = ns.map V.str
  | [], _, h => h.nil_of
  | n :: ns, _, h => by
    obtain ⟨v, ws, rfl, h1, h2⟩ := Reps.cons_of (d := .str n) (ds := ns.map PyData.str) h
    rw [h1.str_of, Reps.strs_of h2]
    rfl
end

/-! the library's own reading of data, where data is none, bools, ints, texts, lists, tuples -/
mutual
theorem Rep.dp {K : PySem.W.Frag} {F H : Hp} (e : Same F H) : ∀ {d : D} {v : V}, d.canLay0 = true → Rep F v d → Dp K H v d
  | .none, _, _, h => by rw [h.non_of]; exact .non
  | .bool b, _, _, h => by rw [h.bl_of]; exact .bl b
  | .int i, _, _, h => by rw [h.int_of]; exact .int i
  | .str x, _, _, h => by rw [h.str_of]; exact .str x
  | .list ds, _, c, h => by
    obtain ⟨a, xs, rfl, h1, h2⟩ := h.lst_of
    exact .lst (SqL.of (e _ _ h1)) (Reps.dp e (by simpa [PyData.canLay0] using c) h2)
  | .tuple ds, _, c, h => by
    obtain ⟨a, xs, rfl, h1, h2⟩ := h.tup_of
    exact .tup (SqT.of (e _ _ h1)) (Reps.dp e (by simpa [PyData.canLay0] using c) h2)
  | .dict kvs, _, c, _ => by simp [PyData.canLay0] at c
theorem Reps.dp {K : PySem.W.Frag} {F H : Hp} (e : Same F H) : ∀ {ds : List D} {vs : List V}, PyData.canLayAll0 ds = true → Reps F vs ds → DpAll K H vs ds
  | [], _, _, h => by rw [h.nil_of]; exact .nil
  | d :: ds, _, c, h => by
    obtain ⟨v, ws, rfl, h1, h2⟩ := h.cons_of
    rw [PyData.canLayAll0, Bool.and_eq_true] at c
    exact .cons (Rep.dp e c.1 h1) (Reps.dp e c.2 h2)
end

/-! data without dicts, not too deep -/
def okD (d : D) : Bool := d.plain && decide (d.depth ≤ 60)
theorem okD_plain {d : D} (h : okD d = true) : d.plain = true := by
  unfold okD at h
  rw [Bool.and_eq_true] at h
  exact h.1
theorem okD_depth {d : D} (h : okD d = true) : d.depth ≤ 60 := by
  unfold okD at h
  rw [Bool.and_eq_true] at h
  exact of_decide_eq_true h.2
mutual
theorem Rep.dpP {K : PySem.W.Frag} {F H : Hp} (e : Same F H) : ∀ {d : D} {v : V}, d.plain = true → Rep F v d → Dp K H v d
  | .none, _, _, h => by rw [h.non_of]; exact .non
  | .bool b, _, _, h => by rw [h.bl_of]; exact .bl b
  | .int i, _, _, h => by rw [h.int_of]; exact .int i
  | .str x, _, _, h => by rw [h.str_of]; exact .str x
  | .list ds, _, c, h => by
    obtain ⟨a, xs, rfl, h1, h2⟩ := h.lst_of
    exact .lst (SqL.of (e _ _ h1)) (Reps.dpP e (by simpa [PyData.plain] using c) h2)
  | .tuple ds, _, c, h => by
    obtain ⟨a, xs, rfl, h1, h2⟩ := h.tup_of
    exact .tup (SqT.of (e _ _ h1)) (Reps.dpP e (by simpa [PyData.plain] using c) h2)
  | .dict kvs, _, c, _ => by simp [PyData.plain] at c
theorem Reps.dpP {K : PySem.W.Frag} {F H : Hp} (e : Same F H) : ∀ {ds : List D} {vs : List V}, PyData.plainAll ds = true → Reps F vs ds → DpAll K H vs ds
  | [], _, _, h => by rw [h.nil_of]; exact .nil
  | d :: ds, _, c, h => by
    obtain ⟨v, ws, rfl, h1, h2⟩ := h.cons_of
    rw [PyData.plainAll, Bool.and_eq_true] at c
    exact .cons (Rep.dpP e c.1 h1) (Reps.dpP e c.2 h2)
end

/-! ### cells -/
/-- a dict by its pairs -/
def dkD (kvs : List (Key × D)) : D := .dict ((.bool false, .none) :: kvs.map fun p => (keyD p.1, p.2))
def dtD (kvs : List (List Key × D)) : D := .dict ((.bool true, .none) :: kvs.map fun p => (keysD p.1, p.2))
/-- another thing that one name holds: told by the heap at its own addresses -/
structure XCell where
  rel : Hp → Hp → V → List Addr → Prop
  loc : ∀ F F' H H' v fp, rel F H v fp → Same F F' → (∀ a ∈ fp, H' a = H a) → rel F' H' v fp
  there : ∀ F H v fp, rel F H v fp → ∀ a ∈ fp, ∃ o, H a = some o
inductive Cell where
  | l (ds : List D)
  | dk (kvs : List (Key × D))
  | dt (kvs : List (List Key × D))
  | ob (C : Addr) (ns : List Str) (ds : List D)
  | ll (dss : List (List D))
  /-- a list of ints behind a list of ints that stands in it -/
  | nl (gs rest : List Int)
  | ext (x : XCell)
inductive Slot where
  | no
  | fz (d : D)
  /-- a cell that this name alone holds -/
  | ow (c : Cell)
  /-- a cell of the caller's, handed in by this parameter -/
  | io (c : Cell)
abbrev Rho := List Slot

/-- a cell's content, frozen -/
def Cell.d : Cell → Option D
  | .l ds => some (.list ds)
  | .dk kvs => some (dkD kvs)
  | .dt kvs => some (dtD kvs)
  | .ob C ns ds => some (obD C (ns.zip ds))
  | .ll dss => some (.list (dss.map PyData.list))
  | .nl _ _ => none
  | .ext _ => none

/-- the lists of a list of lists -/
inductive LL (F H : Hp) : List V → List Addr → List (List D) → Prop
  | nil : LL F H [] [] []
  | cons {a : Addr} {vs : List V} {fp : List Addr} {xs : List V} {ds : List D} {dss : List (List D)} : H a = some (.lst xs) → Reps F xs ds → a ∉ fp → LL F H vs fp dss → LL F H (.ref a :: vs) (a :: fp) (ds :: dss)

/-- a cell stands at v, on the addresses fp -/
def CellAt (F H : Hp) (v : V) (fp : List Addr) : Cell → Prop
  | .l ds => ∃ p xs, v = .ref p ∧ fp = [p] ∧ H p = some (.lst xs) ∧ Reps F xs ds
  | .dk ks => ∃ (p : Addr) (kvs : List (Key × V)), v = .ref p ∧ fp = [p] ∧ H p = some (.dK kvs) ∧ kvs.map (·.1) = ks.map (·.1) ∧ Reps F (kvs.map (·.2)) (ks.map (·.2))
  | .dt ks => ∃ (p : Addr) (kvs : List (List Key × V)), v = .ref p ∧ fp = [p] ∧ H p = some (.dT kvs) ∧ kvs.map (·.1) = ks.map (·.1) ∧ Reps F (kvs.map (·.2)) (ks.map (·.2))
  | .ob C ns ds => ∃ (p dx : Addr) (fs : List (Str × V)), v = .ref p ∧ fp = [p, dx] ∧ H p = some (.ins C dx fs) ∧ H dx = some (.own p) ∧ fs.map (·.1) = ns ∧ Reps F (fs.map (·.2)) ds
  | .ll dss => ∃ p xs fq, v = .ref p ∧ fp = p :: fq ∧ p ∉ fq ∧ H p = some (.lst xs) ∧ LL F H xs fq dss
  | .nl gs rest => ∃ p q, v = .ref p ∧ fp = [p, q] ∧ p ≠ q ∧ H p = some (.lst (.ref q :: rest.map V.int)) ∧ H q = some (.lst (gs.map V.int))
  | .ext x => x.rel F H v fp

theorem LL.mono {F F' H H' : Hp} (e : Same F F') : ∀ {vs : List V} {fp : List Addr} {dss : List (List D)}, LL F H vs fp dss → (∀ a ∈ fp, H' a = H a) → LL F' H' vs fp dss
  | _, _, _, .nil, _ => .nil
  | _, _, _, .cons h1 h2 h3 t, k => .cons ((k _ List.mem_cons_self).trans h1) (Reps.mono e h2) h3 (LL.mono e t fun a ha => k a (List.mem_cons_of_mem _ ha))
theorem CellAt.mono {F F' H H' : Hp} {v : V} {fp : List Addr} (e : Same F F') (k : ∀ a ∈ fp, H' a = H a) : ∀ {c : Cell}, CellAt F H v fp c → CellAt F' H' v fp c
  | .l ds, ⟨p, xs, e1, e2, h, r⟩ => ⟨p, xs, e1, e2, by rw [k p (by rw [e2]; simp)]; exact h, r.mono e⟩
  | .dk ks, ⟨p, kvs, e1, e2, h, h2, r⟩ => ⟨p, kvs, e1, e2, by rw [k p (by rw [e2]; simp)]; exact h, h2, r.mono e⟩
  | .dt ks, ⟨p, kvs, e1, e2, h, h2, r⟩ => ⟨p, kvs, e1, e2, by rw [k p (by rw [e2]; simp)]; exact h, h2, r.mono e⟩
  | .ob C ns ds, ⟨p, dx, fs, e1, e2, h, h1, h2, r⟩ => ⟨p, dx, fs, e1, e2, by rw [k p (by rw [e2]; simp)]; exact h, by rw [k dx (by rw [e2]; simp)]; exact h1, h2, r.mono e⟩
  | .ll dss, ⟨p, xs, fq, e1, e2, n, h, r⟩ => ⟨p, xs, fq, e1, e2, n, by rw [k p (by rw [e2]; simp)]; exact h, r.mono e fun a ha => k a (by rw [e2]; exact List.mem_cons_of_mem _ ha)⟩
  | .nl gs rest, ⟨p, q, e1, e2, n, h, h2⟩ => ⟨p, q, e1, e2, n, by rw [k p (by rw [e2]; simp)]; exact h, by rw [k q (by rw [e2]; simp)]; exact h2⟩
  | .ext x, h => x.loc _ _ _ _ _ _ h e k

theorem zip_map {α β γ : Type} (f : α → γ) : ∀ (l : List (α × β)), ((l.map (·.1)).map f).zip (l.map (·.2)) = l.map fun p => (f p.1, p.2)
  | [] => rfl
  | p :: l => by
    rw [List.map_cons, List.map_cons, List.map_cons, List.zip_cons_cons, zip_map f l, List.map_cons]
theorem LL.there {F H : Hp} : ∀ {vs : List V} {fp : List Addr} {dss : List (List D)}, LL F H vs fp dss → ∀ a ∈ fp, ∃ o, H a = some o
  | _, _, _, .nil, _, h => absurd h List.not_mem_nil
  | _, _, _, .cons h1 _ _ t, a, h => by
    rcases List.mem_cons.mp h with e | e
    · subst e
      exact ⟨_, h1⟩
    · exact LL.there t a e
theorem CellAt.there {F H : Hp} {v : V} {fp : List Addr} : ∀ {c : Cell}, CellAt F H v fp c → ∀ a ∈ fp, ∃ o, H a = some o
  | .l ds, ⟨p, xs, e1, e2, h, r⟩, a, m => by rw [e2] at m; rw [List.mem_singleton.mp m]; exact ⟨_, h⟩
  | .dk ks, ⟨p, kvs, e1, e2, h, h2, r⟩, a, m => by rw [e2] at m; rw [List.mem_singleton.mp m]; exact ⟨_, h⟩
  | .dt ks, ⟨p, kvs, e1, e2, h, h2, r⟩, a, m => by rw [e2] at m; rw [List.mem_singleton.mp m]; exact ⟨_, h⟩
  | .ob C ns ds, ⟨p, dx, fs, e1, e2, h, h1, h2, r⟩, a, m => by
    rw [e2] at m
    rcases List.mem_cons.mp m with e | e
    · rw [e]; exact ⟨_, h⟩
    · rw [List.mem_singleton.mp e]; exact ⟨_, h1⟩
  | .ll dss, ⟨p, xs, fq, e1, e2, n, h, r⟩, a, m => by
    rw [e2] at m
    rcases List.mem_cons.mp m with e | e
    · rw [e]; exact ⟨_, h⟩
    · exact r.there a e
  | .nl gs rest, ⟨p, q, e1, e2, n, h, h2⟩, a, m => by
    rw [e2] at m
    rcases List.mem_cons.mp m with e | e
    · rw [e]; exact ⟨_, h⟩
    · rw [List.mem_singleton.mp e]; exact ⟨_, h2⟩
  | .ext x, h, a, m => x.there _ _ _ _ h a m

/-! ### the entry of a def, and where a walk stands -/
structure Ent where
  H0 : Hp
  F0 : Hp
  /-- the addresses of the cells handed in, by their parameters -/
  own0 : Nat → List Addr
  vs0 : L2.St
/-- the cell of a slot -/
def Slot.cell : Slot → Option Cell
  | .ow c => some c
  | .io c => some c
  | _ => none
structure Rel (W : Ent) (F H : Hp) (σ : L2.St) (ρ : Rho) : Prop where
  ex : Same F H
  len : σ.length = ρ.length
  fz : ∀ (i : Nat) d, ρ[i]? = some (Slot.fz d) → ∃ v, σ[i]? = some (some v) ∧ Rep F v d
  io : ∀ (i : Nat) c, ρ[i]? = some (Slot.io c) → σ[i]? = W.vs0[i]?
  ow : ∃ fp : Nat → List Addr, (∀ (i : Nat) s c, ρ[i]? = some s → s.cell = some c → (∃ v, σ[i]? = some (some v) ∧ CellAt F H v (fp i) c) ∧ ∀ a ∈ fp i, F a = none ∧ (W.H0 a = none ∨ (a ∈ W.own0 i ∧ ∃ c', s = .io c'))) ∧
    ∀ (i j : Nat) s s' c c', i ≠ j → ρ[i]? = some s → s.cell = some c → ρ[j]? = some s' → s'.cell = some c' → ∀ a ∈ fp i, a ∉ fp j
  fr : ∀ a o, W.H0 a = some o → (∀ i, a ∉ W.own0 i) → H a = some o
  st : ∀ a o, W.H0 a = some o → ∃ o', H a = some o'
  gr : ∀ a o, F a = some o → W.F0 a = some o ∨ W.H0 a = none
  f0 : Same W.F0 F
/-- the heap grows, and what is frozen with it -/
structure Ext (F H F' H' : Hp) : Prop where
  fF : Same F F'
  hH : Same H H'
  fH : Same F' H'
  nw : ∀ a o, F' a = some o → F a = some o ∨ H a = none
theorem Ext.refl {F H : Hp} (e : Same F H) : Ext F H F H := ⟨Same.refl _, Same.refl _, e, fun _ _ h => .inl h⟩
theorem Ext.trans {F H F1 H1 F2 H2 : Hp} (a : Ext F H F1 H1) (b : Ext F1 H1 F2 H2) : Ext F H F2 H2 := ⟨a.fF.trans b.fF, a.hH.trans b.hH, b.fH, fun x o h => by
  rcases b.nw x o h with q | q
  · exact a.nw x o q
  · exact .inr (a.hH.free q)⟩
/-- a new thing, frozen -/
theorem Ext.new {F H : Hp} (e : Same F H) {p : Addr} {o : HO} (h : H p = none) : Ext F H (upd F p o) (upd H p o) := by
  have hF : F p = none := e.free h
  refine ⟨fun b u q => ?_, fun b u q => ?_, fun b u q => ?_, fun b u q => ?_⟩
  · rw [upd_ne (ne_of_none q hF)]; exact q
  · rw [upd_ne (ne_of_none q h)]; exact q
  · by_cases z : b = p
    · subst z; rw [upd_same] at q ⊢; exact q
    · rw [upd_ne z] at q ⊢; exact e b u q
  · by_cases z : b = p
    · subst z; exact .inr h
    · rw [upd_ne z] at q; exact .inl q
theorem Rel.ext {W : Ent} {F H F' H' : Hp} {σ : L2.St} {ρ : Rho} (R : Rel W F H σ ρ) (e : Ext F H F' H') : Rel W F' H' σ ρ := by
  obtain ⟨fp, o1, o2⟩ := R.ow
  refine ⟨e.fH, R.len, fun i d h => ?_, R.io, ⟨fp, fun i s c hs hc => ?_, o2⟩, fun a o h n => e.hH _ _ (R.fr a o h n), fun a o h => ?_, fun a o h => ?_, R.f0.trans e.fF⟩
  · obtain ⟨v, h1, h2⟩ := R.fz i d h
    exact ⟨v, h1, h2.mono e.fF⟩
  · obtain ⟨⟨v, h1, h2⟩, h3⟩ := o1 i s c hs hc
    refine ⟨⟨v, h1, h2.mono e.fF fun a ha => ?_⟩, fun a ha => ⟨?_, (h3 a ha).2⟩⟩
    · obtain ⟨o, q⟩ := h2.there a ha
      rw [q, e.hH _ _ q]
    · cases q : F' a with
      | none => rfl
      | some o =>
        obtain ⟨u, hu⟩ := h2.there a ha
        rcases e.nw a o q with z | z
        · rw [(h3 a ha).1] at z; cases z
        · rw [hu] at z; cases z
  · obtain ⟨o', q⟩ := R.st a o h
    exact ⟨o', e.hH _ _ q⟩
  · rcases e.nw a o h with q | q
    · exact R.gr a o q
    · cases z : W.H0 a with
      | none => exact .inr rfl
      | some u =>
        obtain ⟨o', r⟩ := R.st a u z
        rw [r] at q; cases q
/-- the slots picked out, moved: f tells where each stood -/
theorem Rel.remap {W W' : Ent} {F H : Hp} {σ σ' : L2.St} {ρ ρ' : Rho} (R : Rel W F H σ ρ) (eH : W'.H0 = W.H0) (eF : W'.F0 = W.F0) (efp : W'.own0 = W.own0) (f : Nat → Nat) (hl : σ'.length = ρ'.length)
    (h : ∀ (j : Nat) s, ρ'[j]? = some s → s = .no ∨ (∃ s0, ρ[f j]? = some s0 ∧ s0 = s ∧ σ'[j]? = σ[f j]?)) (hio : ∀ (j : Nat) c, ρ'[j]? = some (Slot.io c) → σ'[j]? = W'.vs0[j]? ∧ f j = j)
    (inj : ∀ (i j : Nat) s s', ρ'[i]? = some s → ρ'[j]? = some s' → s.cell.isSome = true → s'.cell.isSome = true → f i = f j → i = j) : Rel W' F H σ' ρ' := by
  obtain ⟨fp, o1, o2⟩ := R.ow
  have key : ∀ (j : Nat) s c, ρ'[j]? = some s → s.cell = some c → ρ[f j]? = some s ∧ σ'[j]? = σ[f j]? := fun j s c hs hc => by
    rcases h j s hs with q | ⟨s0, q1, q2, q3⟩
    · subst q; cases hc
    · subst q2; exact ⟨q1, q3⟩
  refine ⟨R.ex, hl, fun i d hi => ?_, fun j c hj => (hio j c hj).1, ⟨fun j => fp (f j), fun i s c hs hc => ?_, fun i j s s' c c' hij hs hc hs' hc' => ?_⟩, by rw [eH, efp]; exact R.fr, by rw [eH]; exact R.st, by rw [eF, eH]; exact R.gr, by rw [eF]; exact R.f0⟩
  · rcases h i _ hi with q | ⟨s0, q1, q2, q3⟩
    · cases q
    · subst q2
      obtain ⟨v, h1, h2⟩ := R.fz _ _ q1
      exact ⟨v, q3.trans h1, h2⟩
  · obtain ⟨q1, q3⟩ := key i s c hs hc
    obtain ⟨⟨v, h1, h2⟩, h3⟩ := o1 _ s c q1 hc
    rw [eH, efp]
    refine ⟨⟨v, q3.trans h1, h2⟩, fun a ha => ⟨(h3 a ha).1, ?_⟩⟩
    rcases (h3 a ha).2 with z | ⟨z, c', e⟩
    · exact .inl z
    · subst e
      rw [(hio i c' hs).2] at z
      exact .inr ⟨z, c', rfl⟩
  · obtain ⟨q1, _⟩ := key i s c hs hc
    obtain ⟨r1, _⟩ := key j s' c' hs' hc'
    exact o2 _ _ s s' c c' (fun z => hij (inj i j s s' hs hs' (by rw [hc]; rfl) (by rw [hc']; rfl) z)) q1 hc r1 hc'

open PySem L2

/-! ### where a walk stands, with what waits beside the names (τ, ε) -/
structure At (W : Ent) (F H : Hp) (σ τ : L2.St) (ρ ε : Rho) : Prop where
  len : σ.length = ρ.length
  rel : Rel W F H (σ ++ τ) (ρ ++ ε)
  nio : ∀ (j : Nat) c, ε[j]? ≠ some (Slot.io c)

def Slot.put : Slot → Cell → Slot
  | .ow _, c => .ow c
  | .io _, c => .io c
  | s, _ => s
def Slot.isIo : Slot → Bool
  | .io _ => true
  | _ => false

section
variable {W : Ent} {F H F' H' F0 H0 : Hp} {σ τ : L2.St} {ρ ε : Rho} {i : Nat} {s : Slot} {c : Cell} {d : D} {v : V}
theorem lt_of_get {α : Type} {l : List α} {i : Nat} {x : α} (h : l[i]? = some x) : i < l.length := (List.getElem?_eq_some_iff.mp h).1
theorem At.ext (R : At W F H σ τ ρ ε) (e : Ext F H F' H') : At W F' H' σ τ ρ ε := ⟨R.len, R.rel.ext e, R.nio⟩
theorem At.ex (R : At W F H σ τ ρ ε) : Same F H := R.rel.ex
theorem get_app {α : Type} {l m : List α} {i : Nat} (h : i < l.length) : (l ++ m)[i]? = l[i]? := List.getElem?_append_left h
theorem At.var (R : At W F H σ τ ρ ε) (h : ρ[i]? = some (Slot.fz d)) : ∃ v, σ[i]? = some (some v) ∧ Rep F v d := by
  have hi := lt_of_get h
  obtain ⟨v, h1, h2⟩ := R.rel.fz i d (by rw [get_app hi]; exact h)
  rw [get_app (by rw [R.len]; exact hi)] at h1
  exact ⟨v, h1, h2⟩
/-- a cell that a name holds, and how it may change -/
theorem At.cellX (R : At W F H σ τ ρ ε) (hs : ρ[i]? = some s) (hc : s.cell = some c) : ∃ v fp, σ[i]? = some (some v) ∧ CellAt F H v fp c ∧ (∀ a ∈ fp, F a = none) ∧ (∀ a ∈ fp, ∃ o, H a = some o) ∧
    ∀ c' F' H' fp', Same F F' → Same F' H' → (∀ a o, F' a = some o → F a = some o ∨ H a = none) → (∀ a o, a ∉ fp → H a = some o → H' a = some o) → (∀ a ∈ fp', F' a = none ∧ (a ∈ fp ∨ H a = none)) → (∀ a ∈ fp, ∃ o, H' a = some o) → CellAt F' H' v fp' c' → At W F' H' σ τ (ρ.set i (s.put c')) ε := by
  have hi := lt_of_get hs
  have hi' : i < σ.length := by rw [R.len]; exact hi
  obtain ⟨fp, o1, o2⟩ := R.rel.ow
  have hs' : (ρ ++ ε)[i]? = some s := by rw [get_app hi]; exact hs
  obtain ⟨⟨v, h1, h2⟩, h3⟩ := o1 i s c hs' hc
  rw [get_app hi'] at h1
  refine ⟨v, fp i, h1, h2, fun a ha => (h3 a ha).1, h2.there, fun c' F' H' fp' sF sFH gr k1 k2 k3 k4 => ?_⟩
  have ec : (s.put c').cell = some c' := by cases s <;> first | rfl | cases hc
  have get : ∀ (j : Nat) (s1 : Slot), (ρ.set i (s.put c') ++ ε)[j]? = some s1 → (j = i ∧ s1 = s.put c') ∨ (j ≠ i ∧ (ρ ++ ε)[j]? = some s1) := fun j s1 h => by
    by_cases z : j = i
    · subst z
      rw [get_app (by rw [List.length_set]; exact hi), List.getElem?_set_self hi] at h
      exact .inl ⟨rfl, (Option.some.inj h).symm⟩
    · refine .inr ⟨z, ?_⟩
      rw [← List.set_append_left _ _ hi, List.getElem?_set_ne (fun e => z e.symm)] at h
      exact h
  have oth : ∀ (j : Nat) s1 c1, j ≠ i → (ρ ++ ε)[j]? = some s1 → s1.cell = some c1 → ∀ a ∈ fp j, a ∉ fp i := fun j s1 c1 hj e1 e2 => o2 j i s1 s c1 c hj e1 e2 hs' hc
  refine ⟨by rw [List.length_set]; exact R.len, ⟨sFH, by rw [List.length_append, List.length_append, List.length_set, R.len]; have := R.rel.len; rw [List.length_append, List.length_append, R.len] at this; omega, fun j d hj => ?_, fun j c1 hj => ?_, ⟨fun j => if j = i then fp' else fp j, fun j s1 c1 hj hc1 => ?_, fun j k s1 s2 c1 c2 hjk e1 e2 e3 e4 a ha => ?_⟩, fun a o q n => ?_, fun a o q => ?_, fun a o q => ?_, R.rel.f0.trans sF⟩, R.nio⟩
  · rcases get j _ hj with ⟨_, q⟩ | ⟨_, q⟩
    · cases s <;> cases q <;> cases hc
    · obtain ⟨v1, g1, g2⟩ := R.rel.fz j d q
      exact ⟨v1, g1, g2.mono sF⟩
  · rcases get j _ hj with ⟨q1, q⟩ | ⟨_, q⟩
    · subst q1
      cases s with
      | io c2 =>
        exact R.rel.io j c2 hs'
      | _ => cases q
    · exact R.rel.io j c1 q
  · rcases get j _ hj with ⟨q1, q⟩ | ⟨q1, q⟩
    · subst q1
      subst q
      rw [ec] at hc1
      cases hc1
      show (∃ v, (σ ++ τ)[j]? = some (some v) ∧ CellAt F' H' v (if j = j then fp' else fp j) c') ∧ ∀ a ∈ (if j = j then fp' else fp j), _
      rw [if_pos rfl]
      refine ⟨⟨v, by rw [get_app hi']; exact h1, k4⟩, fun a ha => ⟨(k2 a ha).1, ?_⟩⟩
      rcases (k2 a ha).2 with q | q
      · rcases (h3 a q).2 with z | ⟨z, c2, e⟩
        · exact .inl z
        · subst e; exact .inr ⟨z, c', rfl⟩
      · cases z : W.H0 a with
        | none => exact .inl rfl
        | some o =>
          obtain ⟨o', e⟩ := R.rel.st a o z
          rw [e] at q; cases q
    · show (∃ v, (σ ++ τ)[j]? = some (some v) ∧ CellAt F' H' v (if j = i then fp' else fp j) c1) ∧ ∀ a ∈ (if j = i then fp' else fp j), _
      rw [if_neg q1]
      obtain ⟨⟨v1, g1, g2⟩, g3⟩ := o1 j s1 c1 q hc1
      refine ⟨⟨v1, g1, g2.mono sF fun a ha => ?_⟩, fun a ha => ⟨?_, (g3 a ha).2⟩⟩
      · obtain ⟨o, e⟩ := g2.there a ha
        rw [e, k1 a o (oth j s1 c1 q1 q hc1 a ha) e]
      · cases z : F' a with
        | none => rfl
        | some o =>
          obtain ⟨u, e⟩ := g2.there a ha
          rcases gr a o z with y | y
          · rw [(g3 a ha).1] at y; cases y
          · rw [e] at y; cases y
  · have case1 : ∀ (j : Nat) s1 c1, j ≠ i → (ρ ++ ε)[j]? = some s1 → s1.cell = some c1 → ∀ a ∈ fp j, a ∉ fp' := fun j s1 c1 hj e1 e2 a ha m => by
      rcases (k2 a m).2 with q | q
      · exact oth j s1 c1 hj e1 e2 a ha q
      · obtain ⟨⟨v1, g1, g2⟩, g3⟩ := o1 j s1 c1 e1 e2
        obtain ⟨o, e⟩ := g2.there a ha
        rw [e] at q; cases q
    have ha : a ∈ (if j = i then fp' else fp j) := ha
    show a ∉ (if k = i then fp' else fp k)
    rcases get j _ e1 with ⟨q1, q⟩ | ⟨q1, q⟩
    · rcases get k _ e3 with ⟨r1, r⟩ | ⟨r1, r⟩
      · exact absurd (q1.trans r1.symm) hjk
      · rw [if_pos q1] at ha
        rw [if_neg r1]
        exact fun m => case1 k s2 c2 r1 r e4 a m ha
    · rw [if_neg q1] at ha
      rcases get k _ e3 with ⟨r1, r⟩ | ⟨r1, r⟩
      · rw [if_pos r1]
        exact case1 j s1 c1 q1 q e2 a ha
      · rw [if_neg r1]
        exact o2 j k s1 s2 c1 c2 hjk q e2 r e4 a ha
  · by_cases m : a ∈ fp i
    · rcases (h3 a m).2 with z | ⟨z, _⟩
      · rw [z] at q; cases q
      · exact absurd z (n i)
    · exact k1 a o m (R.rel.fr a o q n)
  · obtain ⟨o', e⟩ := R.rel.st a o q
    by_cases m : a ∈ fp i
    · exact k3 a m
    · exact ⟨o', k1 a o' m e⟩
  · rcases gr a o q with z | z
    · exact R.rel.gr a o z
    · cases y : W.H0 a with
      | none => exact .inr rfl
      | some u =>
        obtain ⟨o', e⟩ := R.rel.st a u y
        rw [e] at z; cases z
theorem At.cell (R : At W F H σ τ ρ ε) (hs : ρ[i]? = some s) (hc : s.cell = some c) : ∃ v fp, σ[i]? = some (some v) ∧ CellAt F H v fp c ∧ (∀ a ∈ fp, F a = none) ∧
    ∀ c' H' fp', (∀ a o, a ∉ fp → H a = some o → H' a = some o) → (∀ a ∈ fp', a ∈ fp ∨ H a = none) → (∀ a ∈ fp, ∃ o, H' a = some o) → CellAt F H' v fp' c' → At W F H' σ τ (ρ.set i (s.put c')) ε := by
  obtain ⟨v, fp, h1, h2, h3, h4, h5⟩ := R.cellX hs hc
  refine ⟨v, fp, h1, h2, h3, fun c' H' fp' k1 k2 k3 k4 => h5 c' F H' fp' (Same.refl _) (fun a o q => k1 a o (fun m => ?_) (R.ex a o q)) (fun a o q => .inl q) k1 (fun a ha => ⟨?_, k2 a ha⟩) k3 k4⟩
  · rw [h3 a m] at q; cases q
  · rcases k2 a ha with q | q
    · exact h3 a q
    · exact R.ex.free q

/-- what one name alone holds is frozen -/
theorem At.freeze (R : At W F H σ τ ρ ε) (hs : ρ[i]? = some (Slot.ow c)) (hd : c.d = some d) : ∃ v F', σ[i]? = some (some v) ∧ Rep F' v d ∧ Same F F' ∧ At W F' H σ τ (ρ.set i (.fz d)) ε := by
  have hi := lt_of_get hs
  have hi' : i < σ.length := by rw [R.len]; exact hi
  obtain ⟨fp, o1, o2⟩ := R.rel.ow
  have hs' : (ρ ++ ε)[i]? = some (Slot.ow c) := by rw [get_app hi]; exact hs
  obtain ⟨⟨v, h1, h2⟩, h3⟩ := o1 i _ c hs' rfl
  rw [get_app hi'] at h1
  -- the frozen part with the cell's addresses
  let F' : Hp := fun a => if a ∈ fp i then H a else F a
  have inF : ∀ a, a ∈ fp i → F' a = H a := fun a m => by show (if a ∈ fp i then H a else F a) = H a; rw [if_pos m]
  have outF : ∀ a, a ∉ fp i → F' a = F a := fun a m => by show (if a ∈ fp i then H a else F a) = F a; rw [if_neg m]
  have sF : Same F F' := fun a o q => by
    by_cases m : a ∈ fp i
    · rw [(h3 a m).1] at q; cases q
    · rw [outF a m]; exact q
  have sH : Same F' H := fun a o q => by
    by_cases m : a ∈ fp i
    · rw [inF a m] at q; exact q
    · rw [outF a m] at q; exact R.ex a o q
  have rp : Rep F' v d := by
    cases c with
    | l ds =>
      obtain ⟨p, xs, rfl, e2, e3, e4⟩ := h2
      cases hd
      exact .lst (by rw [inF p (by rw [e2]; simp)]; exact e3) (e4.mono sF)
    | dk ks =>
      obtain ⟨p, kvs, rfl, e2, e3, e4, e5⟩ := h2
      cases hd
      have r := Rep.dk (F := F') (a := p) (kvs := kvs) (by rw [inF p (by rw [e2]; simp)]; exact e3) (e5.mono sF)
      rw [e4, zip_map] at r
      exact r
    | dt ks =>
      obtain ⟨p, kvs, rfl, e2, e3, e4, e5⟩ := h2
      cases hd
      have r := Rep.dt (F := F') (a := p) (kvs := kvs) (by rw [inF p (by rw [e2]; simp)]; exact e3) (e5.mono sF)
      rw [e4, zip_map] at r
      exact r
    | ob C ns ds =>
      obtain ⟨p, dx, fs, rfl, e2, e3, e4, e5, e6⟩ := h2
      cases hd
      subst e5
      exact .ob (by rw [inF p (by rw [e2]; simp)]; exact e3) (by rw [inF dx (by rw [e2]; simp)]; exact e4) (e6.mono sF)
    | ll dss =>
      obtain ⟨p, xs, fq, rfl, e2, n, e3, e4⟩ := h2
      cases hd
      refine .lst (by rw [inF p (by rw [e2]; simp)]; exact e3) ?_
      have hq : ∀ a ∈ fq, F' a = H a := fun a ha => inF a (by rw [e2]; exact List.mem_cons_of_mem _ ha)
      clear e2 e3 h3 h1 hs' hs o1 o2
      induction e4 with
      | nil => exact .nil
      | @cons a vs fp xs ds dss g1 g2 g3 g4 ih =>
        exact .cons (.lst (by rw [hq a List.mem_cons_self]; exact g1) (g2.mono sF)) (ih (fun q => n (List.mem_cons_of_mem _ q)) fun b hb => hq b (List.mem_cons_of_mem _ hb))
    | nl gs rest => cases hd
    | ext x => cases hd
  refine ⟨v, F', h1, rp, sF, ⟨by rw [List.length_set]; exact R.len, ?_, R.nio⟩⟩
  have get : ∀ (j : Nat) (s1 : Slot), (ρ.set i (.fz d) ++ ε)[j]? = some s1 → (j = i ∧ s1 = .fz d) ∨ (j ≠ i ∧ (ρ ++ ε)[j]? = some s1) := fun j s1 h => by
    by_cases z : j = i
    · subst z
      rw [get_app (by rw [List.length_set]; exact hi), List.getElem?_set_self hi] at h
      exact .inl ⟨rfl, (Option.some.inj h).symm⟩
    · refine .inr ⟨z, ?_⟩
      rw [← List.set_append_left _ _ hi, List.getElem?_set_ne (fun e => z e.symm)] at h
      exact h
  refine ⟨sH, by rw [List.length_append, List.length_append, List.length_set, R.len]; have := R.rel.len; rw [List.length_append, List.length_append, R.len] at this; omega, fun j d' hj => ?_, fun j c1 hj => ?_, ⟨fp, fun j s1 c1 hj hc1 => ?_, fun j k s1 s2 c1 c2 hjk e1 e2 e3 e4 => ?_⟩, R.rel.fr, R.rel.st, fun a o q => ?_, R.rel.f0.trans sF⟩
  · rcases get j _ hj with ⟨q1, q⟩ | ⟨_, q⟩
    · cases q; subst q1
      exact ⟨v, by rw [get_app hi']; exact h1, rp⟩
    · obtain ⟨v1, g1, g2⟩ := R.rel.fz j d' q
      exact ⟨v1, g1, g2.mono sF⟩
  · rcases get j _ hj with ⟨q1, q⟩ | ⟨_, q⟩
    · cases q
    · exact R.rel.io j c1 q
  · rcases get j _ hj with ⟨q1, q⟩ | ⟨q1, q⟩
    · subst q; cases hc1
    · obtain ⟨⟨v1, g1, g2⟩, g3⟩ := o1 j s1 c1 q hc1
      refine ⟨⟨v1, g1, g2.mono sF fun a ha => rfl⟩, fun a ha => ⟨?_, (g3 a ha).2⟩⟩
      rw [outF a (o2 j i s1 _ c1 c q1 q hc1 hs' rfl a ha)]
      exact (g3 a ha).1
  · rcases get j _ e1 with ⟨q1, q⟩ | ⟨q1, q⟩
    · subst q; cases e2
    · rcases get k _ e3 with ⟨r1, r⟩ | ⟨r1, r⟩
      · subst r; cases e4
      · exact o2 j k s1 s2 c1 c2 hjk q e2 r e4
  · by_cases m : a ∈ fp i
    · rcases (h3 a m).2 with z | ⟨_, c', z⟩
      · exact .inr z
      · cases z
    · rw [outF a m] at q
      exact R.rel.gr a o q

theorem At.remap {σ' τ' : L2.St} {ρ' ε' : Rho} (R : At W F H σ τ ρ ε) (hl : σ'.length = ρ'.length) (hl2 : (σ' ++ τ').length = (ρ' ++ ε').length) (f : Nat → Nat)
    (h : ∀ (j : Nat) s, (ρ' ++ ε')[j]? = some s → s = .no ∨ (∃ s0, (ρ ++ ε)[f j]? = some s0 ∧ s0 = s ∧ (σ' ++ τ')[j]? = (σ ++ τ)[f j]?)) (hio : ∀ (j : Nat) c, (ρ' ++ ε')[j]? = some (Slot.io c) → f j = j)
    (inj : ∀ (i j : Nat) s s', (ρ' ++ ε')[i]? = some s → (ρ' ++ ε')[j]? = some s' → s.cell.isSome = true → s'.cell.isSome = true → f i = f j → i = j) (nio : ∀ (j : Nat) c, ε'[j]? ≠ some (Slot.io c)) : At W F H σ' τ' ρ' ε' := by
  refine ⟨hl, R.rel.remap rfl rfl rfl f hl2 h (fun j c hj => ?_) inj, nio⟩
  rcases h j _ hj with q | ⟨s0, q1, q2, q3⟩
  · cases q
  · subst q2
    rw [q3, hio j c hj]
    rw [hio j c hj] at q1
    exact ⟨R.rel.io j c q1, rfl⟩
/-- a name takes frozen data -/
theorem At.setFz (R : At W F H σ τ ρ ε) (hv : Rep F v d) (hs : ∀ c, ρ[i]? ≠ some (Slot.io c)) : At W F H (σ.set i (some v)) τ (ρ.set i (.fz d)) ε := by
  obtain ⟨fp, o1, o2⟩ := R.rel.ow
  have hL : (σ.set i (some v) ++ τ).length = (ρ.set i (.fz d) ++ ε).length := by
    have := R.rel.len
    rw [List.length_append, List.length_append] at this ⊢
    rw [List.length_set, List.length_set]; exact this
  have get : ∀ (j : Nat) (s1 : Slot), (ρ.set i (.fz d) ++ ε)[j]? = some s1 → (j = i ∧ s1 = .fz d ∧ i < ρ.length) ∨ ((j ≠ i ∨ ρ.length ≤ i) ∧ (ρ ++ ε)[j]? = some s1 ∧ (σ.set i (some v) ++ τ)[j]? = (σ ++ τ)[j]?) := fun j s1 h => by
    by_cases hi : i < ρ.length
    · by_cases z : j = i
      · subst z
        rw [get_app (by rw [List.length_set]; exact hi), List.getElem?_set_self hi] at h
        exact .inl ⟨rfl, (Option.some.inj h).symm, hi⟩
      · refine .inr ⟨.inl z, ?_, ?_⟩
        · rw [← List.set_append_left _ _ hi, List.getElem?_set_ne (fun e => z e.symm)] at h
          exact h
        · rw [← List.set_append_left _ _ (by rw [R.len]; exact hi), List.getElem?_set_ne (fun e => z e.symm)]
    · rw [List.set_eq_of_length_le (by omega)] at h
      refine .inr ⟨.inr (by omega), h, ?_⟩
      rw [List.set_eq_of_length_le (by rw [R.len]; omega)]
  refine ⟨by rw [List.length_set, List.length_set]; exact R.len, ⟨R.ex, hL, fun j d' hj => ?_, fun j c1 hj => ?_, ⟨fp, fun j s1 c1 hj hc1 => ?_, fun j k s1 s2 c1 c2 hjk e1 e2 e3 e4 => ?_⟩, R.rel.fr, R.rel.st, R.rel.gr, R.rel.f0⟩, R.nio⟩
  · rcases get j _ hj with ⟨q1, q, q3⟩ | ⟨_, q, q3⟩
    · cases q; subst q1
      exact ⟨v, by rw [get_app (by rw [List.length_set, R.len]; exact q3), List.getElem?_set_self (by rw [R.len]; exact q3)], hv⟩
    · rw [q3]; exact R.rel.fz j d' q
  · rcases get j _ hj with ⟨q1, q, _⟩ | ⟨_, q, q3⟩
    · cases q
    · rw [q3]; exact R.rel.io j c1 q
  · rcases get j _ hj with ⟨q1, q, _⟩ | ⟨q1, q, q3⟩
    · subst q; cases hc1
    · rw [q3]; exact o1 j s1 c1 q hc1
  · rcases get j _ e1 with ⟨q1, q, _⟩ | ⟨q1, q, _⟩
    · subst q; cases e2
    · rcases get k _ e3 with ⟨r1, r, _⟩ | ⟨r1, r, _⟩
      · subst r; cases e4
      · exact o2 j k s1 s2 c1 c2 hjk q e2 r e4
/-- a new object, held -/
theorem At.extNew {fpc : List Addr} (R0 : At W F0 H0 σ τ ρ ε) (ee : Ext F0 H0 F H) (hc : CellAt F H v fpc c) (hf : ∀ a ∈ fpc, F a = none ∧ H0 a = none) : At W F H σ (some v :: τ) ρ (.ow c :: ε) := by
  have R := R0.ext ee
  obtain ⟨fp, o1, o2⟩ := R0.rel.ow
  have hlen : (σ ++ τ).length = (ρ ++ ε).length := R.rel.len
  have hlt : τ.length = ε.length := by rw [List.length_append, List.length_append, R.len] at hlen; omega
  let f : Nat → Nat := fun j => if j < ρ.length then j else j - 1
  have get : ∀ (j : Nat) (s1 : Slot), (ρ ++ (.ow c :: ε))[j]? = some s1 → (j = ρ.length ∧ s1 = .ow c ∧ (σ ++ (some v :: τ))[j]? = some (some v)) ∨ (j ≠ ρ.length ∧ (ρ ++ ε)[f j]? = some s1 ∧ (σ ++ (some v :: τ))[j]? = (σ ++ τ)[f j]?) := fun j s1 h => by
    by_cases z : j < ρ.length
    · refine .inr ⟨by omega, ?_, ?_⟩
      · show (ρ ++ ε)[if j < ρ.length then j else j - 1]? = _
        rw [if_pos z, get_app z]
        rw [get_app z] at h; exact h
      · show _ = (σ ++ τ)[if j < ρ.length then j else j - 1]?
        rw [if_pos z, get_app (by rw [R.len]; exact z), get_app (by rw [R.len]; exact z)]
    · by_cases z2 : j = ρ.length
      · subst z2
        rw [List.getElem?_append_right (Nat.le_refl _), Nat.sub_self] at h
        refine .inl ⟨rfl, (Option.some.inj h).symm, ?_⟩
        rw [List.getElem?_append_right (by rw [R.len]; exact Nat.le_refl _), R.len, Nat.sub_self]
        rfl
      · refine .inr ⟨z2, ?_, ?_⟩
        · show (ρ ++ ε)[if j < ρ.length then j else j - 1]? = _
          rw [if_neg z, List.getElem?_append_right (by omega)]
          rw [List.getElem?_append_right (by omega)] at h
          obtain ⟨m, hm⟩ : ∃ m, j - ρ.length = m + 1 := ⟨j - ρ.length - 1, by omega⟩
          rw [hm, List.getElem?_cons_succ] at h
          rw [show j - 1 - ρ.length = m by omega]; exact h
        · show _ = (σ ++ τ)[if j < ρ.length then j else j - 1]?
          have z' : ¬ j < σ.length := by rw [R.len]; exact z
          rw [if_neg z, List.getElem?_append_right (by omega), List.getElem?_append_right (by rw [R.len]; omega)]
          obtain ⟨m, hm⟩ : ∃ m, j - σ.length = m + 1 := ⟨j - σ.length - 1, by rw [R.len]; omega⟩
          rw [hm, List.getElem?_cons_succ, show j - 1 - σ.length = m by omega]
  refine ⟨R.len, ⟨R.ex, by rw [List.length_append, List.length_append, List.length_cons, List.length_cons, R.len, hlt], fun j d' hj => ?_, fun j c1 hj => ?_, ⟨fun j => if j = ρ.length then fpc else fp (f j), fun j s1 c1 hj hc1 => ?_, fun j k s1 s2 c1 c2 hjk e1 e2 e3 e4 a ha => ?_⟩, R.rel.fr, R.rel.st, R.rel.gr, R.rel.f0⟩, fun j c1 hj => ?_⟩
  · rcases get j _ hj with ⟨_, q, _⟩ | ⟨_, q, q3⟩
    · cases q
    · rw [q3]; exact R.rel.fz _ d' q
  · rcases get j _ hj with ⟨_, q, _⟩ | ⟨z, q, q3⟩
    · cases q
    · rw [q3, R.rel.io _ c1 q]
      -- an io stands among the names
      by_cases z1 : j < ρ.length
      · show W.vs0[if j < ρ.length then j else j - 1]? = _
        rw [if_pos z1]
      · exfalso
        have q' : (ρ ++ ε)[if j < ρ.length then j else j - 1]? = some (Slot.io c1) := q
        rw [if_neg z1, List.getElem?_append_right (by omega)] at q'
        exact R.nio _ c1 q'
  · rcases get j _ hj with ⟨q1, q, q3⟩ | ⟨q1, q, q3⟩
    · subst q; cases hc1
      show (∃ v', _ ∧ CellAt F H v' (if j = ρ.length then fpc else fp (f j)) c) ∧ ∀ a ∈ (if j = ρ.length then fpc else fp (f j)), _
      rw [if_pos q1]
      refine ⟨⟨v, q3, hc⟩, fun a ha => ⟨(hf a ha).1, .inl ?_⟩⟩
      cases z : W.H0 a with
      | none => rfl
      | some u =>
        obtain ⟨o', e⟩ := R0.rel.st a u z
        rw [(hf a ha).2] at e; cases e
    · show (∃ v', _ ∧ CellAt F H v' (if j = ρ.length then fpc else fp (f j)) c1) ∧ ∀ a ∈ (if j = ρ.length then fpc else fp (f j)), _
      rw [if_neg q1, q3]
      obtain ⟨⟨v1, g1, g2⟩, g3⟩ := o1 _ s1 c1 q hc1
      refine ⟨⟨v1, g1, g2.mono ee.fF fun a ha => ?_⟩, fun a ha => ⟨?_, ?_⟩⟩
      · obtain ⟨u, e⟩ := g2.there a ha
        rw [e, ee.hH a u e]
      rotate_left
      · rcases (g3 a ha).2 with z | ⟨z, c', e⟩
        · exact .inl z
        · subst e
          have ef : f j = j := by
            by_cases z1 : j < ρ.length
            · exact if_pos z1
            · exfalso
              have q' : (ρ ++ ε)[if j < ρ.length then j else j - 1]? = some (Slot.io c') := q
              rw [if_neg z1, List.getElem?_append_right (by omega)] at q'
              exact R.nio _ c' q'
          rw [ef] at z
          exact .inr ⟨z, c', rfl⟩
      · cases z : F a with
        | none => rfl
        | some u =>
          obtain ⟨u2, e⟩ := g2.there a ha
          rcases ee.nw a u z with y | y
          · rw [(g3 a ha).1] at y; cases y
          · rw [e] at y; cases y
  · have ha : a ∈ (if j = ρ.length then fpc else fp (f j)) := ha
    show a ∉ (if k = ρ.length then fpc else fp (f k))
    have far : ∀ (j : Nat) s1 c1, (ρ ++ ε)[j]? = some s1 → s1.cell = some c1 → ∀ a ∈ fp j, a ∉ fpc := fun j s1 c1 g1 g2 a m z => by
      obtain ⟨⟨v1, g3, g4⟩, g5⟩ := o1 j s1 c1 g1 g2
      obtain ⟨u, e⟩ := g4.there a m
      rw [(hf a z).2] at e; cases e
    rcases get j _ e1 with ⟨q1, q, _⟩ | ⟨q1, q, _⟩
    · rcases get k _ e3 with ⟨r1, r, _⟩ | ⟨r1, r, _⟩
      · exact absurd (q1.trans r1.symm) hjk
      · rw [if_pos q1] at ha
        rw [if_neg r1]
        exact fun m => far _ s2 c2 r e4 a m ha
    · rw [if_neg q1] at ha
      rcases get k _ e3 with ⟨r1, r, _⟩ | ⟨r1, r, _⟩
      · rw [if_pos r1]
        exact far _ s1 c1 q e2 a ha
      · rw [if_neg r1]
        refine o2 _ _ s1 s2 c1 c2 (fun z => hjk ?_) q e2 r e4 a ha
        have z : (if j < ρ.length then j else j - 1) = (if k < ρ.length then k else k - 1) := z
        by_cases y1 : j < ρ.length
        · by_cases y2 : k < ρ.length
          · rw [if_pos y1, if_pos y2] at z; exact z
          · rw [if_pos y1, if_neg y2] at z; omega
        · by_cases y2 : k < ρ.length
          · rw [if_neg y1, if_pos y2] at z; omega
          · rw [if_neg y1, if_neg y2] at z; omega
  · cases j with
    | zero => cases hj
    | succ j => exact R.nio j c1 hj

theorem At.new {p : Addr} {o : HO} (R : At W F H σ τ ρ ε) (hp : H p = none) (hc : CellAt F (upd H p o) v [p] c) : At W F (upd H p o) σ (some v :: τ) ρ (.ow c :: ε) :=
  R.extNew ⟨Same.refl _, fun b u q => by rw [upd_ne (ne_of_none q hp)]; exact q, fun b u q => by rw [upd_ne (ne_of_none q (R.ex.free hp))]; exact R.ex b u q, fun a o q => .inl q⟩ hc fun a ha => by
    rw [List.mem_singleton.mp ha]
    exact ⟨R.ex.free hp, hp⟩
/-- what waits first becomes a name's -/
theorem At.setNew (R : At W F H σ (some v :: τ) ρ (.ow c :: ε)) (hi : i < ρ.length) (hs : ∀ c, ρ[i]? ≠ some (Slot.io c)) : At W F H (σ.set i (some v)) τ (ρ.set i (.ow c)) ε := by
  have hl := R.len
  have hlt : τ.length = ε.length := by have := R.rel.len; rw [List.length_append, List.length_append, List.length_cons, List.length_cons] at this; omega
  have hi' : i < σ.length := by omega
  refine R.remap (by rw [List.length_set, List.length_set]; exact hl) (by rw [List.length_append, List.length_append, List.length_set, List.length_set, hl, hlt]) (fun j => if j = i then ρ.length else if j < ρ.length then j else j + 1) (fun j s hj => .inr ⟨s, ?_, rfl, ?_⟩) (fun j c' hj => ?_) (fun j k s1 s2 e1 e2 e3 e4 ef => ?_) (fun j c' hj => R.nio (j + 1) c' (by rw [List.getElem?_cons_succ]; exact hj))
  · show (ρ ++ _)[if j = i then ρ.length else if j < ρ.length then j else j + 1]? = _
    by_cases z : j = i
    · subst z
      rw [if_pos rfl, List.getElem?_append_right (Nat.le_refl _), Nat.sub_self]
      rw [get_app (by rw [List.length_set]; exact hi), List.getElem?_set_self hi] at hj
      exact hj
    · rw [if_neg z]
      rw [← List.set_append_left _ _ hi, List.getElem?_set_ne (fun e => z e.symm)] at hj
      by_cases y : j < ρ.length
      · rw [if_pos y, get_app y]; rw [get_app y] at hj; exact hj
      · rw [if_neg y, List.getElem?_append_right (by omega)]
        rw [List.getElem?_append_right (by omega)] at hj
        rw [show j + 1 - ρ.length = (j - ρ.length) + 1 by omega, List.getElem?_cons_succ]; exact hj
  · show _ = (σ ++ _)[if j = i then ρ.length else if j < ρ.length then j else j + 1]?
    by_cases z : j = i
    · subst z
      rw [if_pos rfl, get_app (by rw [List.length_set]; exact hi'), List.getElem?_set_self hi', List.getElem?_append_right (by omega), ← hl, Nat.sub_self]
      rfl
    · rw [if_neg z, ← List.set_append_left _ _ hi', List.getElem?_set_ne (fun e => z e.symm)]
      by_cases y : j < ρ.length
      · rw [if_pos y, get_app (by omega), get_app (by omega)]
      · rw [if_neg y, List.getElem?_append_right (by omega), List.getElem?_append_right (by omega), show j + 1 - σ.length = (j - σ.length) + 1 by omega, List.getElem?_cons_succ]
  · show (if j = i then ρ.length else if j < ρ.length then j else j + 1) = j
    have z : j ≠ i := fun z => by
      subst z
      rw [get_app (by rw [List.length_set]; exact hi), List.getElem?_set_self hi] at hj
      cases hj
    have y : j < ρ.length := by
      rw [← List.set_append_left _ _ hi, List.getElem?_set_ne (fun e => z e.symm)] at hj
      by_cases y : j < ρ.length
      · exact y
      · rw [List.getElem?_append_right (by omega)] at hj
        exact absurd (show (Slot.ow c :: ε)[(j - ρ.length) + 1]? = _ by rw [List.getElem?_cons_succ]; exact hj) (R.nio _ c')
    rw [if_neg z, if_pos y]
  · have ef : (if j = i then ρ.length else if j < ρ.length then j else j + 1) = (if k = i then ρ.length else if k < ρ.length then k else k + 1) := ef
    by_cases z1 : j = i
    · by_cases z2 : k = i
      · rw [z1, z2]
      · rw [if_pos z1, if_neg z2] at ef
        by_cases y : k < ρ.length
        · rw [if_pos y] at ef; omega
        · rw [if_neg y] at ef; omega
    · by_cases z2 : k = i
      · rw [if_neg z1, if_pos z2] at ef
        by_cases y : j < ρ.length
        · rw [if_pos y] at ef; omega
        · rw [if_neg y] at ef; omega
      · rw [if_neg z1, if_neg z2] at ef
        by_cases y : j < ρ.length
        · by_cases y2 : k < ρ.length
          · rw [if_pos y, if_pos y2] at ef; exact ef
          · rw [if_pos y, if_neg y2] at ef; omega
        · by_cases y2 : k < ρ.length
          · rw [if_neg y, if_pos y2] at ef; omega
          · rw [if_neg y, if_neg y2] at ef; omega
theorem At.toName (R : At W F H σ (some v :: τ) ρ (s :: ε)) : At W F H (σ ++ [some v]) τ (ρ ++ [s]) ε := ⟨by rw [List.length_append, List.length_append, R.len]; rfl, by
  have := R.rel
  rw [List.append_assoc, List.append_assoc]; exact this, fun j c hj => R.nio (j + 1) c (by rw [List.getElem?_cons_succ]; exact hj)⟩
theorem At.ofName (R : At W F H (σ ++ [some v]) τ (ρ ++ [s]) ε) (hs : ∀ c, s ≠ .io c) : At W F H σ (some v :: τ) ρ (s :: ε) := ⟨by have := R.len; rw [List.length_append, List.length_append] at this; simpa using this, by
  have := R.rel
  rw [List.append_assoc, List.append_assoc] at this; exact this, fun j c hj => by
    cases j with
    | zero => exact hs c (Option.some.inj hj)
    | succ j => exact R.nio j c hj⟩
/-- what waits first is let go -/
theorem At.drop {t : Option V} (R : At W F H σ (t :: τ) ρ (s :: ε)) : At W F H σ τ ρ ε := by
  have hl := R.len
  have hlt : τ.length = ε.length := by have := R.rel.len; rw [List.length_append, List.length_append, List.length_cons, List.length_cons] at this; omega
  refine R.remap hl (by rw [List.length_append, List.length_append, hl, hlt]) (fun j => if j < ρ.length then j else j + 1) (fun j s hj => .inr ⟨s, ?_, rfl, ?_⟩) (fun j c' hj => ?_) (fun j k s1 s2 e1 e2 e3 e4 ef => ?_) (fun j c' hj => R.nio (j + 1) c' (by rw [List.getElem?_cons_succ]; exact hj))
  · show (ρ ++ _)[if j < ρ.length then j else j + 1]? = _
    by_cases y : j < ρ.length
    · rw [if_pos y, get_app y]; rw [get_app y] at hj; exact hj
    · rw [if_neg y, List.getElem?_append_right (by omega)]
      rw [List.getElem?_append_right (by omega)] at hj
      rw [show j + 1 - ρ.length = (j - ρ.length) + 1 by omega, List.getElem?_cons_succ]; exact hj
  · show _ = (σ ++ _)[if j < ρ.length then j else j + 1]?
    by_cases y : j < ρ.length
    · rw [if_pos y, get_app (by omega), get_app (by omega)]
    · rw [if_neg y, List.getElem?_append_right (by omega), List.getElem?_append_right (by omega), show j + 1 - σ.length = (j - σ.length) + 1 by omega, List.getElem?_cons_succ]
  · show (if j < ρ.length then j else j + 1) = j
    by_cases y : j < ρ.length
    · rw [if_pos y]
    · rw [List.getElem?_append_right (by omega)] at hj
      exact absurd (show (s :: ε)[(j - ρ.length) + 1]? = _ by rw [List.getElem?_cons_succ]; exact hj) (R.nio _ c')
  · have ef : (if j < ρ.length then j else j + 1) = (if k < ρ.length then k else k + 1) := ef
    by_cases y : j < ρ.length
    · by_cases y2 : k < ρ.length
      · rw [if_pos y, if_pos y2] at ef; exact ef
      · rw [if_pos y, if_neg y2] at ef; omega
    · by_cases y2 : k < ρ.length
      · rw [if_neg y, if_pos y2] at ef; omega
      · rw [if_neg y, if_neg y2] at ef; omega
/-- what waits first is frozen -/
theorem At.freezeNew (R : At W F H σ (some v :: τ) ρ (.ow c :: ε)) (hd : c.d = some d) : ∃ F', Rep F' v d ∧ Same F F' ∧ At W F' H σ τ ρ ε := by
  have R1 := R.toName
  obtain ⟨v', F', h1, h2, h3, R2⟩ := R1.freeze (i := ρ.length) (c := c) (d := d) (by rw [List.getElem?_append_right (Nat.le_refl _), Nat.sub_self]; rfl) hd
  rw [List.getElem?_append_right (by rw [R.len]; exact Nat.le_refl _), R.len, Nat.sub_self] at h1
  cases h1
  refine ⟨F', h2, h3, At.drop (t := some v) (s := .fz d) (At.ofName (v := v) ?_ (fun c z => by cases z))⟩
  have e : (ρ ++ [Slot.ow c]).set ρ.length (Slot.fz d) = ρ ++ [Slot.fz d] := by
    rw [List.set_append_right _ _ (Nat.le_refl _), Nat.sub_self]
    rfl
  rw [e] at R2
  exact R2
end

open PySem L2

abbrev DE := Rho → (D → Rho → Prop) → Prop
abbrev DN := Rho → (Cell → Rho → Prop) → Prop
abbrev DT := Rho → (Bool → Rho → Prop) → Prop
abbrev DA := Rho → (List D → Rho → Prop) → Prop
abbrev G1 := D → (D → Prop) → Prop
abbrev G2 := D → D → (D → Prop) → Prop
abbrev GA := List D → (D → Prop) → Prop

/-! ### a reading at the level of data holds of a reading of the hand layer -/
def SndE (W : Ent) (te : TE) (de : DE) : Prop := ∀ F H σ τ ρ ε (Q : D → Rho → Prop) (k : VK), At W F H σ τ ρ ε → de ρ Q →
  (∀ F' H' ρ' v d, At W F' H' σ τ ρ' ε → Same F F' → Rep F' v d → Q d ρ' → k v H') → te σ H k
def SndN (W : Ent) (te : TE) (dn : DN) : Prop := ∀ F H σ τ ρ ε (Q : Cell → Rho → Prop) (k : VK), At W F H σ τ ρ ε → dn ρ Q →
  (∀ F' H' ρ' v c, At W F' H' σ (some v :: τ) ρ' (.ow c :: ε) → Same F F' → Q c ρ' → k v H') → te σ H k
def SndT (W : Ent) (tt : TT) (dt : DT) : Prop := ∀ F H σ τ ρ ε (Q : Bool → Rho → Prop) (k : Bool → Hp → Prop), At W F H σ τ ρ ε → dt ρ Q →
  (∀ F' H' ρ' b, At W F' H' σ τ ρ' ε → Same F F' → Q b ρ' → k b H') → tt σ H k
def SndA (W : Ent) (ta : TA) (da : DA) : Prop := ∀ F H σ τ ρ ε (Q : List D → Rho → Prop) (k : List V → Hp → Prop), At W F H σ τ ρ ε → da ρ Q →
  (∀ F' H' ρ' vs ds, At W F' H' σ τ ρ' ε → Same F F' → Reps F' vs ds → Q ds ρ' → k vs H') → ta σ H k

structure PDE (X : Cx) (W : Ent) (e : Expr) (de : DE) : Prop where
  ex : ∃ te, PE X e te ∧ SndE W te de
structure PDN (X : Cx) (W : Ent) (e : Expr) (dn : DN) : Prop where
  ex : ∃ te, PE X e te ∧ SndN W te dn
structure PDT (X : Cx) (W : Ent) (e : Expr) (dt : DT) : Prop where
  ex : ∃ tt, PT X e tt ∧ SndT W tt dt
structure PDA (X : Cx) (W : Ent) (es : List Expr) (da : DA) : Prop where
  ex : ∃ ta, PA X es ta ∧ SndA W ta da

/-! ### names, constants -/
def dVar (i : Nat) : DE := fun ρ Q => match ρ[i]? with
  | some (.fz d) => Q d ρ
  | some (.ow c) => match c.d with
    | some d => Q d (ρ.set i (.fz d))
    | none => False
  | _ => False
def dC (d : D) : DE := fun ρ Q => Q d ρ
def dFrz (dn : DN) : DE := fun ρ Q => dn ρ fun c ρ' => match c.d with
  | some d => Q d ρ'
  | none => False

section
variable {X : Cx} {W : Ent} {e a b : Expr} {de da db : DE} {dn : DN} {te ta tb : TE}
theorem snd_var {i : Nat} : SndE W (tVar i) (dVar i) := by
  intro F H σ τ ρ ε Q k R h q
  unfold dVar at h
  split at h
  · next d e =>
    obtain ⟨v, h1, h2⟩ := R.var e
    exact ⟨v, h1, q F H ρ v d R (Same.refl _) h2 h⟩
  · next c e =>
    split at h
    · next d e2 =>
      obtain ⟨v, F', h1, h2, h3, R'⟩ := R.freeze e e2
      exact ⟨v, h1, q F' H _ v d R' h3 h2 h⟩
    · exact h.elim
  · exact h.elim
theorem snd_c {v : V} {d : D} (hr : ∀ F, Rep F v d) : SndE W (tC v) (dC d) := fun F H σ τ ρ ε Q k R h q => q F H ρ v d R (Same.refl _) (hr F) h
theorem snd_frz (h : SndN W te dn) : SndE W te (dFrz dn) := by
  intro F H σ τ ρ ε Q k R hd q
  refine h F H σ τ ρ ε _ k R hd fun F' H' ρ' v c R' sF hc => ?_
  split at hc
  · next d e =>
    obtain ⟨F2, r, s2, R2⟩ := R'.freezeNew e
    exact q F2 H' ρ' v d R2 (sF.trans s2) r hc
  · exact hc.elim
theorem de_frz (h : PDN X W e dn) : PDE X W e (dFrz dn) := by
  obtain ⟨te, h1, h2⟩ := h.ex
  exact ⟨te, h1, snd_frz h2⟩
theorem de_var (i : Nat) {x : Str} {pos : Pos} (hN : X.N[i]? = some x := by rfl) (hv : Vis X.env.scope x := by first | exact Or.inl rfl | exact Or.inr (Or.inl rfl) | exact Or.inr (Or.inr rfl)) (hd : (x == ("__debug__" : Str)) = false := by decide)
    (hcd : (x == ("__classdict__" : Str)) = false := by decide) : PDE X W (.Name x pos) (dVar i) := ⟨_, pe_var hN hv hd hcd, snd_var⟩
theorem de_int {i j pos} : PDE X W (.Constant (.int i) j pos) (dC (.int i)) := ⟨_, pe_int, snd_c fun _ => .int i⟩
theorem de_bl {b j pos} : PDE X W (.Constant (.bool b) j pos) (dC (.bool b)) := ⟨_, pe_bl, snd_c fun _ => .bl b⟩
theorem de_non {j pos} : PDE X W (.Constant .none j pos) (dC .none) := ⟨_, pe_non, snd_c fun _ => .non⟩
theorem de_str {x j pos} : PDE X W (.Constant (.str x) j pos) (dC (.str x)) := ⟨_, pe_str, snd_c fun _ => .str x⟩
theorem de_globS {x : Str} {y : Str} {t : Tok} {pos : Pos} (hg : Gl X x) (hm : X.mg x = some (.str y t)) (hd : (x == ("__debug__" : Str)) = false := by decide) : PDE X W (.Name x pos) (dC (.str y)) := ⟨_, pe_glob hg hm (v := .str y) ⟨_, rfl⟩ hd, snd_c fun _ => .str y⟩
theorem de_globI {x : Str} {y : Int} {t : Tok} {pos : Pos} (hg : Gl X x) (hm : X.mg x = some (.int y t)) (hd : (x == ("__debug__" : Str)) = false := by decide) : PDE X W (.Name x pos) (dC (.int y)) := ⟨_, pe_glob hg hm (v := .int y) ⟨_, rfl⟩ hd, snd_c fun _ => .int y⟩
end

/-! ### operations on values -/
/-- g tells r: its result may be new -/
def OpD (r : R2) (g : G2) : Prop := ∀ F H x y d e (Q : D → Prop) (k : VK), Same F H → Rep F x d → Rep F y e → g d e Q → (∀ F' H' v z, Ext F H F' H' → Rep F' v z → Q z → k v H') → r x y H k
def UnD (r : V → Hp → VK → Prop) (g : G1) : Prop := ∀ F H x d (Q : D → Prop) (k : VK), Same F H → Rep F x d → g d Q → (∀ F' H' v z, Ext F H F' H' → Rep F' v z → Q z → k v H') → r x H k
def CaD (r : List V → Hp → VK → Prop) (g : GA) : Prop := ∀ F H xs ds (Q : D → Prop) (k : VK), Same F H → Reps F xs ds → g ds Q → (∀ F' H' v z, Ext F H F' H' → Rep F' v z → Q z → k v H') → r xs H k
def MtD (r : V → List V → Hp → VK → Prop) (g : D → GA) : Prop := ∀ F H x d xs ds (Q : D → Prop) (k : VK), Same F H → Rep F x d → Reps F xs ds → g d ds Q → (∀ F' H' v z, Ext F H F' H' → Rep F' v z → Q z → k v H') → r x xs H k
def OpR.or {X : Cx} {f : Value → Value → Sem Value} {r r' : R2} (h : OpR X f r) (h' : OpR X f r') : OpR X f (fun x y H Q => r x y H Q ∨ r' x y H Q) := by
  intro pins s σ H x y v u Q I rx ry q
  rcases q with q | q
  · exact h pins s σ H x y v u Q I rx ry q
  · exact h' pins s σ H x y v u Q I rx ry q
/-- g or g', as rules by turns -/
theorem OpD.or {r r' : R2} {g g' : G2} (h : OpD r g) (h' : OpD r' g') : OpD (fun x y H Q => r x y H Q ∨ r' x y H Q) (fun d e Q => g d e Q ∨ g' d e Q) := fun F H x y d e Q k s rx ry q kk => q.elim (fun q => .inl (h F H x y d e Q k s rx ry q kk)) fun q => .inr (h' F H x y d e Q k s rx ry q kk)
/-- the result is plain -/
theorem ext_here {F H : Hp} {v : V} {z : D} {k : VK} {Q : D → Prop} (s : Same F H) (r : Rep F v z) (q : Q z) (kk : ∀ F' H' v z, Ext F H F' H' → Rep F' v z → Q z → k v H') : k v H := kk F H v z (Ext.refl s) r q
theorem ext_lst {F H : Hp} {xs : List V} {ds : List D} {k : VK} {Q : D → Prop} (s : Same F H) (r : Reps F xs ds) (q : Q (.list ds)) (kk : ∀ F' H' v z, Ext F H F' H' → Rep F' v z → Q z → k v H') : ∀ p, H p = none → k (.ref p) (upd H p (.lst xs)) := fun p hp =>
  kk _ _ _ _ (Ext.new s hp) (.lst upd_same (r.mono (Ext.new (o := .lst xs) s hp).fF)) q
theorem ext_tup {F H : Hp} {xs : List V} {ds : List D} {k : VK} {Q : D → Prop} (s : Same F H) (r : Reps F xs ds) (q : Q (.tuple ds)) (kk : ∀ F' H' v z, Ext F H F' H' → Rep F' v z → Q z → k v H') : ∀ p, H p = none → k (.ref p) (upd H p (.tup xs)) := fun p hp =>
  kk _ _ _ _ (Ext.new s hp) (.tup upd_same (r.mono (Ext.new (o := .tup xs) s hp).fF)) q

def dOp (g : G2) (da db : DE) : DE := fun ρ Q => da ρ fun d ρ1 => db ρ1 fun e ρ2 => g d e fun z => Q z ρ2
def dUn (g : G1) (da : DE) : DE := fun ρ Q => da ρ fun d ρ1 => g d fun z => Q z ρ1
section
variable {X : Cx} {W : Ent} {e a b c : Expr} {de da db dc : DE} {dt du : DT} {te ta tb : TE} {tt tu : TT} {g : G2} {r : R2} {pos : Pos}
theorem snd_op (ho : OpD r g) (ha : SndE W ta da) (hb : SndE W tb db) : SndE W (tOp r ta tb) (dOp g da db) := by
  intro F H σ τ ρ ε Q k R h q
  refine ha F H σ τ ρ ε _ _ R h fun F1 H1 ρ1 x d R1 s1 r1 h1 => ?_
  refine hb F1 H1 σ τ ρ1 ε _ _ R1 h1 fun F2 H2 ρ2 y e R2 s2 r2 h2 => ?_
  exact ho F2 H2 x y d e _ k R2.ex (r1.mono s2) r2 h2 fun F3 H3 v z ex rz qz => q F3 H3 ρ2 v z (R2.ext ex) ((s1.trans s2).trans ex.fF) rz qz
theorem snd_un {r : V → Hp → VK → Prop} {g : G1} (ho : UnD r g) (ha : SndE W ta da) : SndE W (tUn r ta) (dUn g da) := by
  intro F H σ τ ρ ε Q k R h q
  refine ha F H σ τ ρ ε _ _ R h fun F1 H1 ρ1 x d R1 s1 r1 h1 => ?_
  exact ho F1 H1 x d _ k R1.ex r1 h1 fun F3 H3 v z ex rz qz => q F3 H3 ρ1 v z (R1.ext ex) (s1.trans ex.fF) rz qz
theorem de_op {op : Operator} (hr : OpR X (binaryOp op) r) (ho : OpD r g) (ha : PDE X W a da) (hb : PDE X W b db) : PDE X W (.BinOp a op b pos) (dOp g da db) := by
  obtain ⟨ta, a1, a2⟩ := ha.ex
  obtain ⟨tb, b1, b2⟩ := hb.ex
  exact ⟨_, pe_op hr a1 b1, snd_op ho a2 b2⟩
theorem de_un {op : UnaryOp} {r : V → Hp → VK → Prop} {g : G1} (hr : UnR X (unaryOp op) r) (ho : UnD r g) (ha : PDE X W a da) : PDE X W (.UnaryOp op a pos) (dUn g da) := by
  obtain ⟨ta, a1, a2⟩ := ha.ex
  exact ⟨_, pe_un hr a1, snd_un ho a2⟩
theorem de_cmp {op : CmpOp} (hr : OpR X (compareOp op) r) (ho : OpD r g) (ha : PDE X W a da) (hb : PDE X W b db) (hm : behindInMarks op b = false) : PDE X W (.Compare a [op] [b] pos) (dOp g da db) := by
  obtain ⟨ta, a1, a2⟩ := ha.ex
  obtain ⟨tb, b1, b2⟩ := hb.ex
  exact ⟨_, pe_cmpR hr a1 b1 hm, snd_op ho a2 b2⟩
/-- a truth value as a test -/
def dTest (de : DE) : DT := fun ρ Q => de ρ fun d ρ1 => match d with
  | .bool k => Q k ρ1
  | _ => False
theorem snd_test (ha : SndE W te de) : SndT W (tTest te) (dTest de) := by
  intro F H σ τ ρ ε Q k R h q
  refine ha F H σ τ ρ ε _ _ R h fun F1 H1 ρ1 x d R1 s1 r1 h1 => ?_
  split at h1
  · next k' =>
    cases r1.bl_of
    exact ⟨k', rfl, q F1 H1 ρ1 k' R1 s1 h1⟩
  · exact h1.elim
theorem dt_cmp {op : CmpOp} (hr : OpR X (compareOp op) r) (ho : OpD r g) (ha : PDE X W a da) (hb : PDE X W b db) (hm : behindInMarks op b = false) : PDT X W (.Compare a [op] [b] pos) (dTest (dOp g da db)) := by
  obtain ⟨ta, a1, a2⟩ := ha.ex
  obtain ⟨tb, b1, b2⟩ := hb.ex
  exact ⟨_, pt_cmpR hr a1 b1 hm, snd_test (snd_op ho a2 b2)⟩
/-- any expression that gives a truth value, as a test -/
theorem snd_B (ha : SndE W te de) : SndT W (tB te) (dTest de) := by
  intro F H σ τ ρ ε Q k R h q
  refine ha F H σ τ ρ ε _ _ R h fun F1 H1 ρ1 x d R1 s1 r1 h1 => ?_
  split at h1
  · next k' =>
    cases r1.bl_of
    exact ⟨k', rfl, q F1 H1 ρ1 k' R1 s1 h1⟩
  · exact h1.elim
theorem dt_val (ha : PDE X W e de) (he : ∀ whole, isTrue e X.env whole = (do let v ← whole; standAt e.pos; holding [v] (truthy v)) := by intro _; rfl) : PDT X W e (dTest de) := by
  obtain ⟨ta, a1, a2⟩ := ha.ex
  exact ⟨_, pt_val a1 he, snd_B a2⟩
/-- a op b op' c -/
def dChain (g g' : G2) (da db dc : DE) : DE := fun ρ Q => da ρ fun d ρ1 => db ρ1 fun e ρ2 => g d e fun z => match z with
  | .bool true => dc ρ2 fun f ρ3 => g' e f fun z' => Q z' ρ3
  | .bool false => Q (.bool false) ρ2
  | _ => False
theorem snd_chain {r' : R2} {g' : G2} {tc : TE} (ho : OpD r g) (ho' : OpD r' g') (ha : SndE W ta da) (hb : SndE W tb db) (hc : SndE W tc dc) : SndE W (tChain r r' ta tb tc) (dChain g g' da db dc) := by
  intro F H σ τ ρ ε Q k R h q
  refine ha F H σ τ ρ ε _ _ R h fun F1 H1 ρ1 x d R1 s1 r1 h1 => ?_
  refine hb F1 H1 σ τ ρ1 ε _ _ R1 h1 fun F2 H2 ρ2 y e R2 s2 r2 h2 => ?_
  refine ho F2 H2 x y d e _ _ R2.ex (r1.mono s2) r2 h2 fun F3 H3 v z ex rz qz => ?_
  have R3 := R2.ext ex
  have s3 := (s1.trans s2).trans ex.fF
  split at qz
  · cases rz.bl_of
    refine ⟨true, rfl, iteT ?_⟩
    refine hc F3 H3 σ τ ρ2 ε _ _ R3 qz fun F4 H4 ρ4 w f R4 s4 r4 h4 => ?_
    exact ho' F4 H4 y w e f _ k R4.ex (r2.mono (ex.fF.trans s4)) r4 h4 fun F5 H5 v5 z5 ex5 rz5 qz5 => q F5 H5 ρ4 v5 z5 (R4.ext ex5) ((s3.trans s4).trans ex5.fF) rz5 qz5
  · cases rz.bl_of
    exact ⟨false, rfl, iteF (q F3 H3 ρ2 _ _ R3 s3 rz qz)⟩
  · exact qz.elim
theorem de_chain {op op' : CmpOp} {r' : R2} {g' : G2} (hr : OpR X (compareOp op) r) (hr' : OpR X (compareOp op') r') (ho : OpD r g) (ho' : OpD r' g') (ha : PDE X W a da) (hb : PDE X W b db) (hc : PDE X W c dc)
    (hm : lastMarks [op, op'] [b, c] = false := by with_unfolding_all rfl) : PDE X W (.Compare a [op, op'] [b, c] pos) (dChain g g' da db dc) := by
  obtain ⟨ta, a1, a2⟩ := ha.ex
  obtain ⟨tb, b1, b2⟩ := hb.ex
  obtain ⟨tc, c1, c2⟩ := hc.ex
  exact ⟨_, pe_chain hr hr' a1 b1 c1 hm, snd_chain ho ho' a2 b2 c2⟩
theorem dt_chain {op op' : CmpOp} {r' : R2} {g' : G2} (hr : OpR X (compareOp op) r) (hr' : OpR X (compareOp op') r') (ho : OpD r g) (ho' : OpD r' g') (ha : PDE X W a da) (hb : PDE X W b db) (hc : PDE X W c dc)
    (hm : lastMarks [op, op'] [b, c] = false := by with_unfolding_all rfl) : PDT X W (.Compare a [op, op'] [b, c] pos) (dTest (dChain g g' da db dc)) := by
  obtain ⟨ta, a1, a2⟩ := ha.ex
  obtain ⟨tb, b1, b2⟩ := hb.ex
  obtain ⟨tc, c1, c2⟩ := hc.ex
  exact ⟨_, pt_chain hr hr' a1 b1 c1 hm, snd_test (snd_chain ho ho' a2 b2 c2)⟩
/-! tests -/
def dAnd (dt du : DT) : DT := fun ρ Q => dt ρ fun b ρ1 => match b with
  | true => du ρ1 Q
  | false => Q false ρ1
def dOr (dt du : DT) : DT := fun ρ Q => dt ρ fun b ρ1 => match b with
  | true => Q true ρ1
  | false => du ρ1 Q
def dNot (dt : DT) : DT := fun ρ Q => dt ρ fun b ρ1 => Q (!b) ρ1
theorem snd_and (h1 : SndT W tt dt) (h2 : SndT W tu du) : SndT W (tAnd tt tu) (dAnd dt du) := by
  intro F H σ τ ρ ε Q k R h q
  refine h1 F H σ τ ρ ε _ _ R h fun F1 H1 ρ1 b R1 s1 hb => ?_
  cases b with
  | true => exact iteT (h2 F1 H1 σ τ ρ1 ε _ _ R1 hb fun F2 H2 ρ2 b2 R2 s2 hb2 => q F2 H2 ρ2 b2 R2 (s1.trans s2) hb2)
  | false => exact iteF (q F1 H1 ρ1 false R1 s1 hb)
theorem snd_or (h1 : SndT W tt dt) (h2 : SndT W tu du) : SndT W (tOr tt tu) (dOr dt du) := by
  intro F H σ τ ρ ε Q k R h q
  refine h1 F H σ τ ρ ε _ _ R h fun F1 H1 ρ1 b R1 s1 hb => ?_
  cases b with
  | true => exact iteT (q F1 H1 ρ1 true R1 s1 hb)
  | false => exact iteF (h2 F1 H1 σ τ ρ1 ε _ _ R1 hb fun F2 H2 ρ2 b2 R2 s2 hb2 => q F2 H2 ρ2 b2 R2 (s1.trans s2) hb2)
theorem snd_not (h1 : SndT W tt dt) : SndT W (tNot tt) (dNot dt) := fun F H σ τ ρ ε Q k R h q => h1 F H σ τ ρ ε _ _ R h fun F1 H1 ρ1 b R1 s1 hb => q F1 H1 ρ1 (!b) R1 s1 hb
structure PDW (X : Cx) (W : Ent) (e : Expr) (dt : DT) : Prop where
  ex : ∃ tt, PW X e tt ∧ SndT W tt dt
theorem PDW.pt (h : PDW X W e dt) : PDT X W e dt := by
  obtain ⟨t, h1, h2⟩ := h.ex
  exact ⟨t, h1.pt, h2⟩
variable {rest : List Expr}
theorem dw_and1 (ha : PDT X W a dt) : PDW X W (.BoolOp .And [a] pos) dt := by
  obtain ⟨t, h1, h2⟩ := ha.ex
  exact ⟨t, pw_and1 h1, h2⟩
theorem dw_or1 (ha : PDT X W a dt) : PDW X W (.BoolOp .Or [a] pos) dt := by
  obtain ⟨t, h1, h2⟩ := ha.ex
  exact ⟨t, pw_or1 h1, h2⟩
theorem dw_and (ha : PDT X W a dt) (hb : PDW X W (.BoolOp .And (b :: rest) pos) du) : PDW X W (.BoolOp .And (a :: b :: rest) pos) (dAnd dt du) := by
  obtain ⟨t, h1, h2⟩ := ha.ex
  obtain ⟨u, h3, h4⟩ := hb.ex
  exact ⟨_, pw_and h1 h3, snd_and h2 h4⟩
theorem dw_or (ha : PDT X W a dt) (hb : PDW X W (.BoolOp .Or (b :: rest) pos) du) : PDW X W (.BoolOp .Or (a :: b :: rest) pos) (dOr dt du) := by
  obtain ⟨t, h1, h2⟩ := ha.ex
  obtain ⟨u, h3, h4⟩ := hb.ex
  exact ⟨_, pw_or h1 h3, snd_or h2 h4⟩
theorem dt_not (ha : PDT X W a dt) : PDT X W (.UnaryOp .Not a pos) (dNot dt) := by
  obtain ⟨t, h1, h2⟩ := ha.ex
  exact ⟨_, pt_not h1, snd_not h2⟩
/-! and, or, not as values, of truth values -/
def dAndV (da db : DE) : DE := fun ρ Q => da ρ fun d ρ1 => match d with
  | .bool true => db ρ1 Q
  | .bool false => Q (.bool false) ρ1
  | _ => False
def dOrV (da db : DE) : DE := fun ρ Q => da ρ fun d ρ1 => match d with
  | .bool true => Q (.bool true) ρ1
  | .bool false => db ρ1 Q
  | _ => False
def dNotV (da : DE) : DE := fun ρ Q => da ρ fun d ρ1 => match d with
  | .bool k => Q (.bool (!k)) ρ1
  | _ => False
theorem de_and (ha : PDE X W a da) (hb : PDE X W (.BoolOp .And (b :: rest) pos) db) : PDE X W (.BoolOp .And (a :: b :: rest) pos) (dAndV da db) := by
  obtain ⟨ta, a1, a2⟩ := ha.ex
  obtain ⟨tb, b1, b2⟩ := hb.ex
  refine ⟨_, pe_and a1 b1, ?_⟩
  intro F H σ τ ρ ε Q k R h q
  refine a2 F H σ τ ρ ε _ _ R h fun F1 H1 ρ1 x d R1 s1 r1 h1 => ?_
  split at h1
  · cases r1.bl_of
    exact ⟨true, rfl, iteT (b2 F1 H1 σ τ ρ1 ε _ _ R1 h1 fun F2 H2 ρ2 v z R2 s2 r2 h2 => q F2 H2 ρ2 v z R2 (s1.trans s2) r2 h2)⟩
  · cases r1.bl_of
    exact ⟨false, rfl, iteF (q F1 H1 ρ1 _ _ R1 s1 r1 h1)⟩
  · exact h1.elim
theorem de_or (ha : PDE X W a da) (hb : PDE X W (.BoolOp .Or (b :: rest) pos) db) : PDE X W (.BoolOp .Or (a :: b :: rest) pos) (dOrV da db) := by
  obtain ⟨ta, a1, a2⟩ := ha.ex
  obtain ⟨tb, b1, b2⟩ := hb.ex
  refine ⟨_, pe_or a1 b1, ?_⟩
  intro F H σ τ ρ ε Q k R h q
  refine a2 F H σ τ ρ ε _ _ R h fun F1 H1 ρ1 x d R1 s1 r1 h1 => ?_
  split at h1
  · cases r1.bl_of
    exact ⟨true, rfl, iteT (q F1 H1 ρ1 _ _ R1 s1 r1 h1)⟩
  · cases r1.bl_of
    exact ⟨false, rfl, iteF (b2 F1 H1 σ τ ρ1 ε _ _ R1 h1 fun F2 H2 ρ2 v z R2 s2 r2 h2 => q F2 H2 ρ2 v z R2 (s1.trans s2) r2 h2)⟩
  · exact h1.elim
theorem de_one {op} (ha : PDE X W a da) : PDE X W (.BoolOp op [a] pos) da := by
  obtain ⟨ta, a1, a2⟩ := ha.ex
  exact ⟨_, pe_one a1, a2⟩
theorem de_not (ha : PDE X W a da) : PDE X W (.UnaryOp .Not a pos) (dNotV da) := by
  obtain ⟨ta, a1, a2⟩ := ha.ex
  refine ⟨_, pe_not a1, ?_⟩
  intro F H σ τ ρ ε Q k R h q
  refine a2 F H σ τ ρ ε _ _ R h fun F1 H1 ρ1 x d R1 s1 r1 h1 => ?_
  split at h1
  · next k' =>
    cases r1.bl_of
    exact ⟨k', rfl, q F1 H1 ρ1 _ _ R1 s1 (.bl _) h1⟩
  · exact h1.elim
/-! x if c else y -/
def dIfE (dt : DT) (da db : DE) : DE := fun ρ Q => dt ρ fun k ρ1 => match k with
  | true => da ρ1 Q
  | false => db ρ1 Q
theorem de_if {c : Expr} (hc : PDT X W c dt) (ha : PDE X W a da) (hb : PDE X W b db) : PDE X W (.IfExp c a b pos) (dIfE dt da db) := by
  obtain ⟨tt, c1, c2⟩ := hc.ex
  obtain ⟨ta, a1, a2⟩ := ha.ex
  obtain ⟨tb, b1, b2⟩ := hb.ex
  refine ⟨_, pe_ifExp c1 a1 b1, ?_⟩
  intro F H σ τ ρ ε Q k R h q
  refine c2 F H σ τ ρ ε _ _ R h fun F1 H1 ρ1 bb R1 s1 h1 => ?_
  cases bb with
  | true => exact iteT (a2 F1 H1 σ τ ρ1 ε _ _ R1 h1 fun F2 H2 ρ2 v z R2 s2 r2 h2 => q F2 H2 ρ2 v z R2 (s1.trans s2) r2 h2)
  | false => exact iteF (b2 F1 H1 σ τ ρ1 ε _ _ R1 h1 fun F2 H2 ρ2 v z R2 s2 r2 h2 => q F2 H2 ρ2 v z R2 (s1.trans s2) r2 h2)
/-! arguments, displays -/
def dNil : DA := fun ρ Q => Q [] ρ
def dCons (de : DE) (da : DA) : DA := fun ρ Q => de ρ fun d ρ1 => da ρ1 fun ds ρ2 => Q (d :: ds) ρ2
variable {es : List Expr} {dar : DA} {tar : TA}
theorem snd_nil : SndA W tNil dNil := fun F H σ τ ρ ε Q k R h q => q F H ρ [] [] R (Same.refl _) .nil h
theorem snd_cons (h1 : SndE W te de) (h2 : SndA W tar dar) : SndA W (tCons te tar) (dCons de dar) := by
  intro F H σ τ ρ ε Q k R h q
  refine h1 F H σ τ ρ ε _ _ R h fun F1 H1 ρ1 x d R1 s1 r1 h1 => ?_
  exact h2 F1 H1 σ τ ρ1 ε _ _ R1 h1 fun F2 H2 ρ2 vs ds R2 s2 r2 h2 => q F2 H2 ρ2 _ _ R2 (s1.trans s2) (.cons (r1.mono s2) r2) h2
theorem da_nil : PDA X W [] dNil := ⟨_, pa_nil, snd_nil⟩
theorem da_cons (ha : PDE X W e de) (hr : PDA X W es dar) (hs : starEach (e :: es) X.env = (false, eval e X.env) :: starEach es X.env := by rfl) : PDA X W (e :: es) (dCons de dar) := by
  obtain ⟨ta, a1, a2⟩ := ha.ex
  obtain ⟨tb, b1, b2⟩ := hr.ex
  exact ⟨_, pa_cons a1 b1 hs, snd_cons a2 b2⟩
def dTup (da : DA) : DE := fun ρ Q => da ρ fun ds ρ1 => ds.length ≤ sizeLine ∧ Q (.tuple ds) ρ1
def dLstN (da : DA) : DN := fun ρ Q => da ρ fun ds ρ1 => ds.length ≤ sizeLine ∧ Q (.l ds) ρ1
end

open PySem L2

section
variable {X : Cx} {W : Ent} {e a b c : Expr} {de da db dc : DE} {dar : DA} {es : List Expr} {pos : Pos}
/-! ### displays -/
theorem de_tup {x1} (h : PDA X W es dar) : PDE X W (.Tuple es x1 pos) (dTup dar) := by
  obtain ⟨ta, a1, a2⟩ := h.ex
  refine ⟨_, pe_tup a1, ?_⟩
  intro F H σ τ ρ ε Q k R h q
  refine a2 F H σ τ ρ ε _ _ R h fun F1 H1 ρ1 vs ds R1 s1 r1 h1 => ⟨by rw [r1.length]; exact h1.1, fun p hp => ?_⟩
  have ex := Ext.new (o := .tup vs) R1.ex hp
  exact q _ _ ρ1 _ _ (R1.ext ex) (s1.trans ex.fF) (.tup upd_same (r1.mono ex.fF)) h1.2
theorem dn_lst (h : PDA X W es dar) : PDN X W (.List es pos) (dLstN dar) := by
  obtain ⟨ta, a1, a2⟩ := h.ex
  refine ⟨_, pe_lst a1, ?_⟩
  intro F H σ τ ρ ε Q k R h q
  refine a2 F H σ τ ρ ε _ _ R h fun F1 H1 ρ1 vs ds R1 s1 r1 h1 => ⟨by rw [r1.length]; exact h1.1, fun p hp => ?_⟩
  exact q F1 _ ρ1 _ (.l ds) (R1.new hp ⟨p, vs, rfl, rfl, upd_same, r1⟩) s1 h1.2
theorem de_lst (h : PDA X W es dar) : PDE X W (.List es pos) (dFrz (dLstN dar)) := de_frz (dn_lst h)
def dDkN : DN := fun ρ Q => Q (.dk []) ρ
def dDtN : DN := fun ρ Q => Q (.dt []) ρ
theorem dn_dk : PDN X W (.Dict [] [] pos) dDkN := ⟨_, pe_dnewK, fun F H σ τ ρ ε Q k R h q => fun p hp => q F _ ρ _ (.dk []) (R.new hp ⟨p, [], rfl, rfl, upd_same, rfl, .nil⟩) (Same.refl _) h⟩
theorem dn_dt : PDN X W (.Dict [] [] pos) dDtN := ⟨_, pe_dnewT, fun F H σ τ ρ ε Q k R h q => fun p hp => q F _ ρ _ (.dt []) (R.new hp ⟨p, [], rfl, rfl, upd_same, rfl, .nil⟩) (Same.refl _) h⟩

/-! ### arithmetic -/
def gAdd : G2
  | .int i, .int j, Q => Q (.int (i + j))
  | .str x, .str y, Q => x.length + y.length ≤ sizeLine ∧ Q (.str (x ++ y))
  | .list x, .list y, Q => x.length + y.length ≤ sizeLine ∧ Q (.list (x ++ y))
  | .int i, .bool k, Q => Q (.int (i + (if k = true then 1 else 0)))
  | _, _, _ => False
def rAddD : R2 := fun x y H Q => (rI0 (fun i j => .int (i + j)) x y H Q ∨ (∃ i k, x = .int i ∧ y = .bl k ∧ Q (.int (i + (if k = true then 1 else 0))) H)) ∨ ((∃ i j, x = .str i ∧ y = .str j ∧ i.length + j.length ≤ sizeLine ∧ Q (.str (i ++ j)) H) ∨ rCat x y H Q)
theorem rep_lstH {F H : Hp} {x : V} {ds : List D} (s : Same F H) (h : Rep F x (.list ds)) : ∃ a xs, x = .ref a ∧ H a = some (.lst xs) ∧ Reps F xs ds := by
  obtain ⟨a, xs, e, h1, h2⟩ := h.lst_of
  exact ⟨a, xs, e, s _ _ h1, h2⟩
theorem rep_tupH {F H : Hp} {x : V} {ds : List D} (s : Same F H) (h : Rep F x (.tuple ds)) : ∃ a xs, x = .ref a ∧ H a = some (.tup xs) ∧ Reps F xs ds := by
  obtain ⟨a, xs, e, h1, h2⟩ := h.tup_of
  exact ⟨a, xs, e, s _ _ h1, h2⟩
theorem or_add : OpR X (binaryOp .Add) rAddD := OpR.or (OpR.or op_add op_add_ib) (OpR.or op_add_str op_cat)
theorem od_add : OpD rAddD gAdd := by
  intro F H x y d e Q k s rx ry h q
  unfold gAdd at h
  split at h
  · cases rx.int_of; cases ry.int_of
    exact .inl (.inl ⟨_, _, rfl, rfl, ext_here s (.int _) h q⟩)
  · cases rx.str_of; cases ry.str_of
    exact .inr (.inl ⟨_, _, rfl, rfl, h.1, ext_here s (.str _) h.2 q⟩)
  · obtain ⟨p, xs, rfl, h1, h2⟩ := rep_lstH s rx
    obtain ⟨p', ys, rfl, h3, h4⟩ := rep_lstH s ry
    exact .inr (.inr ⟨p, p', xs, ys, rfl, rfl, h1, h3, by rw [h2.length, h4.length]; exact h.1, ext_lst s (h2.append h4) h.2 q⟩)
  · cases rx.int_of; cases ry.bl_of
    exact .inl (.inr ⟨_, _, rfl, rfl, ext_here s (.int _) h q⟩)
  · exact h.elim
theorem de_add (ha : PDE X W a da) (hb : PDE X W b db) : PDE X W (.BinOp a .Add b pos) (dOp gAdd da db) := de_op or_add od_add ha hb
def gInt2 (C : Int → Int → Prop) (g : Int → Int → D) : G2
  | .int i, .int j, Q => C i j ∧ Q (g i j)
  | _, _, _ => False
theorem od_int2 {C : Int → Int → Prop} {g : Int → Int → V} {gd : Int → Int → D} (hg : ∀ F i j, Rep F (g i j) (gd i j)) : OpD (rI C g) (gInt2 C gd) := by
  intro F H x y d e Q k s rx ry h q
  unfold gInt2 at h
  split at h
  · cases rx.int_of; cases ry.int_of
    exact ⟨_, _, rfl, rfl, h.1, ext_here s (hg F _ _) h.2 q⟩
  · exact h.elim
def gI2 (g : Int → Int → D) : G2
  | .int i, .int j, Q => Q (g i j)
  | _, _, _ => False
theorem od_I2 {g : Int → Int → V} {gd : Int → Int → D} (hg : ∀ F i j, Rep F (g i j) (gd i j)) : OpD (rI0 g) (gI2 gd) := by
  intro F H x y d e Q k s rx ry h q
  unfold gI2 at h
  split at h
  · cases rx.int_of; cases ry.int_of
    exact ⟨_, _, rfl, rfl, ext_here s (hg F _ _) h q⟩
  · exact h.elim
theorem de_sub (ha : PDE X W a da) (hb : PDE X W b db) : PDE X W (.BinOp a .Sub b pos) (dOp (gI2 fun i j => .int (i - j)) da db) := de_op op_sub (od_I2 fun _ _ _ => .int _) ha hb
/-- products: ints, a list said over -/
def gMul : G2
  | .int i, .int j, Q => CMul i j ∧ Q (.int (i * j))
  | .list x, .int j, Q => (-(2 ^ 63) ≤ j ∧ j < 2 ^ 63 ∧ x.length * j.toNat ≤ sizeLine) ∧ Q (.list (List.replicate j.toNat x).flatten)
  | _, _, _ => False
theorem Reps.rep {F : Hp} {vs : List V} {ds : List D} (h : Reps F vs ds) : ∀ k : Nat, Reps F (List.replicate k vs).flatten (List.replicate k ds).flatten
  | 0 => .nil
  | k + 1 => by
    rw [List.replicate_succ, List.replicate_succ, List.flatten_cons, List.flatten_cons]
    exact h.append (Reps.rep h k)
theorem or_mul : OpR X (binaryOp .Mult) (fun x y H Q => rI CMul (fun i j => .int (i * j)) x y H Q ∨ rRep x y H Q) := OpR.or op_mul op_rep
theorem od_mul : OpD (fun x y H Q => rI CMul (fun i j => .int (i * j)) x y H Q ∨ rRep x y H Q) gMul := by
  intro F H x y d e Q k s rx ry h q
  unfold gMul at h
  split at h
  · cases rx.int_of; cases ry.int_of
    exact .inl ⟨_, _, rfl, rfl, h.1, ext_here s (.int _) h.2 q⟩
  · obtain ⟨p, xs, rfl, h1, h2⟩ := rep_lstH s rx
    cases ry.int_of
    refine .inr ⟨p, _, xs, rfl, rfl, h1, h.1.1, h.1.2.1, by rw [h2.length]; exact h.1.2.2, ?_⟩
    exact ext_lst s (h2.rep _) h.2 q
  · exact h.elim
theorem de_mul (ha : PDE X W a da) (hb : PDE X W b db) : PDE X W (.BinOp a .Mult b pos) (dOp gMul da db) := de_op or_mul od_mul ha hb
theorem de_mod (ha : PDE X W a da) (hb : PDE X W b db) : PDE X W (.BinOp a .Mod b pos) (dOp (gInt2 (fun _ j => 0 < j) fun i j => .int (i % j)) da db) := de_op op_mod (od_int2 fun _ _ _ => .int _) ha hb
theorem de_fdiv (ha : PDE X W a da) (hb : PDE X W b db) : PDE X W (.BinOp a .FloorDiv b pos) (dOp (gInt2 CDiv fun i j => .int (i / j)) da db) := de_op op_fdiv (od_int2 fun _ _ _ => .int _) ha hb
theorem de_pow (ha : PDE X W a da) (hb : PDE X W b db) : PDE X W (.BinOp a .Pow b pos) (dOp (gInt2 CPow fun i j => .int (i ^ j.toNat)) da db) := de_op op_pow (od_int2 fun _ _ _ => .int _) ha hb
def gNeg : G1
  | .int i, Q => Q (.int (-i))
  | _, _ => False
theorem de_neg (ha : PDE X W a da) : PDE X W (.UnaryOp .USub a pos) (dUn gNeg da) := de_un un_neg (by
  intro F H x d Q k s rx h q
  unfold gNeg at h
  split at h
  · cases rx.int_of
    exact ⟨_, rfl, ext_here s (.int _) h q⟩
  · exact h.elim) ha

/-! ### comparisons -/
def gEq : G2 := fun d e Q => match d, e with
  | .int i, .int j => Q (.bool (decide (i = j)))
  | .str i, .str j => Q (.bool (decide (i = j)))
  | .bool i, .bool j => Q (.bool (decide (i = j)))
  | .none, .none => Q (.bool true)
  | .none, .int _ => Q (.bool false)
  | .none, .str _ => Q (.bool false)
  | .none, .bool _ => Q (.bool false)
  | .int _, .none => Q (.bool false)
  | .str _, .none => Q (.bool false)
  | .bool _, .none => Q (.bool false)
  | .int _, .str _ => Q (.bool false)
  | .str _, .int _ => Q (.bool false)
  | d, e => (okD d = true ∧ okD e = true) ∧ Q (.bool (PyData.eqv d e))
def gNe : G2 := fun d e Q => gEq d e fun z => match z with
  | .bool k => Q (.bool (!k))
  | _ => False
def rEqP (K : PySem.W.Frag) : R2 := fun x y H Q => ∃ d e, Dp K H x d ∧ Dp K H y e ∧ okD d = true ∧ okD e = true ∧ Q (.bl (PyData.eqv d e)) H
def rNeP (K : PySem.W.Frag) : R2 := fun x y H Q => ∃ d e, Dp K H x d ∧ Dp K H y e ∧ okD d = true ∧ okD e = true ∧ Q (.bl (!PyData.eqv d e)) H
theorem op_eqP (hu : X.A.units + 64 < cLine) : OpR X (compareOp .Eq) (rEqP X.K) := by
  intro pins s σ H x y v u Q I rx ry h
  obtain ⟨d, e, hd, he, sd, se, q⟩ := h
  obtain ⟨as, r1⟩ := Dp.reads I d x v hd rx
  obtain ⟨bs, r2⟩ := Dp.reads I e y u he ry
  have h1 := okD_depth sd
  exact PySem.SeqAt.eq_plain r1 r2 (okD_plain sd) (okD_plain se) (by have : min d.depth e.depth ≤ d.depth := Nat.min_le_left _ _; omega) ⟨.bl _, H, I, rfl, q⟩
theorem op_neP (hu : X.A.units + 64 < cLine) : OpR X (compareOp .NotEq) (rNeP X.K) := by
  intro pins s σ H x y v u Q I rx ry h
  obtain ⟨d, e, hd, he, sd, se, q⟩ := h
  obtain ⟨as, r1⟩ := Dp.reads I d x v hd rx
  obtain ⟨bs, r2⟩ := Dp.reads I e y u he ry
  have h1 := okD_depth sd
  exact PySem.SeqAt.ne_plain r1 r2 (okD_plain sd) (okD_plain se) (by have : min d.depth e.depth ≤ d.depth := Nat.min_le_left _ _; omega) ⟨.bl _, H, I, rfl, q⟩
theorem or_eq (hu : X.A.units + 64 < cLine) : OpR X (compareOp .Eq) (fun x y H Q => rEq x y H Q ∨ rEqP X.K x y H Q) := OpR.or op_eq (op_eqP hu)
theorem or_ne (hu : X.A.units + 64 < cLine) : OpR X (compareOp .NotEq) (fun x y H Q => rNe x y H Q ∨ rNeP X.K x y H Q) := OpR.or op_ne (op_neP hu)
theorem decI {i j : Int} : decide (V.int i = V.int j) = decide (i = j) := by rw [Bool.eq_iff_iff]; simp
theorem decS {i j : Str} : decide (V.str i = V.str j) = decide (i = j) := by rw [Bool.eq_iff_iff]; simp
theorem decB {i j : Bool} : decide (V.bl i = V.bl j) = decide (i = j) := by rw [Bool.eq_iff_iff]; simp
theorem od_eq {K : PySem.W.Frag} : OpD (fun x y H Q => rEq x y H Q ∨ rEqP K x y H Q) gEq := by
  intro F H x y d e Q k s rx ry h q
  unfold gEq at h
  split at h
  · cases rx.int_of; cases ry.int_of
    refine .inl ⟨rfl, ?_⟩; rw [decI]; exact ext_here s (.bl _) h q
  · cases rx.str_of; cases ry.str_of
    refine .inl ⟨rfl, ?_⟩; rw [decS]; exact ext_here s (.bl _) h q
  · cases rx.bl_of; cases ry.bl_of
    refine .inl ⟨rfl, ?_⟩; rw [decB]; exact ext_here s (.bl _) h q
  · cases rx.non_of; cases ry.non_of
    exact .inl ⟨rfl, ext_here s (.bl _) h q⟩
  · cases rx.non_of; cases ry.int_of
    exact .inl ⟨rfl, ext_here s (.bl _) h q⟩
  · cases rx.non_of; cases ry.str_of
    exact .inl ⟨rfl, ext_here s (.bl _) h q⟩
  · cases rx.non_of; cases ry.bl_of
    exact .inl ⟨rfl, ext_here s (.bl _) h q⟩
  · cases rx.int_of; cases ry.non_of
    exact .inl ⟨rfl, ext_here s (.bl _) h q⟩
  · cases rx.str_of; cases ry.non_of
    exact .inl ⟨rfl, ext_here s (.bl _) h q⟩
  · cases rx.bl_of; cases ry.non_of
    exact .inl ⟨rfl, ext_here s (.bl _) h q⟩
  · cases rx.int_of; cases ry.str_of
    exact .inl ⟨rfl, ext_here s (.bl _) h q⟩
  · cases rx.str_of; cases ry.int_of
    exact .inl ⟨rfl, ext_here s (.bl _) h q⟩
  · exact .inr ⟨_, _, rx.dpP s (okD_plain h.1.1), ry.dpP s (okD_plain h.1.2), h.1.1, h.1.2, ext_here s (.bl _) h.2 q⟩
theorem od_ne {K : PySem.W.Frag} : OpD (fun x y H Q => rNe x y H Q ∨ rNeP K x y H Q) gNe := by
  intro F H x y d e Q k s rx ry h q
  unfold gNe gEq at h
  split at h
  · cases rx.int_of; cases ry.int_of
    refine .inl ⟨rfl, ?_⟩; rw [decI]; exact ext_here s (.bl _) h q
  · cases rx.str_of; cases ry.str_of
    refine .inl ⟨rfl, ?_⟩; rw [decS]; exact ext_here s (.bl _) h q
  · cases rx.bl_of; cases ry.bl_of
    refine .inl ⟨rfl, ?_⟩; rw [decB]; exact ext_here s (.bl _) h q
  · cases rx.non_of; cases ry.non_of
    exact .inl ⟨rfl, ext_here s (.bl _) h q⟩
  · cases rx.non_of; cases ry.int_of
    exact .inl ⟨rfl, ext_here s (.bl _) h q⟩
  · cases rx.non_of; cases ry.str_of
    exact .inl ⟨rfl, ext_here s (.bl _) h q⟩
  · cases rx.non_of; cases ry.bl_of
    exact .inl ⟨rfl, ext_here s (.bl _) h q⟩
  · cases rx.int_of; cases ry.non_of
    exact .inl ⟨rfl, ext_here s (.bl _) h q⟩
  · cases rx.str_of; cases ry.non_of
    exact .inl ⟨rfl, ext_here s (.bl _) h q⟩
  · cases rx.bl_of; cases ry.non_of
    exact .inl ⟨rfl, ext_here s (.bl _) h q⟩
  · cases rx.int_of; cases ry.str_of
    exact .inl ⟨rfl, ext_here s (.bl _) h q⟩
  · cases rx.str_of; cases ry.int_of
    exact .inl ⟨rfl, ext_here s (.bl _) h q⟩
  · exact .inr ⟨_, _, rx.dpP s (okD_plain h.1.1), ry.dpP s (okD_plain h.1.2), h.1.1, h.1.2, ext_here s (.bl _) h.2 q⟩
theorem nomark' (b : Expr) {op : CmpOp} (h : op ≠ .In) (h2 : op ≠ .NotIn) : behindInMarks op b = false := nobehind b h h2
theorem de_eq (hu : X.A.units + 64 < cLine) (ha : PDE X W a da) (hb : PDE X W b db) : PDE X W (.Compare a [.Eq] [b] pos) (dOp gEq da db) := de_cmp (or_eq hu) od_eq ha hb (nobehind _ (by decide) (by decide))
theorem de_ne (hu : X.A.units + 64 < cLine) (ha : PDE X W a da) (hb : PDE X W b db) : PDE X W (.Compare a [.NotEq] [b] pos) (dOp gNe da db) := de_cmp (or_ne hu) od_ne ha hb (nobehind _ (by decide) (by decide))
theorem dt_eq (hu : X.A.units + 64 < cLine) (ha : PDE X W a da) (hb : PDE X W b db) : PDT X W (.Compare a [.Eq] [b] pos) (dTest (dOp gEq da db)) := dt_cmp (or_eq hu) od_eq ha hb (nobehind _ (by decide) (by decide))
theorem dt_ne (hu : X.A.units + 64 < cLine) (ha : PDE X W a da) (hb : PDE X W b db) : PDT X W (.Compare a [.NotEq] [b] pos) (dTest (dOp gNe da db)) := dt_cmp (or_ne hu) od_ne ha hb (nobehind _ (by decide) (by decide))
end

open PySem L2

structure DEnds where
  nx : Rho → Prop
  rt : Slot → Rho → Prop
  bk : Rho → Prop
  ct : Rho → Prop
abbrev DS := DEnds → Rho → Prop
/-- the ends of a reading at the level of data are those of a reading of the hand layer (what is frozen at B still stands there) -/
structure Lnk (W : Ent) (B : Hp) (D : Ends) (DD : DEnds) : Prop where
  nx : ∀ F H σ ρ, At W F H σ [] ρ [] → Same B F → DD.nx ρ → D.nx σ H
  bk : ∀ F H σ ρ, At W F H σ [] ρ [] → Same B F → DD.bk ρ → D.bk σ H
  ct : ∀ F H σ ρ, At W F H σ [] ρ [] → Same B F → DD.ct ρ → D.ct σ H
  rt : ∀ F H σ ρ v d, At W F H σ [] ρ [] → Same B F → Rep F v d → DD.rt (.fz d) ρ → D.rt v H
  rn : ∀ F H σ ρ v c, At W F H σ [some v] ρ [.ow c] → Same B F → DD.rt (.ow c) ρ → D.rt v H
theorem Lnk.mono {W : Ent} {B B' : Hp} {D : Ends} {DD : DEnds} (L : Lnk W B D DD) (s : Same B B') : Lnk W B' D DD :=
  ⟨fun F H σ ρ R e => L.nx F H σ ρ R (s.trans e), fun F H σ ρ R e => L.bk F H σ ρ R (s.trans e), fun F H σ ρ R e => L.ct F H σ ρ R (s.trans e), fun F H σ ρ v d R e => L.rt F H σ ρ v d R (s.trans e), fun F H σ ρ v c R e => L.rn F H σ ρ v c R (s.trans e)⟩
theorem Lnk.next {W : Ent} {B : Hp} {D : Ends} {DD : DEnds} (L : Lnk W B D DD) {t : L2.St → Hp → Prop} {dt : Rho → Prop} (h : ∀ F H σ ρ, At W F H σ [] ρ [] → Same B F → dt ρ → t σ H) : Lnk W B { D with nx := t } { DD with nx := dt } := ⟨h, L.bk, L.ct, L.rt, L.rn⟩
/-- from here on, what is frozen here stands -/
def SndS (W : Ent) (ts : TS) (ds : DS) : Prop := ∀ F H σ ρ (D : Ends) (DD : DEnds), At W F H σ [] ρ [] → Lnk W F D DD → ds DD ρ → ts D σ H
structure PDS (X : Cx) (W : Ent) (st : Stmt) (ds : DS) : Prop where
  ex : ∃ ts, PS X st ts ∧ SndS W ts ds
structure PDSs (X : Cx) (W : Ent) (st : List Stmt) (ds : DS) : Prop where
  ex : ∃ ts, PSs X st ts ∧ SndS W ts ds

def dNext : DS := fun D ρ => D.nx ρ
def dSeq (a b : DS) : DS := fun D ρ => a { D with nx := b D } ρ
def dBreak : DS := fun D ρ => D.bk ρ
def dCont : DS := fun D ρ => D.ct ρ
def dRet (de : DE) : DS := fun D ρ => de ρ fun d ρ1 => D.rt (.fz d) ρ1
def dRetC (dn : DN) : DS := fun D ρ => dn ρ fun c ρ1 => D.rt (.ow c) ρ1
def dRetN : DS := fun D ρ => D.rt (.fz .none) ρ
def dDrop (de : DE) : DS := fun D ρ => de ρ fun _ ρ1 => D.nx ρ1
def dIf (dt : DT) (a b : DS) : DS := fun D ρ => dt ρ fun k ρ1 => match k with
  | true => a D ρ1
  | false => b D ρ1
/-- a name may be bound anew -/
def okSet (ρ : Rho) (i : Nat) : Bool := match ρ[i]? with
  | some (.io _) => false
  | some _ => true
  | none => false
theorem okSet_io {ρ : Rho} {i : Nat} (h : okSet ρ i = true) : ∀ c, ρ[i]? ≠ some (Slot.io c) := fun c z => by
  unfold okSet at h
  rw [z] at h
  cases h
theorem okSet_lt {ρ : Rho} {i : Nat} (h : okSet ρ i = true) : i < ρ.length := by
  unfold okSet at h
  cases e : ρ[i]? with
  | none => rw [e] at h; cases h
  | some s => exact lt_of_get e
def dSetN (i : Nat) (dn : DN) : DS := fun D ρ => dn ρ fun c ρ1 => okSet ρ1 i = true ∧ D.nx (ρ1.set i (.ow c))

section
variable {X : Cx} {W : Ent} {st : Stmt} {rest : List Stmt} {ds dr da db : DS} {de : DE} {dn : DN} {dt : DT} {e : Expr} {pos : Pos}
theorem dss_nil : PDSs X W [] dNext := ⟨_, pss_nil, fun F H σ ρ D DD R L h => L.nx F H σ ρ R (Same.refl _) h⟩
theorem dss_cons (h1 : PDS X W st ds) (h2 : PDSs X W rest dr) : PDSs X W (st :: rest) (dSeq ds dr) := by
  obtain ⟨t, a1, a2⟩ := h1.ex
  obtain ⟨u, b1, b2⟩ := h2.ex
  exact ⟨_, pss_cons a1 b1, fun F H σ ρ D DD R L h => a2 F H σ ρ _ _ R (L.next fun F' H' σ' ρ' R' s' h' => b2 F' H' σ' ρ' D DD R' (L.mono s') h') h⟩
theorem dss_one (h1 : PDS X W st ds) : PDSs X W [st] ds := by
  obtain ⟨t, a1, a2⟩ := h1.ex
  exact ⟨_, pss_one a1, a2⟩
theorem ds_pass : PDS X W (.Pass pos) dNext := ⟨_, ps_pass, fun F H σ ρ D DD R L h => L.nx F H σ ρ R (Same.refl _) h⟩
theorem ds_break : PDS X W (.Break pos) dBreak := ⟨_, ps_break, fun F H σ ρ D DD R L h => L.bk F H σ ρ R (Same.refl _) h⟩
theorem ds_cont : PDS X W (.Continue pos) dCont := ⟨_, ps_continue, fun F H σ ρ D DD R L h => L.ct F H σ ρ R (Same.refl _) h⟩
theorem ds_doc {x j pos'} : PDS X W (.Expr (.Constant (.str x) j pos) pos') dNext := ⟨_, ps_doc, fun F H σ ρ D DD R L h => L.nx F H σ ρ R (Same.refl _) h⟩
theorem ds_expr (he : PDE X W e de) (hs : swapsWith e none pos.line X.env = pure false := by rfl) : PDS X W (.Expr e pos) (dDrop de) := by
  obtain ⟨t, a1, a2⟩ := he.ex
  exact ⟨_, ps_expr a1 hs, fun F H σ ρ D DD R L h => a2 F H σ [] ρ [] _ _ R h fun F' H' ρ' v d R' s' r' h' => L.nx F' H' σ ρ' R' s' h'⟩
theorem ds_ret (he : PDE X W e de) : PDS X W (.Return (some e) pos) (dRet de) := by
  obtain ⟨t, a1, a2⟩ := he.ex
  exact ⟨_, ps_ret a1, fun F H σ ρ D DD R L h => a2 F H σ [] ρ [] _ _ R h fun F' H' ρ' v d R' s' r' h' => L.rt F' H' σ ρ' v d R' s' r' h'⟩
theorem ds_retC (he : PDN X W e dn) : PDS X W (.Return (some e) pos) (dRetC dn) := by
  obtain ⟨t, a1, a2⟩ := he.ex
  exact ⟨_, ps_ret a1, fun F H σ ρ D DD R L h => a2 F H σ [] ρ [] _ _ R h fun F' H' ρ' v c R' s' h' => L.rn F' H' σ ρ' v c R' s' h'⟩
theorem ds_retN : PDS X W (.Return none pos) dRetN := ⟨_, ps_retN, fun F H σ ρ D DD R L h => L.rt F H σ ρ .non .none R (Same.refl _) .non h⟩
theorem ds_if {c : Expr} {a b : List Stmt} (hc : PDT X W c dt) (ha : PDSs X W a da) (hb : PDSs X W b db) : PDS X W (.If c a b pos) (dIf dt da db) := by
  obtain ⟨t, c1, c2⟩ := hc.ex
  obtain ⟨ta, a1, a2⟩ := ha.ex
  obtain ⟨tb, b1, b2⟩ := hb.ex
  refine ⟨_, ps_if c1 a1 b1, fun F H σ ρ D DD R L h => c2 F H σ [] ρ [] _ _ R h fun F' H' ρ' k R' s' h' => ?_⟩
  cases k with
  | true => exact iteT (a2 F' H' σ ρ' D DD R' (L.mono s') h')
  | false => exact iteF (b2 F' H' σ ρ' D DD R' (L.mono s') h')

/-! ### targets -/
abbrev DG := D → Rho → (Rho → Prop) → Prop
abbrev DGs := List D → Rho → (Rho → Prop) → Prop
/-- the names' values are the same but at sl -/
def Off (sl : List Nat) (σ σ' : L2.St) : Prop := σ'.length = σ.length ∧ ∀ i, i ∉ sl → σ'[i]? = σ[i]?
theorem Off.refl {sl : List Nat} {σ : L2.St} : Off sl σ σ := ⟨rfl, fun _ _ => rfl⟩
theorem Off.trans {sl sl' : List Nat} {σ σ1 σ2 : L2.St} (a : Off sl σ σ1) (b : Off sl' σ1 σ2) : Off (sl ++ sl') σ σ2 := ⟨b.1.trans a.1, fun i h => (b.2 i fun m => h (List.mem_append_right _ m)).trans (a.2 i fun m => h (List.mem_append_left _ m))⟩
def SndG (W : Ent) (g : TG) (dg : DG) (sl : List Nat) : Prop := ∀ F H σ τ ρ ε v d (Q : Rho → Prop) (k : L2.St → Hp → Prop), At W F H σ τ ρ ε → Rep F v d → dg d ρ Q → (∀ F' H' σ' ρ', At W F' H' σ' τ ρ' ε → Same F F' → Off sl σ σ' → Q ρ' → k σ' H') → g v σ H k
def SndGs (W : Ent) (g : TGs) (dg : DGs) (sl : List Nat) : Prop := ∀ F H σ τ ρ ε vs ds (Q : Rho → Prop) (k : L2.St → Hp → Prop), At W F H σ τ ρ ε → Reps F vs ds → dg ds ρ Q → (∀ F' H' σ' ρ', At W F' H' σ' τ ρ' ε → Same F F' → Off sl σ σ' → Q ρ' → k σ' H') → g vs σ H k
structure PDG (X : Cx) (W : Ent) (t : Expr) (dg : DG) (sl : List Nat) : Prop where
  ex : ∃ g, PG X t g ∧ SndG W g dg sl
structure PDGs (X : Cx) (W : Ent) (ts : List Expr) (dg : DGs) (sl : List Nat) : Prop where
  ex : ∃ g, PGs X ts g ∧ SndGs W g dg sl
def dgName (i : Nat) : DG := fun d ρ Q => okSet ρ i = true ∧ Q (ρ.set i (.fz d))
def dgNil : DGs := fun ds ρ Q => match ds with
  | [] => Q ρ
  | _ => False
def dgCons (g : DG) (gs : DGs) : DGs := fun ds ρ Q => match ds with
  | d :: r => g d ρ fun ρ' => gs r ρ' Q
  | [] => False
def dgTup (n : Nat) (gs : DGs) : DG := fun d ρ Q => match d with
  | .tuple ds => ds.length = n ∧ gs ds ρ Q
  | _ => False
theorem dg_name {i : Nat} {x : Str} (hN : X.N.Nodup) (hi : X.N[i]? = some x) (hx : Loc X.env.scope x) (hf : X.fn x = true ∨ X.env.scope.names.lookup x = some .local := by first | exact .inl rfl | exact .inr rfl | assumption) : PDG X W (.Name x pos) (dgName i) [i] :=
  ⟨_, pg_name hN hi hx hf, fun F H σ τ ρ ε v d Q k R r h q => q F H _ _ (R.setFz r (okSet_io h.1)) (Same.refl _) ⟨by rw [List.length_set], fun j hj => List.getElem?_set_ne fun z => hj (by rw [z]; exact List.mem_singleton.mpr rfl)⟩ h.2⟩
theorem dgs_nil : PDGs X W [] dgNil [] := ⟨_, pgs_nil, fun F H σ τ ρ ε vs ds Q k R r h q => by
  unfold dgNil at h
  split at h
  · exact ⟨r.nil_of, q F H σ ρ R (Same.refl _) Off.refl h⟩
  · exact h.elim⟩
theorem dgs_cons {t : Expr} {ts : List Expr} {g : DG} {gs : DGs} {sl sl' : List Nat} (h1 : PDG X W t g sl) (h2 : PDGs X W ts gs sl') (hs : (assignEach (t :: ts) X.env).map (·.2) = assign t X.env :: (assignEach ts X.env).map (·.2) := by rfl) : PDGs X W (t :: ts) (dgCons g gs) (sl ++ sl') := by
  obtain ⟨a, a1, a2⟩ := h1.ex
  obtain ⟨b, b1, b2⟩ := h2.ex
  refine ⟨_, pgs_cons a1 b1 hs, fun F H σ τ ρ ε vs ds Q k R r h q => ?_⟩
  unfold dgCons at h
  split at h
  · obtain ⟨v, ws, rfl, r1, r2⟩ := r.cons_of
    exact ⟨v, ws, rfl, a2 F H σ τ ρ ε v _ _ _ R r1 h fun F' H' σ' ρ' R' s' o1 h' => b2 F' H' σ' τ ρ' ε ws _ _ _ R' (r2.mono s') h' fun F2 H2 σ2 ρ2 R2 s2 o2 h2 => q F2 H2 σ2 ρ2 R2 (s'.trans s2) (o1.trans o2) h2⟩
  · exact h.elim
theorem dg_tup {ts : List Expr} {k : Nat} {gs : DGs} {n : Nat} {sl : List Nat} (hc : X.calm = true) (h : PDGs X W ts gs sl) (hn : (assignEach ts X.env).length = n := by rfl) (hst : (assignEach ts X.env).findIdx? (·.1) = none := by rfl) : PDG X W (.Tuple ts k pos) (dgTup n gs) sl := by
  obtain ⟨a, a1, a2⟩ := h.ex
  refine ⟨_, pg_tup hc a1 hn hst, fun F H σ τ ρ ε v d Q k R r h q => ?_⟩
  unfold dgTup at h
  split at h
  · obtain ⟨p, xs, rfl, h1, h2⟩ := rep_tupH R.ex r
    exact ⟨p, xs, rfl, SqT.of h1, by rw [h2.length]; exact h.1, a2 F H σ τ ρ ε xs _ _ _ R h2 h.2 q⟩
  · exact h.elim
def dAsg (de : DE) (g : DG) : DS := fun D ρ => de ρ fun d ρ1 => g d ρ1 D.nx
theorem ds_asg {t : Expr} {g : DG} {sl : List Nat} (he : PDE X W e de) (hg : PDG X W t g sl) (hs : swapsWithSole [t] e pos.line X.env = pure false := by rfl) (hw : swappedStores [t] e X.env = pure none := by rfl)
    (h1 : (assignEach [t] X.env).map (·.2) = [assign t X.env] := by rfl) : PDS X W (.Assign [t] e pos) (dAsg de g) := by
  obtain ⟨a, a1, a2⟩ := he.ex
  obtain ⟨b, b1, b2⟩ := hg.ex
  exact ⟨_, ps_asg a1 b1 hs hw h1, fun F H σ ρ D DD R L h => a2 F H σ [] ρ [] _ _ R h fun F' H' ρ' v d R' s' r' h' => b2 F' H' σ [] ρ' [] v d _ _ R' r' h' fun F2 H2 σ2 ρ2 R2 s2 _ h2 => L.nx F2 H2 σ2 ρ2 R2 (s'.trans s2) h2⟩
theorem ds_set {i : Nat} {x : Str} {pos' : Pos} (hN : X.N.Nodup) (hi : X.N[i]? = some x) (hx : Loc X.env.scope x) (he : PDE X W e de) (hs : swapsWith e (some (.Name x pos')) pos.line X.env = pure false := by rfl) (hf : X.fn x = true ∨ X.env.scope.names.lookup x = some .local := by first | exact .inl rfl | exact .inr rfl | assumption) :
    PDS X W (.Assign [.Name x pos'] e pos) (dAsg de (dgName i)) := by
  obtain ⟨a, a1, a2⟩ := he.ex
  exact ⟨_, ps_set hN hi hx a1 hs hf, fun F H σ ρ D DD R L h => a2 F H σ [] ρ [] _ _ R h fun F' H' ρ' v d R' s' r' h' => L.nx F' H' _ _ (R'.setFz r' (okSet_io h'.1)) s' h'.2⟩
theorem ds_setN {i : Nat} {x : Str} {pos' : Pos} (hN : X.N.Nodup) (hi : X.N[i]? = some x) (hx : Loc X.env.scope x) (he : PDN X W e dn) (hs : swapsWith e (some (.Name x pos')) pos.line X.env = pure false := by rfl) (hf : X.fn x = true ∨ X.env.scope.names.lookup x = some .local := by first | exact .inl rfl | exact .inr rfl | assumption) :
    PDS X W (.Assign [.Name x pos'] e pos) (dSetN i dn) := by
  obtain ⟨a, a1, a2⟩ := he.ex
  exact ⟨_, ps_set hN hi hx a1 hs hf, fun F H σ ρ D DD R L h => a2 F H σ [] ρ [] _ _ R h fun F' H' ρ' v c R' s' h' => L.nx F' H' _ _ (R'.setNew (okSet_lt h'.1) (okSet_io h'.1)) s' h'.2⟩
/-- x += e, x -= e of dInts -/
def dAug (i : Nat) (f : Int → Int → Int) (de : DE) : DS := fun D ρ => match ρ[i]? with
  | some (.fz (.int a)) => de ρ fun d ρ1 => match d with
    | .int b => okSet ρ1 i = true ∧ D.nx (ρ1.set i (.fz (.int (f a b))))
    | _ => False
  | _ => False
theorem ds_aug {i : Nat} {x : Str} {pos' : Pos} {op : Operator} {f : Int → Int → Int} (hN : X.N.Nodup) (hi : X.N[i]? = some x) (hx : Loc X.env.scope x) (he : PDE X W e de) (ho : PIp X op (ipI f))
    (hf : X.fn x = true ∨ X.env.scope.names.lookup x = some .local := by first | exact .inl rfl | exact .inr rfl | assumption) :
    PDS X W (.AugAssign (.Name x pos') op e pos) (dAug i f de) := by
  obtain ⟨a, a1, a2⟩ := he.ex
  refine ⟨_, ps_aug hN hi hx a1 ho hf, fun F H σ ρ D DD R L h => ?_⟩
  unfold dAug at h
  split at h
  · next z e1 =>
    obtain ⟨v, h1, h2⟩ := R.var e1
    refine ⟨v, h1, a2 F H σ [] ρ [] _ _ R h fun F' H' ρ' w d R' s' r' h' => ?_⟩
    split at h'
    · cases h2.int_of
      cases r'.int_of
      exact ⟨_, _, rfl, rfl, L.nx F' H' _ _ (R'.setFz (.int _) (okSet_io h'.1)) s' h'.2⟩
    · exact h'.elim
  · exact h.elim

/-! ### loops -/
/-- what a for walks, as a list of data -/
abbrev DI := Rho → (List D → Rho → Prop) → Prop
/-- J walks xs, what is frozen at F standing -/
def WalkD (J : It) (F : Hp) (xs : List D) : Prop := ∀ (i : Nat) (F2 H : Hp), Same F F2 → Same F2 H →
  (∀ d, xs[i]? = some d → J.go i H ∧ ∀ x H', J.yld i H x H' → ∃ F', Ext F2 H F' H' ∧ Rep F' x d) ∧ (xs.length ≤ i → J.stop i H)
def SndI (W : Ent) (wi : TI) (di : DI) : Prop := ∀ F H σ τ ρ ε (Q : List D → Rho → Prop) (R : It → Hp → Prop), At W F H σ τ ρ ε → di ρ Q →
  (∀ F' H' ρ' xs J, At W F' H' σ τ ρ' ε → Same F F' → WalkD J F' xs → Q xs ρ' → R J H') → wi σ H R
structure PDI (X : Cx) (W : Ent) (tg iter : Expr) (di : DI) : Prop where
  ex : ∃ wi, PI X tg iter wi ∧ SndI W wi di
def dLoop (g : DG) (body : DS) (D : DEnds) : List PyData → Rho → Prop
  | [], ρ => D.nx ρ
  | x :: xs, ρ => g x ρ fun ρ' => body { D with nx := dLoop g body D xs, ct := dLoop g body D xs, bk := D.nx } ρ'
def dFor (di : DI) (g : DG) (body : DS) : DS := fun D ρ => di ρ fun xs ρ1 => dLoop g body D xs ρ1
theorem snd_for {wi : TI} {di : DI} {g : TG} {dg : DG} {tb : TS} {db : DS} {sl : List Nat} (h1 : SndI W wi di) (h2 : SndG W g dg sl) (h3 : SndS W tb db) : SndS W (tFor wi g tb) (dFor di dg db) := by
  intro F H σ ρ D DD R L h
  refine h1 F H σ [] ρ [] _ _ R h fun F1 H1 ρ1 xs J R1 s1 wk h' => ?_
  refine ⟨fun i m σ H => ∃ F ρ, i ≤ xs.length ∧ m = xs.length - i ∧ At W F H σ [] ρ [] ∧ Same F1 F ∧ dLoop dg db DD (xs.drop i) ρ, ⟨xs.length, F1, ρ1, Nat.zero_le _, rfl, R1, Same.refl _, h'⟩, ?_⟩
  rintro i m σ2 H2 ⟨F2, ρ2, hi, rfl, R2, s2, h2'⟩
  obtain ⟨wg, ws⟩ := wk i F2 H2 s2 R2.ex
  by_cases hlt : i < xs.length
  · have ei : xs[i]? = some xs[i] := List.getElem?_eq_getElem hlt
    obtain ⟨g1, g2⟩ := wg _ ei
    rw [List.drop_eq_getElem_cons hlt] at h2'
    refine .inr ⟨g1, fun σ' H' => ∃ F' ρ', At W F' H' σ' [] ρ' [] ∧ Same F1 F' ∧ dLoop dg db DD (xs.drop (i + 1)) ρ', fun σ' H' ⟨F', ρ', q1, q2, q3⟩ => ⟨xs.length - (i + 1), by omega, F', ρ', hlt, rfl, q1, q2, q3⟩, fun x H' y => ?_⟩
    obtain ⟨F3, ex, rx⟩ := g2 x H' y
    have R3 := R2.ext ex
    refine h2 F3 H' σ2 [] ρ2 [] x _ _ _ R3 rx h2' fun F4 H4 σ4 ρ4 R4 s4 _ h4 => ?_
    have s14 : Same F1 F4 := (s2.trans ex.fF).trans s4
    have nx : ∀ F H σ ρ, At W F H σ [] ρ [] → Same F4 F → dLoop dg db DD (xs.drop (i + 1)) ρ → ∃ F' ρ', At W F' H σ [] ρ' [] ∧ Same F1 F' ∧ dLoop dg db DD (xs.drop (i + 1)) ρ' := fun F H σ ρ R e q => ⟨F, ρ, R, s14.trans e, q⟩
    have s04 : Same F F4 := s1.trans s14
    exact h3 F4 H4 σ4 ρ4 _ { DD with nx := dLoop dg db DD (xs.drop (i + 1)), ct := dLoop dg db DD (xs.drop (i + 1)), bk := DD.nx } R4 ⟨nx, fun F5 H5 σ5 ρ5 R5 e q => L.nx F5 H5 σ5 ρ5 R5 (s04.trans e) q, nx, fun F5 H5 σ5 ρ5 v d R5 e => L.rt F5 H5 σ5 ρ5 v d R5 (s04.trans e), fun F5 H5 σ5 ρ5 v c R5 e => L.rn F5 H5 σ5 ρ5 v c R5 (s04.trans e)⟩ h4
  · refine .inl ⟨ws (by omega), ?_⟩
    rw [List.drop_eq_nil_of_le (by omega)] at h2'
    exact L.nx F2 H2 σ2 ρ2 R2 (s1.trans s2) h2'
theorem ds_for {tg iter : Expr} {body : List Stmt} {di : DI} {g : DG} {db : DS} {sl : List Nat} (hp : PassesOwn (model X.prog X.w) X.A X.env X.xe) (hc : X.calm = true) (hi : PDI X W tg iter di) (hg : PDG X W tg g sl) (hb : PDSs X W body db)
    (hs : ∀ x, foldedSetIterable iter X.env x = pure x := by intro _; rfl) : PDS X W (.For tg iter body [] pos) (dFor di g db) := by
  obtain ⟨a, a1, a2⟩ := hi.ex
  obtain ⟨b, b1, b2⟩ := hg.ex
  obtain ⟨c, c1, c2⟩ := hb.ex
  exact ⟨_, ps_for hp hc a1 b1 c1 hs, snd_for a2 b2 c2⟩
/-- a while, by a number of turns that is enough -/
def dWh (dt : DT) (body : DS) (D : DEnds) : Nat → Rho → Prop
  | 0, _ => False
  | n + 1, ρ => dt ρ fun k ρ1 => match k with
    | true => body { D with nx := dWh dt body D n, ct := dWh dt body D n, bk := D.nx } ρ1
    | false => D.nx ρ1
def dWhile (dt : DT) (body : DS) : DS := fun D ρ => ∃ n, dWh dt body D n ρ
theorem snd_while {tt : TT} {tb : TS} {db : DS} (h1 : SndT W tt dt) (h3 : SndS W tb db) : SndS W (tWhile tt tb) (dWhile dt db) := by
  intro F H σ ρ D DD R L h
  obtain ⟨n, h⟩ := h
  refine ⟨fun m σ H => ∃ F' ρ, At W F' H σ [] ρ [] ∧ Same F F' ∧ dWh dt db DD m ρ, ⟨n, F, ρ, R, Same.refl _, h⟩, ?_⟩
  rintro m σ2 H2 ⟨F2, ρ2, R2, s2, h2⟩
  cases m with
  | zero => exact h2.elim
  | succ m =>
    refine h1 F2 H2 σ2 [] ρ2 [] _ _ R2 h2 fun F3 H3 ρ3 k R3 s3 h3' => ?_
    have s03 : Same F F3 := s2.trans s3
    cases k with
    | true =>
      refine iteT ⟨fun σ' H' => ∃ F' ρ', At W F' H' σ' [] ρ' [] ∧ Same F F' ∧ dWh dt db DD m ρ', fun σ' H' q => ⟨m, Nat.lt_succ_self m, q⟩, ?_⟩
      have nx : ∀ F' H σ ρ, At W F' H σ [] ρ [] → Same F3 F' → dWh dt db DD m ρ → ∃ F'' ρ', At W F'' H σ [] ρ' [] ∧ Same F F'' ∧ dWh dt db DD m ρ' := fun F' H σ ρ R e q => ⟨F', ρ, R, s03.trans e, q⟩
      exact h3 F3 H3 σ2 ρ3 _ { DD with nx := dWh dt db DD m, ct := dWh dt db DD m, bk := DD.nx } R3 ⟨nx, fun F5 H5 σ5 ρ5 R5 e q => L.nx F5 H5 σ5 ρ5 R5 (s03.trans e) q, nx, fun F5 H5 σ5 ρ5 v d R5 e => L.rt F5 H5 σ5 ρ5 v d R5 (s03.trans e), fun F5 H5 σ5 ρ5 v c R5 e => L.rn F5 H5 σ5 ρ5 v c R5 (s03.trans e)⟩ h3'
    | false => exact iteF (L.nx F3 H3 σ2 ρ3 R3 s03 h3')
theorem ds_while {c : Expr} {body : List Stmt} {db : DS} (hp : PassesOwn (model X.prog X.w) X.A X.env X.xe) (hc : PDT X W c dt) (hb : PDSs X W body db) : PDS X W (.While c body [] pos) (dWhile dt db) := by
  obtain ⟨a, a1, a2⟩ := hc.ex
  obtain ⟨b, b1, b2⟩ := hb.ex
  exact ⟨_, ps_while hp a1 b1, snd_while a2 b2⟩

/-! ### what is walked -/
theorem walk_list {K : PySem.W.Frag} {F : Hp} {a : Addr} {vs : List V} {ds : List D} (h : F a = some (.lst vs)) (r : Reps F vs ds) : WalkD (Itl K a) F ds := fun i F2 H s2 sH => by
  have hH := SqL.of (K := K) (sH _ _ (s2 _ _ h))
  refine ⟨fun d hd => ?_, fun hl => ⟨vs, hH, by rw [r.length]; exact hl⟩⟩
  obtain ⟨v, h1, h2⟩ := r.get hd
  refine ⟨⟨vs, v, hH, h1⟩, fun x H' y => ?_⟩
  obtain ⟨rfl, y⟩ := y
  have e := y vs hH
  rw [h1] at e
  cases e
  exact ⟨F2, Ext.refl sH, h2.mono s2⟩
theorem walk_tup {K : PySem.W.Frag} {F : Hp} {a : Addr} {vs : List V} {ds : List D} (h : F a = some (.tup vs)) (r : Reps F vs ds) : WalkD (Itt K a) F ds := fun i F2 H s2 sH => by
  have hH := SqT.of (K := K) (sH _ _ (s2 _ _ h))
  refine ⟨fun d hd => ?_, fun hl => ⟨vs, hH, by rw [r.length]; exact hl⟩⟩
  obtain ⟨v, h1, h2⟩ := r.get hd
  refine ⟨⟨vs, v, hH, h1⟩, fun x H' y => ?_⟩
  obtain ⟨rfl, y⟩ := y
  have e := y vs hH
  rw [h1] at e
  cases e
  exact ⟨F2, Ext.refl sH, h2.mono s2⟩
def dInts (lo : Int) (n : Nat) : List D := (List.range n).map fun (k : Nat) => .int (lo + (k : Int))
theorem dInts_get (lo : Int) (n i : Nat) : (dInts lo n)[i]? = if i < n then some (.int (lo + (i : Int))) else none := by
  unfold dInts
  rw [List.getElem?_map]
  by_cases h : i < n
  · rw [if_pos h, List.getElem?_range h]; rfl
  · rw [if_neg h, List.getElem?_eq_none (by rw [List.length_range]; omega)]; rfl
theorem dInts_len (lo : Int) (n : Nat) : (dInts lo n).length = n := by
  unfold dInts
  rw [List.length_map, List.length_range]
theorem walk_range {F : Hp} {lo : Int} {n : Nat} : WalkD (Itr lo n) F (dInts lo n) := fun i F2 H s2 sH => by
  refine ⟨fun d hd => ?_, fun hl => by rw [dInts_len] at hl; exact hl⟩
  rw [dInts_get] at hd
  by_cases h : i < n
  · rw [if_pos h] at hd
    cases hd
    refine ⟨h, fun x H' y => ?_⟩
    obtain ⟨rfl, rfl⟩ := y
    exact ⟨F2, Ext.refl sH, .int _⟩
  · rw [if_neg h] at hd; cases hd
/-- signs of a text, each a text -/
def signs (x : Str) : List D := x.cps.toList.map fun c => .str ⟨#[c]⟩
theorem walk_str {F : Hp} {x : Str} : WalkD (Its x) F (signs x) := fun i F2 H s2 sH => by
  have e0 : (signs x)[i]? = (x.cps[i]?).map fun c => .str ⟨#[c]⟩ := by
    unfold signs
    rw [List.getElem?_map, Array.getElem?_toList]
  refine ⟨fun d hd => ?_, fun hl => ?_⟩
  · rw [e0] at hd
    cases ec : x.cps[i]? with
    | none => rw [ec] at hd; cases hd
    | some c =>
      rw [ec] at hd
      cases hd
      refine ⟨(Array.getElem?_eq_some_iff.mp ec).1, fun v H' y => ?_⟩
      obtain ⟨rfl, c', e1, rfl⟩ := y
      rw [ec] at e1
      cases e1
      exact ⟨F2, Ext.refl sH, .str _⟩
  · unfold signs at hl
    rw [List.length_map] at hl
    exact hl
/-- for .. in a list, a tuple, a text: each by its own rule -/
def diList (de : DE) : DI := fun ρ Q => de ρ fun d ρ1 => match d with
  | .list ds => Q ds ρ1
  | _ => False
def diTup (de : DE) : DI := fun ρ Q => de ρ fun d ρ1 => match d with
  | .tuple ds => Q ds ρ1
  | _ => False
def diStr (de : DE) : DI := fun ρ Q => de ρ fun d ρ1 => match d with
  | .str x => Q (signs x) ρ1
  | _ => False
def diR1 (da : DA) : DI := fun ρ Q => da ρ fun ds ρ1 => match ds with
  | [.int j] => (-(2 ^ 62) ≤ j ∧ j < 2 ^ 62) ∧ Q (dInts 0 j.toNat) ρ1
  | _ => False
def diR2 (da : DA) : DI := fun ρ Q => da ρ fun ds ρ1 => match ds with
  | [.int i, .int j] => (-(2 ^ 62) ≤ i ∧ i < 2 ^ 62 ∧ -(2 ^ 62) ≤ j ∧ j < 2 ^ 62) ∧ Q (dInts i (j - i).toNat) ρ1
  | _ => False
variable {tg : Expr}
theorem di_list (he : PDE X W e de) : PDI X W tg e (diList de) := by
  obtain ⟨a, a1, a2⟩ := he.ex
  refine ⟨_, pi_list a1, fun F H σ τ ρ ε Q R At0 h q => a2 F H σ τ ρ ε _ _ At0 h fun F' H' ρ' v d R' s' r' h' => ?_⟩
  split at h'
  · obtain ⟨p, xs, rfl, h1, h2⟩ := r'.lst_of
    exact ⟨p, rfl, ⟨xs, SqL.of (R'.ex _ _ h1)⟩, q F' H' ρ' _ _ R' s' (walk_list h1 h2) h'⟩
  · exact h'.elim
theorem di_tup (he : PDE X W e de) : PDI X W tg e (diTup de) := by
  obtain ⟨a, a1, a2⟩ := he.ex
  refine ⟨_, pi_tup a1, fun F H σ τ ρ ε Q R At0 h q => a2 F H σ τ ρ ε _ _ At0 h fun F' H' ρ' v d R' s' r' h' => ?_⟩
  split at h'
  · obtain ⟨p, xs, rfl, h1, h2⟩ := r'.tup_of
    exact ⟨p, rfl, ⟨xs, SqT.of (R'.ex _ _ h1)⟩, q F' H' ρ' _ _ R' s' (walk_tup h1 h2) h'⟩
  · exact h'.elim
theorem di_str (he : PDE X W e de) : PDI X W tg e (diStr de) := by
  obtain ⟨a, a1, a2⟩ := he.ex
  refine ⟨_, pi_str a1, fun F H σ τ ρ ε Q R At0 h q => a2 F H σ τ ρ ε _ _ At0 h fun F' H' ρ' v d R' s' r' h' => ?_⟩
  split at h'
  · cases r'.str_of
    exact ⟨_, rfl, q F' H' ρ' _ _ R' s' walk_str h'⟩
  · exact h'.elim
variable {da1 : DA} {p : Pos}
theorem di_r1 {a : Expr} (hg : Gl X "range") (hm : X.mg "range" = none) (ha : PDA X W [a] da1) (hs : starEach [a] X.env = [(false, eval a X.env)] := by rfl) : PDI X W tg (.Call (.Name "range" p) [a] [] pos) (diR1 da1) := by
  obtain ⟨a, a1, a2⟩ := ha.ex
  refine ⟨_, pi_range1 hg hm a1 hs, fun F H σ τ ρ ε Q R At0 h q => a2 F H σ τ ρ ε _ _ At0 h fun F' H' ρ' vs ds R' s' r' h' => ?_⟩
  split at h'
  · obtain ⟨v, ws, rfl, r1, r2⟩ := r'.cons_of
    cases r1.int_of
    cases r2.nil_of
    exact ⟨_, rfl, h'.1.1, h'.1.2, q F' H' ρ' _ _ R' s' walk_range h'.2⟩
  · exact h'.elim
theorem di_r2 {a b : Expr} (hg : Gl X "range") (hm : X.mg "range" = none) (ha : PDA X W [a, b] da1) (hs : starEach [a, b] X.env = [(false, eval a X.env), (false, eval b X.env)] := by rfl) (hs2 : starEach [b] X.env = [(false, eval b X.env)] := by rfl) : PDI X W tg (.Call (.Name "range" p) [a, b] [] pos) (diR2 da1) := by
  obtain ⟨a, a1, a2⟩ := ha.ex
  refine ⟨_, pi_range2 hg hm a1 hs hs2, fun F H σ τ ρ ε Q R At0 h q => a2 F H σ τ ρ ε _ _ At0 h fun F' H' ρ' vs ds R' s' r' h' => ?_⟩
  split at h'
  · obtain ⟨v, ws, rfl, r1, r2⟩ := r'.cons_of
    obtain ⟨v2, ws2, rfl, r3, r4⟩ := r2.cons_of
    cases r1.int_of
    cases r3.int_of
    cases r4.nil_of
    exact ⟨_, _, rfl, h'.1, q F' H' ρ' _ _ R' s' walk_range h'.2⟩
  · exact h'.elim
end

open PySem L2

/-! ### contracts: arguments as slots (fz, or one io), what comes back and how the io stands; or an error (its class, its what) -/
abbrev GSp := List Slot → (Slot → List Slot → Prop) → (Addr → D → List Slot → Prop) → Prop
/-- what a contract may hand back of its arguments: their cells -/
def ioOnly (ρ : Rho) : Rho := ρ.map fun s => match s with
  | .io c => .io c
  | _ => .no
def entOf (H F : Hp) (fp : Nat → List Addr) (vs : List V) : Ent := ⟨H, F, fp, vs.map some⟩
/-- the own dict of an error that keeps one value, what -/
def errX (z : D) : XCell where
  rel := fun F H v fp => ∃ x w, v = .ref x ∧ fp = [x] ∧ H x = some (.xd [(("what" : Str), w)]) ∧ Rep F w z
  loc := by
    rintro F F' H H' v fp ⟨x, w, e1, e2, h1, h2⟩ s k
    exact ⟨x, w, e1, e2, by rw [k x (by rw [e2]; exact List.mem_cons_self)]; exact h1, h2.mono s⟩
  there := by
    rintro F H v fp ⟨x, w, e1, e2, h1, h2⟩ a m
    rw [e2] at m
    rw [List.mem_singleton.mp m]
    exact ⟨_, h1⟩
def errC (z : D) : Cell := .ext (errX z)
def spOf (g : GSp) : Sp := fun vs H Q E => ∃ F fp args Q0 E0, Rel (entOf H F fp vs) F H (vs.map some) args ∧ (∀ (j : Nat) c, args[j]? ≠ some (Slot.ow c)) ∧ g args Q0 E0 ∧
  (∀ r args', Q0 r args' → r.isIo = false → ∀ v F' H', At (entOf H F fp vs) F' H' (vs.map some) [some v] args' [r] → Q v H') ∧
  (∀ C z args', E0 C z args' → ∀ dx F' H', At (entOf H F fp vs) F' H' (vs.map some) [some (.ref dx)] args' [.ow (errC z)] → E (.ref C) (some dx) H')

/-- what is wanted of an error that leaves, at the level of data -/
abbrev DX := Addr → D → Rho → Prop
def ExL (W : Ent) (E : XK) (dx : DX) : Prop := ∀ F H σ τ ρ ε x z C, At W F H σ (some (.ref x) :: τ) ρ (.ow (errC z) :: ε) → dx C z ρ → E (.ref C) (some x) H
/-- what waits is let go -/
theorem At.dropAll {W : Ent} {F H : Hp} {σ : L2.St} {ρ : Rho} : ∀ {τ : L2.St} {ε : Rho}, At W F H σ τ ρ ε → At W F H σ [] ρ []
  | [], [], R => R
  | [], s :: ε, R => by have h1 := R.rel.len; have h2 := R.len; rw [List.length_append, List.length_append, List.length_cons, List.length_nil, h2] at h1; omega
  | t :: τ, [], R => by have h1 := R.rel.len; have h2 := R.len; rw [List.length_append, List.length_append, List.length_cons, List.length_nil, h2] at h1; omega
  | t :: τ, s :: ε, R => At.dropAll R.drop
theorem At.keep1 {W : Ent} {F H : Hp} {σ τ : L2.St} {ρ ε : Rho} {v : V} {s : Slot} (R : At W F H σ (some v :: τ) ρ (s :: ε)) (hs : ∀ c, s ≠ .io c) : At W F H σ [some v] ρ [s] :=
  At.ofName (At.dropAll R.toName) hs

theorem ioOnly_get {ρ : Rho} {j : Nat} {s : Slot} (h : (ioOnly ρ)[j]? = some s) : s = .no ∨ ∃ c, s = .io c ∧ ρ[j]? = some (.io c) := by
  unfold ioOnly at h
  rw [List.getElem?_map] at h
  cases e : ρ[j]? with
  | none => rw [e] at h; cases h
  | some s0 =>
    rw [e] at h
    cases s0 <;> cases h
    · exact .inl rfl
    · exact .inl rfl
    · exact .inl rfl
    · exact .inr ⟨_, rfl, rfl⟩

section
variable {P : Program} {w : World} {K : PySem.W.Frag} {mg : Str → Option Value} {base : Heap}
theorem getApp1 {α : Type} {l m : List α} {j : Nat} {x : α} (h : l[j]? = some x) : (l ++ m)[j]? = some x := by
  rw [List.getElem?_append_left (lt_of_get h)]; exact h
/-- from a walk's end to the caller's view: the parameters alone, what comes back waiting -/
theorem At.leave {H0 F0 : Hp} {fp : Nat → List Addr} {vs : List V} {F H : Hp} {σ : L2.St} {ρ : Rho} {τ : L2.St} {ε : Rho} (R : At (entOf H0 F0 fp vs) F H σ τ ρ ε) (hn : vs.length ≤ ρ.length) :
    At (entOf H0 F0 fp vs) F H (vs.map some) τ (ioOnly (ρ.take vs.length)) ε := by
  have hl := R.len
  have hlt : τ.length = ε.length := by have := R.rel.len; rw [List.length_append, List.length_append] at this; omega
  have l1 : (ioOnly (ρ.take vs.length)).length = vs.length := by unfold ioOnly; rw [List.length_map, List.length_take]; omega
  refine R.remap (by rw [List.length_map, l1]) (by rw [List.length_append, List.length_append, List.length_map, l1, hlt]) (fun j => if j < vs.length then j else j - vs.length + ρ.length) (fun j s hj => ?_) (fun j c hj => ?_) (fun i j s s' e1 e2 e3 e4 ef => ?_) R.nio
  · by_cases z : j < vs.length
    · rw [get_app (by rw [l1]; exact z)] at hj
      rcases ioOnly_get hj with q | ⟨c, rfl, q⟩
      · exact .inl q
      · refine .inr ⟨_, ?_, rfl, ?_⟩
        · show (ρ ++ ε)[if j < vs.length then j else j - vs.length + ρ.length]? = _
          rw [if_pos z, get_app (by omega)]
          rw [List.getElem?_take_of_lt z] at q
          exact q
        · show _ = (σ ++ τ)[if j < vs.length then j else j - vs.length + ρ.length]?
          rw [if_pos z, get_app (by rw [List.length_map]; exact z)]
          have q' : (ρ ++ ε)[j]? = some (Slot.io c) := by
            rw [List.getElem?_take_of_lt z] at q
            exact getApp1 q
          exact (R.rel.io j c q').symm
    · refine .inr ⟨s, ?_, rfl, ?_⟩
      · show (ρ ++ ε)[if j < vs.length then j else j - vs.length + ρ.length]? = _
        rw [if_neg z, List.getElem?_append_right (by omega), show j - vs.length + ρ.length - ρ.length = j - vs.length by omega]
        rw [List.getElem?_append_right (by omega), l1] at hj
        exact hj
      · show _ = (σ ++ τ)[if j < vs.length then j else j - vs.length + ρ.length]?
        rw [if_neg z, List.getElem?_append_right (by rw [List.length_map]; omega), List.length_map, List.getElem?_append_right (by omega), show j - vs.length + ρ.length - σ.length = j - vs.length by omega]
  · show (if j < vs.length then j else j - vs.length + ρ.length) = j
    by_cases z : j < vs.length
    · rw [if_pos z]
    · rw [List.getElem?_append_right (by omega), l1] at hj
      exact absurd hj (R.nio _ c)
  · have ef : (if i < vs.length then i else i - vs.length + ρ.length) = (if j < vs.length then j else j - vs.length + ρ.length) := ef
    by_cases y : i < vs.length
    · by_cases y2 : j < vs.length
      · rw [if_pos y, if_pos y2] at ef; exact ef
      · rw [if_pos y, if_neg y2] at ef; omega
    · by_cases y2 : j < vs.length
      · rw [if_neg y, if_pos y2] at ef; omega
      · rw [if_neg y, if_neg y2] at ef; omega

/-- the ends of a def's body -/
def bodyEnds (n : Nat) (Q : Slot → List Slot → Prop) : DEnds where
  nx := fun ρ => n ≤ ρ.length ∧ Q (.fz .none) (ioOnly (ρ.take n))
  rt := fun r ρ => n ≤ ρ.length ∧ Q r (ioOnly (ρ.take n))
  bk := fun _ => False
  ct := fun _ => False
def bodyDX (n : Nat) (Eg : Addr → D → List Slot → Prop) : DX := fun C z ρ => n ≤ ρ.length ∧ Eg C z (ioOnly (ρ.take n))
def bodyEnv (n m : Nat) (args : List Slot) : Rho := args ++ List.replicate (m - n) .no

theorem At.pushFz {W : Ent} {F H : Hp} {σ τ : L2.St} {ρ ε : Rho} {v : V} {d : D} (R : At W F H σ τ ρ ε) (r : Rep F v d) : At W F H σ (some v :: τ) ρ (.fz d :: ε) := by
  obtain ⟨fp, o1, o2⟩ := R.rel.ow
  have hl := R.len
  have hlt : τ.length = ε.length := by have := R.rel.len; rw [List.length_append, List.length_append] at this; omega
  let f : Nat → Nat := fun j => if j < ρ.length then j else j - 1
  have get : ∀ (j : Nat) (s1 : Slot), (ρ ++ (.fz d :: ε))[j]? = some s1 → (s1 = .fz d ∧ (σ ++ (some v :: τ))[j]? = some (some v)) ∨ (j ≠ ρ.length ∧ (ρ ++ ε)[f j]? = some s1 ∧ (σ ++ (some v :: τ))[j]? = (σ ++ τ)[f j]?) := fun j s1 h => by
    by_cases z : j < ρ.length
    · refine .inr ⟨by omega, ?_, ?_⟩
      · show (ρ ++ ε)[if j < ρ.length then j else j - 1]? = _
        rw [if_pos z, get_app z]
        rw [get_app z] at h; exact h
      · show _ = (σ ++ τ)[if j < ρ.length then j else j - 1]?
        rw [if_pos z, get_app (by rw [R.len]; exact z), get_app (by rw [R.len]; exact z)]
    · by_cases z2 : j = ρ.length
      · subst z2
        rw [List.getElem?_append_right (Nat.le_refl _), Nat.sub_self] at h
        refine .inl ⟨(Option.some.inj h).symm, ?_⟩
        rw [List.getElem?_append_right (by rw [R.len]; exact Nat.le_refl _), R.len, Nat.sub_self]
        rfl
      · refine .inr ⟨z2, ?_, ?_⟩
        · show (ρ ++ ε)[if j < ρ.length then j else j - 1]? = _
          rw [if_neg z, List.getElem?_append_right (by omega)]
          rw [List.getElem?_append_right (by omega)] at h
          obtain ⟨m, hm⟩ : ∃ m, j - ρ.length = m + 1 := ⟨j - ρ.length - 1, by omega⟩
          rw [hm, List.getElem?_cons_succ] at h
          rw [show j - 1 - ρ.length = m by omega]; exact h
        · show _ = (σ ++ τ)[if j < ρ.length then j else j - 1]?
          have z' : ¬ j < σ.length := by rw [R.len]; exact z
          rw [if_neg z, List.getElem?_append_right (by omega), List.getElem?_append_right (by rw [R.len]; omega)]
          obtain ⟨m, hm⟩ : ∃ m, j - σ.length = m + 1 := ⟨j - σ.length - 1, by rw [R.len]; omega⟩
          rw [hm, List.getElem?_cons_succ, show j - 1 - σ.length = m by omega]
  refine ⟨R.len, ⟨R.ex, by rw [List.length_append, List.length_append, List.length_cons, List.length_cons, R.len, hlt], fun j d' hj => ?_, fun j c1 hj => ?_, ⟨fun j => fp (f j), fun j s1 c1 hj hc1 => ?_, fun j k s1 s2 c1 c2 hjk e1 e2 e3 e4 => ?_⟩, R.rel.fr, R.rel.st, R.rel.gr, R.rel.f0⟩, fun j c1 hj => ?_⟩
  · rcases get j _ hj with ⟨q, q3⟩ | ⟨_, q, q3⟩
    · cases q
      exact ⟨v, q3, r⟩
    · rw [q3]; exact R.rel.fz _ d' q
  · rcases get j _ hj with ⟨q, _⟩ | ⟨z, q, q3⟩
    · cases q
    · rw [q3, R.rel.io _ c1 q]
      by_cases z1 : j < ρ.length
      · show W.vs0[if j < ρ.length then j else j - 1]? = _
        rw [if_pos z1]
      · exfalso
        have q' : (ρ ++ ε)[if j < ρ.length then j else j - 1]? = some (Slot.io c1) := q
        rw [if_neg z1, List.getElem?_append_right (by omega)] at q'
        exact R.nio _ c1 q'
  · rcases get j _ hj with ⟨q, q3⟩ | ⟨q1, q, q3⟩
    · subst q; cases hc1
    · rw [q3]
      obtain ⟨g1, g3⟩ := o1 _ s1 c1 q hc1
      refine ⟨g1, fun a ha => ⟨(g3 a ha).1, ?_⟩⟩
      rcases (g3 a ha).2 with z | ⟨z, c', e⟩
      · exact .inl z
      · subst e
        have ef : f j = j := by
          by_cases z1 : j < ρ.length
          · exact if_pos z1
          · exfalso
            have q' : (ρ ++ ε)[if j < ρ.length then j else j - 1]? = some (Slot.io c') := q
            rw [if_neg z1, List.getElem?_append_right (by omega)] at q'
            exact R.nio _ c' q'
        rw [ef] at z
        exact .inr ⟨z, c', rfl⟩
  · rcases get j _ e1 with ⟨q, _⟩ | ⟨q1, q, _⟩
    · subst q; cases e2
    · rcases get k _ e3 with ⟨r, _⟩ | ⟨r1, r, _⟩
      · subst r; cases e4
      · refine o2 _ _ s1 s2 c1 c2 (fun z => hjk ?_) q e2 r e4
        have z : (if j < ρ.length then j else j - 1) = (if k < ρ.length then k else k - 1) := z
        by_cases y1 : j < ρ.length
        · by_cases y2 : k < ρ.length
          · rw [if_pos y1, if_pos y2] at z; exact z
          · rw [if_pos y1, if_neg y2] at z; omega
        · by_cases y2 : k < ρ.length
          · rw [if_neg y1, if_pos y2] at z; omega
          · rw [if_neg y1, if_neg y2] at z; omega
  · cases j with
    | zero => cases hj
    | succ j => exact R.nio j c1 hj

theorem okN {x qual : Str} {st : Stmt} {f : Addr} {fd : FuncData} {N ps : List Str} {k : Nat} {sp : Sp} (F : Fun K x qual st f fd) (S : FnScope N ps (defScope st)) (len : ∀ vs H Q E, sp vs H Q E → vs.length = ps.length)
    (hbody : ∀ (cdv : Value) (A : Around) (outer : List Env) (s : Shared) (H : Hp) (vs : List V) (Q : VK) (E : XK), Room k (A.deeper (PyProof.Rows.envOfC qual (defScope st) s.heap.objs.size f cdv)) → sp vs H Q E →
      ∃ t, PSs (cxOf (L2N.CX P w) P w K mg base N qual (defScope st) f cdv A outer s H E) (defBody st) t ∧ t { nx := fun _ H' => Q .non H', rt := Q } (start N vs) H) : FnOk P w K mg base (L2N.CX P w) (k + 1) f fd ps sp := by
  obtain ⟨oc, od, kV, doc, pm, an, cdv, ct, osl, rfl, lk, hcd⟩ := F.ex
  exact fn_of lk hcd S len fun A outer s H vs Q E hr hsp => hbody cdv A outer s H vs Q E hr hsp
/-- THE RULE for a def: its body, at the level of data, keeps the contract -/
theorem fn_d {x qual : Str} {st : Stmt} {f : Addr} {fd : FuncData} {N ps : List Str} {k : Nat} {g : GSp} (Fn : Fun K x qual st f fd) (S : FnScope N ps (defScope st)) (hlen : ∀ args Q E, g args Q E → args.length = ps.length)
    (hbody : ∀ (cdv : Value) (A : Around) (outer : List Env) (s : Shared) (H : Hp) (E : XK) (W : Ent) (dx : DX), Room k (A.deeper (PyProof.Rows.envOfC qual (defScope st) s.heap.objs.size f cdv)) → ExL W E dx →
      ∃ ds, PDSs (cxOf (L2N.CX P w) P w K mg base N qual (defScope st) f cdv A outer s H E) W (defBody st) ds ∧
        ∀ args Q Eg, g args Q Eg → dx = bodyDX ps.length Eg → ds (bodyEnds ps.length Q) (bodyEnv ps.length N.length args)) : FnOk P w K mg base (L2N.CX P w) (k + 1) f fd ps (spOf g) := by
  have hpl : ps.length ≤ N.length := by have := congrArg List.length S.pre; rw [List.length_take] at this; omega
  refine okN Fn S (fun vs H Q E h => ?_) (fun cdv A outer s H vs Q E hr h => ?_)
  · obtain ⟨F, fp, args, Q0, E0, R, _, hg, _⟩ := h
    have := R.len
    rw [List.length_map] at this
    rw [this]; exact hlen _ _ _ hg
  · obtain ⟨F, fp, args, Q0, E0, R, now, hg, hQ, hE⟩ := h
    have hal := hlen _ _ _ hg
    have hvl : vs.length = ps.length := by have := R.len; rw [List.length_map] at this; rw [this, hal]
    have xl : ExL (entOf H F fp vs) E (bodyDX ps.length E0) := fun F' H' σ τ ρ ε x z C R' hd => by
      obtain ⟨hn, he⟩ := hd
      have R2 : At (entOf H F fp vs) F' H' (vs.map some) (some (.ref x) :: τ) (ioOnly (ρ.take vs.length)) (.ow (errC z) :: ε) := R'.leave (by rw [hvl]; exact hn)
      rw [hvl] at R2
      exact hE C z _ he x F' H' (R2.keep1 fun c q => by cases q)
    obtain ⟨ds, ⟨ts, hp, hs⟩, hd⟩ := hbody cdv A outer s H E (entOf H F fp vs) (bodyDX ps.length E0) hr xl
    refine ⟨ts, hp, ?_⟩
    have h0 := hd args Q0 E0 hg rfl
    have hst : start N vs = vs.map some ++ List.replicate (N.length - vs.length) none := rfl
    have hrl : (List.replicate (N.length - ps.length) (none : Option V)).length = (List.replicate (N.length - ps.length) Slot.no).length := by rw [List.length_replicate, List.length_replicate]
    have R1 : At (entOf H F fp vs) F H (start N vs) [] (bodyEnv ps.length N.length args) [] := by
      have hl2 : (start N vs).length = (bodyEnv ps.length N.length args).length := by
        rw [hst]
        unfold bodyEnv
        rw [List.length_append, List.length_append, List.length_map, List.length_replicate, List.length_replicate, hal, hvl]
      refine ⟨hl2, R.remap rfl rfl rfl (fun j => j) (by rw [List.append_nil, List.append_nil]; exact hl2) (fun j s hj => ?_) (fun j c hj => ?_) (fun i j s s' _ _ _ _ e => e), fun j c hj => by cases hj⟩
      · rw [List.append_nil] at hj
        by_cases z : j < args.length
        · unfold bodyEnv at hj
          rw [get_app z] at hj
          refine .inr ⟨s, hj, rfl, ?_⟩
          rw [List.append_nil, hst, get_app (by rw [List.length_map]; omega)]
        · refine .inl ?_
          unfold bodyEnv at hj
          rw [List.getElem?_append_right (by omega), List.getElem?_replicate] at hj
          split at hj
          · exact (Option.some.inj hj).symm
          · cases hj
      · rw [List.append_nil] at hj ⊢
        have z : j < args.length := by
          by_cases z : j < args.length
          · exact z
          · unfold bodyEnv at hj
            rw [List.getElem?_append_right (by omega), List.getElem?_replicate] at hj
            split at hj <;> cases hj
        rw [hst, get_app (by rw [List.length_map]; omega)]
        exact ⟨rfl, rfl⟩
    -- the walk's ends
    refine hs F H (start N vs) _ { nx := fun _ H' => Q .non H', rt := Q } (bodyEnds ps.length Q0) R1 ⟨fun F' H' σ ρ R' _ q => ?_, fun _ _ _ _ _ _ q => q.elim, fun _ _ _ _ _ _ q => q.elim, fun F' H' σ ρ v d R' _ r' q => ?_, fun F' H' σ ρ v c R' _ q => ?_⟩ h0
    · have R2 := (R'.pushFz (v := .non) (d := .none) .non).leave (by rw [hvl]; exact q.1)
      rw [hvl] at R2
      exact hQ _ _ q.2 rfl .non F' H' R2
    · have R2 := (R'.pushFz r').leave (by rw [hvl]; exact q.1)
      rw [hvl] at R2
      exact hQ _ _ q.2 rfl v F' H' R2
    · have R2 := R'.leave (by rw [hvl]; exact q.1)
      rw [hvl] at R2
      exact hQ _ _ q.2 rfl v F' H' R2
end

open PySem L2

theorem fzs_get {ds : List D} {j : Nat} {s : Slot} (h : (ds.map Slot.fz)[j]? = some s) : ∃ d, s = .fz d ∧ ds[j]? = some d := by
  rw [List.getElem?_map] at h
  cases e : ds[j]? with
  | none => rw [e] at h; cases h
  | some d => rw [e] at h; cases h; exact ⟨d, rfl, rfl⟩
theorem somes_get {vs : List V} {j : Nat} {v : V} (h : vs[j]? = some v) : (vs.map some)[j]? = some (some v) := by
  rw [List.getElem?_map, h]; rfl
/-- into a def, all arguments data -/
theorem Rel.enter0 {F H : Hp} {vs : List V} {ds : List D} (s : Same F H) (r : Reps F vs ds) : Rel (entOf H F (fun _ => []) vs) F H (vs.map some) (ds.map .fz) := by
  refine ⟨s, by rw [List.length_map, List.length_map]; exact r.length, fun i d h => ?_, fun i c h => ?_, ⟨fun _ => [], fun i s c h hc => ?_, fun i j s s' c c' _ h hc _ _ => ?_⟩, fun a o h _ => h, fun a o h => ⟨o, h⟩, fun a o h => .inl h, Same.refl _⟩
  · obtain ⟨d', e, h1⟩ := fzs_get h
    cases e
    obtain ⟨v, h2, h3⟩ := r.get h1
    exact ⟨v, somes_get h2, h3⟩
  · obtain ⟨d', e, _⟩ := fzs_get h
    cases e
  · obtain ⟨d', e, _⟩ := fzs_get h
    subst e; cases hc
  · obtain ⟨d', e, _⟩ := fzs_get h
    subst e; cases hc
/-- the first argument is a cell that is handed in -/
theorem Rel.enter1 {F H : Hp} {v : V} {fp : List Addr} {c : Cell} {vs : List V} {ds : List D} (s : Same F H) (hc : CellAt F H v fp c) (hf : ∀ a ∈ fp, F a = none) (r : Reps F vs ds) : Rel (entOf H F (fun _ => fp) (v :: vs)) F H ((v :: vs).map some) (.io c :: ds.map .fz) := by
  have cases' : ∀ (j : Nat) s, (Slot.io c :: ds.map Slot.fz)[j]? = some s → (j = 0 ∧ s = .io c) ∨ ∃ d, s = .fz d ∧ ∃ v', ((v :: vs).map some)[j]? = some (some v') ∧ Rep F v' d := fun j s h => by
    cases j with
    | zero => exact .inl ⟨rfl, (Option.some.inj h).symm⟩
    | succ j =>
      rw [List.getElem?_cons_succ] at h
      obtain ⟨d, e, h1⟩ := fzs_get h
      obtain ⟨v', h2, h3⟩ := r.get h1
      exact .inr ⟨d, e, v', by rw [List.map_cons, List.getElem?_cons_succ]; exact somes_get h2, h3⟩
  refine ⟨s, by rw [List.length_cons, List.length_map, List.length_map, List.length_cons, r.length], fun i d h => ?_, fun i c' h => rfl, ⟨fun _ => fp, fun i s c' h hc' => ?_, fun i j s s' c1 c2 hij h h1 h' h2 => ?_⟩, fun a o h _ => h, fun a o h => ⟨o, h⟩, fun a o h => .inl h, Same.refl _⟩
  · rcases cases' i _ h with ⟨_, e⟩ | ⟨d', e, v', h2, h3⟩
    · cases e
    · cases e; exact ⟨v', h2, h3⟩
  · rcases cases' i _ h with ⟨e0, e⟩ | ⟨d', e, _⟩
    · subst e0; subst e; cases hc'
      exact ⟨⟨v, rfl, hc⟩, fun a ha => ⟨hf a ha, .inr ⟨ha, c, rfl⟩⟩⟩
    · subst e; cases hc'
  · rcases cases' i _ h with ⟨e0, e⟩ | ⟨d', e, _⟩
    · rcases cases' j _ h' with ⟨e1, e2⟩ | ⟨d', e2, _⟩
      · exact absurd (e0.trans e1.symm) hij
      · subst e2; cases h2
    · subst e; cases h1
/-- out of it -/
theorem At.out0 {F H F' H' : Hp} {vs : List V} {τ : L2.St} {ε args' : List Slot} (R : At (entOf H F (fun _ => []) vs) F' H' (vs.map some) τ args' ε) : Ext F H F' H' :=
  ⟨R.rel.f0, fun a o h => R.rel.fr a o h fun _ => List.not_mem_nil, R.ex, R.rel.gr⟩
theorem At.outFz {F H F' H' : Hp} {fp : Nat → List Addr} {vs : List V} {v : V} {d : D} {args' : List Slot} (R : At (entOf H F fp vs) F' H' (vs.map some) [some v] args' [.fz d]) : Rep F' v d := by
  have hl := R.len
  obtain ⟨v', h1, h2⟩ := R.rel.fz args'.length d (by rw [List.getElem?_append_right (Nat.le_refl _), Nat.sub_self]; rfl)
  rw [List.getElem?_append_right (by omega), ← hl, Nat.sub_self] at h1
  cases h1
  exact h2
theorem At.outOw {F H F' H' : Hp} {vs : List V} {v : V} {c : Cell} {args' : List Slot} (R : At (entOf H F (fun _ => []) vs) F' H' (vs.map some) [some v] args' [.ow c]) : ∃ fp, CellAt F' H' v fp c ∧ ∀ a ∈ fp, F' a = none ∧ H a = none := by
  have hl := R.len
  obtain ⟨fp, o1, o2⟩ := R.rel.ow
  obtain ⟨⟨v', h1, h2⟩, h3⟩ := o1 args'.length (.ow c) c (by rw [List.getElem?_append_right (Nat.le_refl _), Nat.sub_self]; rfl) rfl
  rw [List.getElem?_append_right (by omega), ← hl, Nat.sub_self] at h1
  cases h1
  refine ⟨_, h2, fun a ha => ⟨(h3 a ha).1, ?_⟩⟩
  rcases (h3 a ha).2 with q | ⟨q, _⟩
  · exact q
  · exact absurd q List.not_mem_nil
theorem At.outIo {F H F' H' : Hp} {fp : List Addr} {v0 : V} {vs : List V} {τ : L2.St} {c : Cell} {args' ε : List Slot} (R : At (entOf H F (fun _ => fp) (v0 :: vs)) F' H' ((v0 :: vs).map some) τ (.io c :: args') ε) : ∃ fp', CellAt F' H' v0 fp' c ∧ ∀ a ∈ fp', F' a = none ∧ (a ∈ fp ∨ H a = none) := by
  obtain ⟨fq, o1, o2⟩ := R.rel.ow
  obtain ⟨⟨v', h1, h2⟩, h3⟩ := o1 0 (.io c) c rfl rfl
  cases h1
  refine ⟨_, h2, fun a ha => ⟨(h3 a ha).1, ?_⟩⟩
  rcases (h3 a ha).2 with q | ⟨q, _⟩
  · exact .inr q
  · exact .inl q

theorem outOwX {F H F' H' : Hp} {fp : List Addr} {vs : List V} {v : V} {c : Cell} {args' : List Slot} (R : At (entOf H F (fun _ => fp) vs) F' H' (vs.map some) [some v] args' [.ow c]) : ∃ fq, CellAt F' H' v fq c ∧ (∀ a ∈ fq, F' a = none ∧ H a = none) ∧
    ∀ (j : Nat) c', args'[j]? = some (.io c') → ∀ v', vs[j]? = some v' → ∃ fj, CellAt F' H' v' fj c' ∧ (∀ a ∈ fj, F' a = none ∧ (a ∈ fp ∨ H a = none)) ∧ ∀ a ∈ fj, a ∉ fq := by
  have hl := R.len
  obtain ⟨fp1, o1, o2⟩ := R.rel.ow
  have e1 : (args' ++ [Slot.ow c])[args'.length]? = some (Slot.ow c) := by rw [List.getElem?_append_right (Nat.le_refl _), Nat.sub_self]; rfl
  obtain ⟨⟨v', h1, h2⟩, h3⟩ := o1 args'.length (.ow c) c e1 rfl
  rw [List.getElem?_append_right (by omega), ← hl, Nat.sub_self] at h1
  cases h1
  refine ⟨_, h2, fun a ha => ⟨(h3 a ha).1, ?_⟩, fun j c' hj v' hv' => ?_⟩
  · rcases (h3 a ha).2 with q | ⟨_, _, q⟩
    · exact q
    · cases q
  · have hjl := lt_of_get hj
    have e2 : (args' ++ [Slot.ow c])[j]? = some (Slot.io c') := getApp1 hj
    obtain ⟨⟨v2, g1, g2⟩, g3⟩ := o1 j _ c' e2 rfl
    rw [List.getElem?_append_left (by omega), List.getElem?_map, hv'] at g1
    cases g1
    refine ⟨_, g2, fun a ha => ⟨(g3 a ha).1, ?_⟩, fun a ha => o2 j args'.length _ _ c' c (by omega) e2 rfl e1 rfl a ha⟩
    rcases (g3 a ha).2 with q | ⟨q, _⟩
    · exact .inr q
    · exact .inl q
theorem backOw {W : Ent} {F1 H1 F' H' : Hp} {σ τ : L2.St} {ε : Rho} {up : Cell → Rho} {v0 v : V} {fp : List Addr} {vs : List V} {c' cn : Cell} {args' : List Slot} (c3 : ∀ a ∈ fp, ∃ o, H1 a = some o)
    (mk : ∀ c' F' H' fp', Same F1 F' → Same F' H' → (∀ a o, F' a = some o → F1 a = some o ∨ H1 a = none) → (∀ a o, a ∉ fp → H1 a = some o → H' a = some o) → (∀ a ∈ fp', F' a = none ∧ (a ∈ fp ∨ H1 a = none)) → (∀ a ∈ fp, ∃ o, H' a = some o) → CellAt F' H' v0 fp' c' → At W F' H' σ τ (up c') ε)
    (A : At (entOf H1 F1 (fun _ => fp) (v0 :: vs)) F' H' ((v0 :: vs).map some) [some v] (.io c' :: args') [.ow cn]) : At W F' H' σ (some v :: τ) (up c') (.ow cn :: ε) := by
  obtain ⟨fq, d1, d2, d3⟩ := outOwX A
  obtain ⟨fj, b1, b2, b3⟩ := d3 0 c' rfl v0 rfl
  let H2 : Hp := fun a => if a ∈ fq then none else H' a
  have out2 : ∀ a, a ∉ fq → H2 a = H' a := fun a m => if_neg m
  have in2 : ∀ a, a ∈ fq → H2 a = none := fun a m => if_pos m
  have nq : ∀ a o, H1 a = some o → a ∉ fq := fun a o e m => by rw [(d2 a m).2] at e; cases e
  have sF2 : Same F' H2 := fun a o e => by
    rw [out2 a fun m => by rw [(d2 a m).1] at e; cases e]
    exact A.ex a o e
  have R2 := mk c' F' H2 fj A.rel.f0 sF2 A.rel.gr (fun a o n e => by rw [out2 a (nq a o e)]; exact A.rel.fr a o e fun _ => n) b2 (fun a ha => by
    obtain ⟨o, e⟩ := c3 a ha
    rw [out2 a (nq a o e)]
    exact A.rel.st a o e) (b1.mono (Same.refl _) fun a ha => out2 a (b3 a ha))
  have ex : Ext F' H2 F' H' := ⟨Same.refl _, fun a o e => by
    by_cases m : a ∈ fq
    · rw [in2 a m] at e; cases e
    · rw [out2 a m] at e; exact e, A.ex, fun a o e => .inl e⟩
  exact R2.extNew ex d1 fun a ha => ⟨(d2 a ha).1, in2 a ha⟩
/-! ### calls of one's own defs -/
/-- what comes back, as data -/
def Slot.out : Slot → (D → Prop) → Prop
  | .fz d, Q => Q d
  | .ow c, Q => match c.d with
    | some d => Q d
    | none => False
  | _, _ => False
def dCall (g : GSp) (dds : List D) (dx : DX) (da : DA) : DE := fun ρ Q => da ρ fun ds ρ1 => g ((ds ++ dds).map .fz) (fun r _ => r.out fun d => Q d ρ1) (fun C z _ => dx C z ρ1)
/-- a new thing comes back, to be held -/
def dCallN (g : GSp) (dds : List D) (dx : DX) (da : DA) : DN := fun ρ Q => da ρ fun ds ρ1 => g ((ds ++ dds).map .fz) (fun r _ => match r with
  | .ow c => Q c ρ1
  | _ => False) (fun C z _ => dx C z ρ1)
/-- a cell is handed in first -/
def dCallR (g : GSp) (i : Nat) (dx : DX) (da : DA) : DE := fun ρ Q => (∃ s c, ρ[i]? = some s ∧ s.cell = some c) ∧ da ρ fun ds ρ1 => ∃ s c, ρ1[i]? = some s ∧ s.cell = some c ∧
  g (.io c :: ds.map .fz) (fun r args' => match args' with
    | .io c' :: _ => match r with
      | .fz d => Q d (ρ1.set i (s.put c'))
      | _ => False
    | _ => False) (fun C z args' => match args' with
    | .io c' :: _ => dx C z (ρ1.set i (s.put c'))
    | _ => False)

section
variable {W : Ent} {E : XK} {dx : DX} {g : GSp} {dvs : List V} {dds : List D} {ta : TA} {da : DA}
theorem snd_call (X0 : ExL W E dx) (hd : ∀ F, Reps F dvs dds) (ha : SndA W ta da) : SndE W (tCall (spOf g) dvs E ta) (dCall g dds dx da) := by
  intro F H σ τ ρ ε Q k R h q
  refine ha F H σ τ ρ ε _ _ R h fun F1 H1 ρ1 vs ds R1 s1 r1 h1 => ?_
  refine ⟨F1, fun _ => [], _, _, _, Rel.enter0 R1.ex (r1.append (hd F1)), fun j c e => ?_, h1, ?_, ?_⟩
  · obtain ⟨d, z, _⟩ := fzs_get e
    cases z
  · intro r args' hr hio v F' H' A
    · have ex := A.out0
      cases r with
      | fz d => exact q F' H' ρ1 v d (R1.ext ex) (s1.trans ex.fF) A.outFz hr
      | ow c =>
        obtain ⟨fp, c1, c2⟩ := A.outOw
        have R2 := R1.extNew ex c1 c2
        cases e : c.d with
        | none =>
          have hr : (match c.d with | some d => Q d ρ1 | none => False) := hr
          rw [e] at hr
          exact hr.elim
        | some d =>
          have hr : (match c.d with | some d => Q d ρ1 | none => False) := hr
          rw [e] at hr
          obtain ⟨F2, r2, s2, R3⟩ := R2.freezeNew e
          exact q F2 H' ρ1 v d R3 ((s1.trans ex.fF).trans s2) r2 hr
      | no => exact (show False from hr).elim
      | io c => cases hio
  · intro C z args' hz x F' H' A
    obtain ⟨fpx, x1, x2⟩ := A.outOw
    exact X0 F' H' σ τ ρ1 ε x z C (R1.extNew A.out0 x1 x2) hz
theorem snd_callN (X0 : ExL W E dx) (hd : ∀ F, Reps F dvs dds) (ha : SndA W ta da) : SndN W (tCall (spOf g) dvs E ta) (dCallN g dds dx da) := by
  intro F H σ τ ρ ε Q k R h q
  refine ha F H σ τ ρ ε _ _ R h fun F1 H1 ρ1 vs ds R1 s1 r1 h1 => ?_
  refine ⟨F1, fun _ => [], _, _, _, Rel.enter0 R1.ex (r1.append (hd F1)), fun j c e => ?_, h1, ?_, ?_⟩
  · obtain ⟨d, z, _⟩ := fzs_get e
    cases z
  · intro r args' hr hio v F' H' A
    have ex := A.out0
    cases r with
    | ow c =>
      obtain ⟨fp, c1, c2⟩ := A.outOw
      exact q F' H' ρ1 v c (R1.extNew ex c1 c2) (s1.trans ex.fF) hr
    | _ => exact (show False from hr).elim
  · intro C z args' hz x F' H' A
    obtain ⟨fpx, x1, x2⟩ := A.outOw
    exact X0 F' H' σ τ ρ1 ε x z C (R1.extNew A.out0 x1 x2) hz
theorem snd_callR {i : Nat} (X0 : ExL W E dx) (ha : SndA W ta da) : SndE W (tCall (spOf g) [] E (tCons (tVar i) ta)) (dCallR g i dx da) := by
  intro F H σ τ ρ ε Q k R h q
  obtain ⟨⟨s, c, hs, hc⟩, h⟩ := h
  obtain ⟨v0, _, g1, _⟩ := R.cellX hs hc
  refine ⟨v0, g1, ha F H σ τ ρ ε _ _ R h fun F1 H1 ρ1 vs ds R1 s1 r1 h1 => ?_⟩
  obtain ⟨s, c, hs, hc, h1⟩ := h1
  obtain ⟨v1, fp, g2, c1, c2, c3, mk⟩ := R1.cellX hs hc
  rw [g1] at g2
  cases g2
  -- behind the call the cell stands at its name again
  have back : ∀ {F' H' : Hp} {c' : Cell} {args' : List Slot} {τ' : L2.St} {ε' : List Slot}, At (entOf H1 F1 (fun _ => fp) (v0 :: vs)) F' H' ((v0 :: vs).map some) τ' (.io c' :: args') ε' → At W F' H' σ τ (ρ1.set i (s.put c')) ε := fun {F' H' c' args' τ' ε'} A => by
    obtain ⟨fp', d1, d2⟩ := A.outIo
    exact mk c' F' H' fp' A.rel.f0 A.ex A.rel.gr (fun a o n e => A.rel.fr a o e fun _ => n) d2 (fun a ha => by
      obtain ⟨o, e⟩ := c3 a ha
      exact A.rel.st a o e) d1
  have e0 : (v0 :: vs) ++ [] = v0 :: vs := List.append_nil _
  show spOf g ((v0 :: vs) ++ []) H1 k E
  rw [e0]
  refine ⟨F1, fun _ => fp, _, _, _, Rel.enter1 R1.ex c1 c2 r1, fun j c' e => ?_, h1, ?_, ?_⟩
  · cases j with
    | zero => cases e
    | succ j =>
      obtain ⟨d, z, _⟩ := fzs_get (by rw [List.getElem?_cons_succ] at e; exact e)
      cases z
  · intro r args' hr hio v F' H' A
    split at hr
    · cases r with
      | fz d => exact q F' H' _ v d (back A) (s1.trans A.rel.f0) A.outFz hr
      | ow c' => exact (show False from hr).elim
      | no => exact (show False from hr).elim
      | io c' => cases hio
    · exact hr.elim
  · intro C z args' hz x F' H' A
    split at hz
    · exact X0 F' H' σ τ _ ε x z C (backOw c3 mk A) hz
    · exact hz.elim
end

/-! ### an instance as data -/
theorem zip_fst {α β : Type} : ∀ (l : List α) (m : List β), l.length = m.length → (l.zip m).map (·.1) = l
  | [], _, _ => rfl
  | a :: l, [], h => by cases h
  | a :: l, b :: m, h => by
    rw [List.zip_cons_cons, List.map_cons, zip_fst l m (Nat.succ.inj h)]
theorem zip_snd {α β : Type} : ∀ (l : List α) (m : List β), l.length = m.length → (l.zip m).map (·.2) = m
  | [], [], _ => rfl
  | [], b :: m, h => by cases h
  | a :: l, [], h => by cases h
  | a :: l, b :: m, h => by
    rw [List.zip_cons_cons, List.map_cons, zip_snd l m (Nat.succ.inj h)]
theorem map_inj_of {α β : Type} {f : α → β} (hf : ∀ a b, f a = f b → a = b) : ∀ {l m : List α}, l.map f = m.map f → l = m
  | [], [], _ => rfl
  | [], _ :: _, h => by cases h
  | _ :: _, [], h => by cases h
  | a :: l, b :: m, h => by
    rw [List.map_cons, List.map_cons] at h
    injection h with h1 h2
    rw [hf a b h1, map_inj_of hf h2]
theorem Rep.ob_of {F : Hp} {v : V} {C : Addr} {fs : List (Str × D)} (h : Rep F v (obD C fs)) : ∃ a dx fsV, v = .ref a ∧ F a = some (.ins C dx fsV) ∧ F dx = some (.own a) ∧ fsV.map (·.1) = fs.map (·.1) ∧ Reps F (fsV.map (·.2)) (fs.map (·.2)) := by
  generalize hd : obD C fs = d at h
  cases h with
  | dk h1 h2 =>
    unfold obD at hd
    injection hd with hd
    injection hd with e1 _
    cases congrArg Prod.fst e1
  | dt h1 h2 =>
    unfold obD at hd
    injection hd with hd
    injection hd with e1 _
    cases congrArg Prod.fst e1
  | ob h1 h2 h3 =>
    rename_i a C' dx fsV ds
    unfold obD at hd
    injection hd with hd
    injection hd with e1 e2
    have eC : C = C' := by
      have := congrArg Prod.snd e1
      injection this with q
      exact Int.ofNat.inj q
    subst eC
    have e3 : fs = (fsV.map (·.1)).zip ds := map_inj_of (fun a b e => by
      have x1 := congrArg Prod.fst e
      have x2 := congrArg Prod.snd e
      injection x1 with y1
      exact Prod.ext y1 x2) e2
    have hl : (fsV.map (·.1)).length = ds.length := by rw [← h3.length, List.length_map, List.length_map]
    refine ⟨a, dx, fsV, rfl, h1, h2, ?_, ?_⟩
    · rw [e3, zip_fst _ _ hl]
    · rw [e3, zip_snd _ _ hl]; exact h3
  | _ => cases hd
/-- the fields by name, data and values alike -/
theorem lookup_rep {F : Hp} {f : Str} : ∀ {fsV : List (Str × V)} {fs : List (Str × D)}, fsV.map (·.1) = fs.map (·.1) → Reps F (fsV.map (·.2)) (fs.map (·.2)) → (fs.lookup f = none → fsV.lookup f = none) ∧ ∀ z, fs.lookup f = some z → ∃ v, fsV.lookup f = some v ∧ Rep F v z
  | [], [], _, _ => ⟨fun _ => rfl, fun z e => by cases e⟩
  | [], _ :: _, e, _ => by cases e
  | _ :: _, [], e, _ => by cases e
  | (g, v) :: fsV, (g', z) :: fs, e, r => by
    rw [List.map_cons, List.map_cons] at e
    injection e with e1 e2
    have e1 : g = g' := e1
    subst e1
    rw [List.map_cons, List.map_cons] at r
    obtain ⟨v', ws, e3, r1, r2⟩ := r.cons_of
    injection e3 with e4 e5
    subst e4; subst e5
    obtain ⟨i1, i2⟩ := lookup_rep (f := f) e2 r2
    by_cases q : f = g
    · subst q
      refine ⟨fun h => ?_, fun y h => ?_⟩
      · simp [List.lookup] at h
      · have : z = y := by simpa [List.lookup] using h
        subst this
        exact ⟨v, by simp [List.lookup], r1⟩
    · have q' : (f == g) = false := beq_eq_false_iff_ne.mpr q
      refine ⟨fun h => ?_, fun y h => ?_⟩
      · simp only [List.lookup, q'] at h ⊢
        exact i1 h
      · simp only [List.lookup, q'] at h ⊢
        exact i2 y h
def dFld (C : Addr) (f : Str) (de : DE) : DE := fun ρ Q => de ρ fun d ρ1 => ∃ fs z, d = obD C fs ∧ fs.lookup f = some z ∧ Q z ρ1
def dMeth (C : Addr) (m : Str) (g : GSp) (dds : List D) (dx : DX) (de : DE) (da : DA) : DE := fun ρ Q => de ρ fun d ρ1 => ∃ fs, d = obD C fs ∧ fs.lookup m = none ∧ da ρ1 fun ds ρ2 =>
  g ((d :: (ds ++ dds)).map .fz) (fun r _ => r.out fun d => Q d ρ2) (fun C z _ => dx C z ρ2)
/-- a new instance: its __init__ -/
def dMake (C : Addr) (g : GSp) (dds : List D) (dx : DX) (da : DA) : DN := fun ρ Q => da ρ fun ds ρ1 => g (.io (.ob C [] []) :: (ds ++ dds).map .fz) (fun r args' => match r with
  | .fz .none => match args' with
    | .io c' :: _ => Q c' ρ1
    | _ => False
  | _ => False) (fun C z _ => dx C z ρ1)
section
variable {W : Ent} {E : XK} {dx : DX} {g : GSp} {dvs : List V} {dds : List D} {ta : TA} {da : DA} {te : TE} {de : DE} {K : PySem.W.Frag} {C : Addr} {m f : Str}
theorem snd_fld (h1 : SndE W te de) (hc : Cls K C) (hn : NoAttr K C f) : SndE W (tFld K te f) (dFld C f de) := by
  intro F H σ τ ρ ε Q k R h q
  refine h1 F H σ τ ρ ε _ _ R h fun F1 H1 ρ1 x d R1 s1 r1 h1 => ?_
  obtain ⟨fs, z, rfl, e1, e2⟩ := h1
  obtain ⟨a, dx, fsV, rfl, k1, k2, k3, k4⟩ := r1.ob_of
  obtain ⟨v, l1, l2⟩ := (lookup_rep (f := f) k3 k4).2 z e1
  exact ⟨a, C, dx, fsV, v, rfl, R1.ex _ _ k1, hc, hn, l1, q F1 H1 ρ1 v z R1 s1 l2 e2⟩
theorem snd_meth (X0 : ExL W E dx) (hd : ∀ F, Reps F dvs dds) (he : SndE W te de) (ha : SndA W ta da) : SndE W (tMeth C m (spOf g) dvs E te ta) (dMeth C m g dds dx de da) := by
  intro F H σ τ ρ ε Q k R h q
  refine he F H σ τ ρ ε _ _ R h fun F0 H0 ρ0 x d R0 s0 r0 h0 => ?_
  obtain ⟨fs, rfl, hm, h0⟩ := h0
  obtain ⟨a, dxA, fsV, rfl, k1, k2, k3, k4⟩ := id r0.ob_of
  refine ⟨a, dxA, fsV, rfl, R0.ex _ _ k1, (lookup_rep (f := m) k3 k4).1 hm, ?_⟩
  refine ha F0 H0 σ τ ρ0 ε _ _ R0 h0 fun F1 H1 ρ1 vs ds R1 s1 r1 h1 => ?_
  have rr : Reps F1 (V.ref a :: (vs ++ dvs)) (obD C fs :: (ds ++ dds)) := .cons (r0.mono s1) (r1.append (hd F1))
  refine ⟨F1, fun _ => [], _, _, _, Rel.enter0 R1.ex rr, fun j c e => ?_, h1, ?_, ?_⟩
  · obtain ⟨d, z, _⟩ := fzs_get e
    cases z
  · intro r args' hr hio v F' H' A
    have ex := A.out0
    cases r with
    | fz d => exact q F' H' ρ1 v d (R1.ext ex) ((s0.trans s1).trans ex.fF) A.outFz hr
    | ow c =>
      obtain ⟨fp, c1, c2⟩ := A.outOw
      have R2 := R1.extNew ex c1 c2
      cases e : c.d with
      | none =>
        have hr : (match c.d with | some d => Q d ρ1 | none => False) := hr
        rw [e] at hr
        exact hr.elim
      | some d =>
        have hr : (match c.d with | some d => Q d ρ1 | none => False) := hr
        rw [e] at hr
        obtain ⟨F2, r2, s2, R3⟩ := R2.freezeNew e
        exact q F2 H' ρ1 v d R3 (((s0.trans s1).trans ex.fF).trans s2) r2 hr
    | no => exact (show False from hr).elim
    | io c => cases hio
  · intro C z args' hz x F' H' A
    obtain ⟨fpx, x1, x2⟩ := A.outOw
    exact X0 F' H' σ τ ρ1 ε x z C (R1.extNew A.out0 x1 x2) hz
theorem snd_make (X0 : ExL W E dx) (hd : ∀ F, Reps F dvs dds) (ha : SndA W ta da) : SndN W (tMake C (spOf g) dvs E ta) (dMake C g dds dx da) := by
  intro F H σ τ ρ ε Q k R h q
  refine ha F H σ τ ρ ε _ _ R h fun F1 H1 ρ1 vs ds R1 s1 r1 h1 => fun x dxA nx ndx nex => ?_
  have sH : Same H1 (upd (upd H1 dxA (.own x)) x (.ins C dxA [])) := fun b o e => by
    rw [upd_ne (ne_of_none e nx), upd_ne (ne_of_none e ndx)]; exact e
  have hc : CellAt F1 (upd (upd H1 dxA (.own x)) x (.ins C dxA [])) (.ref x) [x, dxA] (.ob C [] []) := ⟨x, dxA, [], rfl, rfl, upd_same, by rw [upd_ne nex]; exact upd_same, rfl, .nil⟩
  have hfp : ∀ a ∈ [x, dxA], F1 a = none ∧ H1 a = none := fun a ha => by
    rcases List.mem_cons.mp ha with e | e
    · subst e; exact ⟨R1.ex.free nx, nx⟩
    · rw [List.mem_singleton.mp e]; exact ⟨R1.ex.free ndx, ndx⟩
  refine ⟨F1, fun _ => [x, dxA], _, _, _, Rel.enter1 (R1.ex.trans sH) hc (fun a ha => (hfp a ha).1) (r1.append (hd F1)), fun j c' e => ?_, h1, ?_, ?_⟩
  · cases j with
    | zero => cases e
    | succ j =>
      obtain ⟨d, z, _⟩ := fzs_get (by rw [List.getElem?_cons_succ] at e; exact e)
      cases z
  · intro r args' hr hio v F' H' A
    have nin : ∀ a o, H1 a = some o → a ∉ [x, dxA] := fun a o e m => by rw [(hfp a m).2] at e; cases e
    have ex : Ext F1 H1 F' H' := ⟨A.rel.f0, fun a o e => A.rel.fr a o (sH a o e) fun _ => nin a o e, A.ex, fun a o e => by
      rcases A.rel.gr a o e with z | z
      · exact .inl z
      · exact .inr (sH.free z)⟩
    split at hr
    · split at hr
      · next c' rest =>
        obtain ⟨fp', d1, d2⟩ := A.outIo
        have e := A.outFz.non_of
        refine ⟨e, ?_⟩
        refine q F' H' ρ1 (.ref x) c' (R1.extNew ex d1 fun a ha => ⟨(d2 a ha).1, ?_⟩) (s1.trans ex.fF) hr
        rcases (d2 a ha).2 with z | z
        · exact (hfp a z).2
        · exact sH.free z
      · exact hr.elim
    · exact hr.elim
  · intro C' z args' hz y F' H' A
    have nin : ∀ a o, H1 a = some o → a ∉ [x, dxA] := fun a o e m => by rw [(hfp a m).2] at e; cases e
    have ex : Ext F1 H1 F' H' := ⟨A.rel.f0, fun a o e => A.rel.fr a o (sH a o e) fun _ => nin a o e, A.ex, fun a o e => by
      rcases A.rel.gr a o e with z | z
      · exact .inl z
      · exact .inr (sH.free z)⟩
    obtain ⟨fpx, x1, x2, _⟩ := outOwX A
    exact X0 F' H' σ τ ρ1 ε y z C' (R1.extNew ex x1 fun a ha => ⟨(x2 a ha).1, sH.free (x2 a ha).2⟩) hz
end

/-! ### as rules -/
section
variable {X : Cx} {W : Ent} {E : XK} {dx : DX} {g : GSp} {dvs : List V} {dds : List D} {da : DA} {de : DE} {C f : Addr} {k : Nat} {fd : FuncData} {ps : List Str} {ds : List Value} {x m : Str} {p pos apos : Pos} {e o : Expr} {es : List Expr}
theorem de_call (X0 : ExL W E dx) (tk : L2N.Takes X (fun cls d _ H => E cls d H)) (Fn : FnOk X.prog X.w X.K X.mg X.base (L2N.CX X.prog X.w) k f fd ps (spOf g)) (hr : Room k X.A) (hg : Gl X x) (hm : X.mg x = some (.ref f)) (hk : PySem.W.keepIn X.K (.ref f) = true) (hb : Binds X.K fd ps ds) (hd : Vals dvs ds) (hdd : ∀ F, Reps F dvs dds)
    (ha : PDA X W (e :: es) da) (hdb : (x == ("__debug__" : Str)) = false := by decide) (he : starEach (e :: es) X.env = (false, eval e X.env) :: starEach es X.env := by rfl) (hpl : (backTo pos (starEach es X.env)).any (·.1) = false := by rfl) :
    PDE X W (.Call (.Name x p) (e :: es) [] pos) (dCall g dds dx da) := by
  obtain ⟨ta, a1, a2⟩ := ha.ex
  exact ⟨_, pe_call Fn hr hg hm hk hb hd (L2N.passes_call tk fun _ _ _ _ h => h) a1 hdb he hpl, snd_call X0 hdd a2⟩
theorem dn_call (X0 : ExL W E dx) (tk : L2N.Takes X (fun cls d _ H => E cls d H)) (Fn : FnOk X.prog X.w X.K X.mg X.base (L2N.CX X.prog X.w) k f fd ps (spOf g)) (hr : Room k X.A) (hg : Gl X x) (hm : X.mg x = some (.ref f)) (hk : PySem.W.keepIn X.K (.ref f) = true) (hb : Binds X.K fd ps ds) (hd : Vals dvs ds) (hdd : ∀ F, Reps F dvs dds)
    (ha : PDA X W (e :: es) da) (hdb : (x == ("__debug__" : Str)) = false := by decide) (he : starEach (e :: es) X.env = (false, eval e X.env) :: starEach es X.env := by rfl) (hpl : (backTo pos (starEach es X.env)).any (·.1) = false := by rfl) :
    PDN X W (.Call (.Name x p) (e :: es) [] pos) (dCallN g dds dx da) := by
  obtain ⟨ta, a1, a2⟩ := ha.ex
  exact ⟨_, pe_call Fn hr hg hm hk hb hd (L2N.passes_call tk fun _ _ _ _ h => h) a1 hdb he hpl, snd_callN X0 hdd a2⟩
theorem de_callR {i : Nat} {y : Str} {py : Pos} (X0 : ExL W E dx) (tk : L2N.Takes X (fun cls d _ H => E cls d H)) (Fn : FnOk X.prog X.w X.K X.mg X.base (L2N.CX X.prog X.w) k f fd ps (spOf g)) (hr : Room k X.A) (hg : Gl X x) (hm : X.mg x = some (.ref f)) (hk : PySem.W.keepIn X.K (.ref f) = true) (hb : Binds X.K fd ps [])
    (hy : PE X (.Name y py) (tVar i)) (ha : PDA X W es da) (hst : starEach (.Name y py :: es) X.env = (false, eval (.Name y py) X.env) :: starEach es X.env := by rfl) (hdb : (x == ("__debug__" : Str)) = false := by decide) (hpl : (backTo pos (starEach es X.env)).any (·.1) = false := by rfl) :
    PDE X W (.Call (.Name x p) (.Name y py :: es) [] pos) (dCallR g i dx da) := by
  obtain ⟨ta, a1, a2⟩ := ha.ex
  exact ⟨_, pe_call Fn hr hg hm hk hb .nil (L2N.passes_call tk fun _ _ _ _ h => h) (pa_cons hy a1 hst) hdb hst hpl, snd_callR X0 a2⟩
theorem de_fld {f : Str} (he : PDE X W e de) (hc : Cls X.K C) (hn : NoAttr X.K C f) (hb : attributeBase e f X.env (eval e X.env) = eval e X.env := by rfl) : PDE X W (.Attribute e f pos) (dFld C f de) := by
  obtain ⟨te, a1, a2⟩ := he.ex
  exact ⟨_, pe_fld a1 hb, snd_fld a2 hc hn⟩
theorem de_meth {pl : Sem Bool} (X0 : ExL W E dx) (tk : L2N.Takes X (fun cls d _ H => E cls d H)) (ho : PDE X W o de) (c : Cls X.K C) (hm : Meth X.K C m f) (Fn : FnOk X.prog X.w X.K X.mg X.base (L2N.CX X.prog X.w) k f fd ps (spOf g)) (hr : Room k X.A) (hb : Binds X.K fd ps ds) (hd : Vals dvs ds) (hdd : ∀ F, Reps F dvs dds) (ha : PDA X W (e :: es) da)
    (hst : starEach (e :: es) X.env = (false, eval e X.env) :: starEach es X.env := by rfl) (hpl : (backTo pos (starEach es X.env)).any (·.1) = false := by rfl)
    (ht : eval (.Call (.Attribute o m apos) (e :: es) [] pos) X.env = (do
      let ov ← eval o X.env
      standAt apos.atName
      let (f, first) ← holding [ov] (getMethod ov m pl)
      callWith pos f first (backTo pos (starEach (e :: es) X.env)) (backToKw pos (keywordEach [] X.env))) := by rfl) :
    PDE X W (.Call (.Attribute o m apos) (e :: es) [] pos) (dMeth C m g dds dx de da) := by
  obtain ⟨te, b1, b2⟩ := ho.ex
  obtain ⟨ta, a1, a2⟩ := ha.ex
  exact ⟨_, pe_meth b1 c hm Fn hr hb hd (L2N.passes_call tk fun _ _ _ _ h => h) a1 hst hpl ht, snd_meth X0 hdd b2 a2⟩
theorem de_meth0 {pl : Sem Bool} (X0 : ExL W E dx) (tk : L2N.Takes X (fun cls d _ H => E cls d H)) (ho : PDE X W o de) (c : Cls X.K C) (hm : Meth X.K C m f) (Fn : FnOk X.prog X.w X.K X.mg X.base (L2N.CX X.prog X.w) k f fd ps (spOf g)) (hr : Room k X.A) (hb : Binds X.K fd ps ds) (hd : Vals dvs ds) (hdd : ∀ F, Reps F dvs dds)
    (ht : eval (.Call (.Attribute o m apos) [] [] pos) X.env = (do
      let ov ← eval o X.env
      standAt apos.atName
      let (f, first) ← holding [ov] (getMethod ov m pl)
      callWith pos f first (backTo pos (starEach [] X.env)) (backToKw pos (keywordEach [] X.env))) := by rfl) :
    PDE X W (.Call (.Attribute o m apos) [] [] pos) (dMeth C m g dds dx de dNil) := by
  obtain ⟨te, b1, b2⟩ := ho.ex
  exact ⟨_, pe_meth0 b1 c hm Fn hr hb hd (L2N.passes_call tk fun _ _ _ _ h => h) ht, snd_meth X0 hdd b2 snd_nil⟩
theorem dn_make (X0 : ExL W E dx) (tk : L2N.Takes X (fun cls d _ H => E cls d H)) (M : Mk X.K C f) (Fn : FnOk X.prog X.w X.K X.mg X.base (L2N.CX X.prog X.w) k f fd ps (spOf g)) (hr : Room (k + 1) X.A) (hg : Gl X x) (hm : X.mg x = some (.ref C)) (hb : Binds X.K fd ps ds) (hd : Vals dvs ds) (hdd : ∀ F, Reps F dvs dds)
    (ha : PDA X W (e :: es) da) (hdb : (x == ("__debug__" : Str)) = false := by decide) (he : starEach (e :: es) X.env = (false, eval e X.env) :: starEach es X.env := by rfl) (hpl : (backTo pos (starEach es X.env)).any (·.1) = false := by rfl) :
    PDN X W (.Call (.Name x p) (e :: es) [] pos) (dMake C g dds dx da) := by
  obtain ⟨ta, a1, a2⟩ := ha.ex
  exact ⟨_, pe_make M Fn hr hg hm hb hd (L2N.passes_call tk fun _ _ _ _ h => h) a1 hdb he hpl, snd_make X0 hdd a2⟩
/-- o.f = e in an __init__: the instance is a cell of this def's parameter -/
def dFldSet (C : Addr) (i : Nat) (f : Str) (de : DE) : DS := fun D ρ => de ρ fun d ρ1 => ∃ s ns es, ρ1[i]? = some s ∧ s.cell = some (.ob C ns es) ∧ f ∉ ns ∧ ns.length < 1000 ∧ D.nx (ρ1.set i (s.put (.ob C (ns ++ [f]) (es ++ [d]))))
theorem putF_new {f : Str} {v : V} : ∀ {fs : List (Str × V)}, f ∉ fs.map (·.1) → putF f v fs = fs ++ [(f, v)]
  | [], _ => rfl
  | (g, x) :: r, h => by
    have h1 : ¬ g = f := fun z => h (by rw [List.map_cons, z]; exact List.mem_cons_self)
    show (if g = f then (g, v) :: r else (g, x) :: putF f v r) = _
    rw [if_neg h1, putF_new (fs := r) fun m => h (by rw [List.map_cons]; exact List.mem_cons_of_mem _ m)]
    rfl
theorem ds_fldSet {i : Nat} {fl y : Str} {py pos' : Pos} (hy : PE X (.Name y py) (tVar i)) (hv : PDE X W e de) (hc : Cls X.K C) (hn : NoAttr X.K C fl) (hs : swapsWith e (some (.Attribute (.Name y py) fl pos')) pos.line X.env = pure false := by rfl) :
    PDS X W (.Assign [.Attribute (.Name y py) fl pos'] e pos) (dFldSet C i fl de) := by
  obtain ⟨te, a1, a2⟩ := hv.ex
  refine ⟨_, ps_fld hy a1 hs, fun F H σ ρ D DD R L h => a2 F H σ [] ρ [] _ _ R h fun F' H' ρ' v d R' s' r' h' => ?_⟩
  obtain ⟨s, ns, es, e1, e2, e3, e4, e5⟩ := h'
  obtain ⟨v0, fp, g1, g2, g3, mk⟩ := R'.cell e1 e2
  obtain ⟨p, dxA, fsV, rfl, k1, k2, k3, k4, k5⟩ := g2
  refine ⟨_, g1, p, C, dxA, fsV, rfl, k2, hc, hn, by have := congrArg List.length k4; rw [List.length_map] at this; omega, ?_⟩
  have hnew : fl ∉ fsV.map (·.1) := by rw [k4]; exact e3
  rw [putF_new hnew]
  have nex : dxA ≠ p := by
    intro z; subst z; rw [k2] at k3; cases k3
  refine L.nx F' _ σ _ (mk (.ob C (ns ++ [fl]) (es ++ [d])) _ fp (fun a o n q => ?_) (fun a ha => .inl ha) (fun a ha => ?_) ⟨p, dxA, fsV ++ [(fl, v)], rfl, k1, upd_same, by rw [upd_ne nex]; exact k3, by rw [List.map_append, k4]; rfl, by rw [List.map_append]; exact k5.append (.cons r' .nil)⟩) s' e5
  · rw [upd_ne (fun z => n (by rw [z, k1]; exact List.mem_cons_self))]; exact q
  · by_cases z : a = p
    · rw [z]; exact ⟨_, upd_same⟩
    · rw [upd_ne z]
      rw [k1] at ha
      rcases List.mem_cons.mp ha with q | q
      · exact absurd q z
      · rw [List.mem_singleton.mp q]; exact ⟨_, k3⟩
end

open PySem L2

/-! ### calls of built-ins and methods by values -/
def dCa (g : GA) (da : DA) : DE := fun ρ Q => da ρ fun ds ρ1 => g ds fun z => Q z ρ1
def dMt (g : D → GA) (de : DE) (da : DA) : DE := fun ρ Q => de ρ fun d ρ1 => da ρ1 fun ds ρ2 => g d ds fun z => Q z ρ2
section
variable {X : Cx} {W : Ent} {e o a b : Expr} {es : List Expr} {de db dA : DE} {da : DA} {te : TE} {ta : TA} {pos p apos : Pos} {x : Str} {id T : String} {name : Str}
theorem snd_ca {r : List V → Hp → VK → Prop} {g : GA} (ho : CaD r g) (ha : SndA W ta da) : SndE W (tCB r ta) (dCa g da) := by
  intro F H σ τ ρ ε Q k R h q
  refine ha F H σ τ ρ ε _ _ R h fun F1 H1 ρ1 vs ds R1 s1 r1 h1 => ?_
  exact ho F1 H1 vs ds _ k R1.ex r1 h1 fun F3 H3 v z ex rz qz => q F3 H3 ρ1 v z (R1.ext ex) (s1.trans ex.fF) rz qz
theorem de_ca {r : List V → Hp → VK → Prop} {g : GA} (hc : CallR X (.builtin id) r) (ho : CaD r g) (hg : Gl X x) (hm : X.mg x = none) (hv : bootBuiltins x = some (.builtin id)) (ha : PDA X W (e :: es) da) (hn : x ≠ "__name__" := by decide) (hdb : (x == ("__debug__" : Str)) = false := by decide)
    (he : starEach (e :: es) X.env = (false, eval e X.env) :: starEach es X.env := by rfl) (hpl : (backTo pos (starEach es X.env)).any (·.1) = false := by rfl) : PDE X W (.Call (.Name x p) (e :: es) [] pos) (dCa g da) := by
  obtain ⟨ta, a1, a2⟩ := ha.ex
  exact ⟨_, pe_callB hc hg hm hv a1 hn hdb he hpl, snd_ca ho a2⟩
theorem de_caT {r : List V → Hp → VK → Prop} {g : GA} (hc : CallR X (.type T) r) (ho : CaD r g) (hg : Gl X x) (hm : X.mg x = none) (hv : bootBuiltins x = some (.type T)) (ha : PDA X W (e :: es) da) (hn : x ≠ "__name__" := by decide) (hdb : (x == ("__debug__" : Str)) = false := by decide)
    (he : starEach (e :: es) X.env = (false, eval e X.env) :: starEach es X.env := by rfl) (hpl : (backTo pos (starEach es X.env)).any (·.1) = false := by rfl) : PDE X W (.Call (.Name x p) (e :: es) [] pos) (dCa g da) := by
  obtain ⟨ta, a1, a2⟩ := ha.ex
  exact ⟨_, pe_callTy hc hg hm hv a1 hn hdb he hpl, snd_ca ho a2⟩

/-! ### comparisons of ints, of texts -/
def gLt (fi : Int → Int → Bool) (fs : Str → Str → Bool) : G2
  | .int i, .int j, Q => Q (.bool (fi i j))
  | .str i, .str j, Q => Q (.bool (fs i j))
  | _, _, _ => False
def rLtD (fi : Int → Int → Bool) (fs : Str → Str → Bool) : R2 := fun x y H Q => rI0 (fun i j => .bl (fi i j)) x y H Q ∨ ∃ i j, x = .str i ∧ y = .str j ∧ Q (.bl (fs i j)) H
theorem od_lt {fi : Int → Int → Bool} {fs : Str → Str → Bool} : OpD (rLtD fi fs) (gLt fi fs) := by
  intro F H x y d e Q k s rx ry h q
  unfold gLt at h
  split at h
  · cases rx.int_of; cases ry.int_of
    exact .inl ⟨_, _, rfl, rfl, ext_here s (.bl _) h q⟩
  · cases rx.str_of; cases ry.str_of
    exact .inr ⟨_, _, rfl, rfl, ext_here s (.bl _) h q⟩
  · exact h.elim
def fLt : G2 := gLt (fun i j => decide (i < j)) fun i j => decide (i.cps.toList < j.cps.toList)
def fLe : G2 := gLt (fun i j => decide (i ≤ j)) fun i j => !decide (j.cps.toList < i.cps.toList)
def fGt : G2 := gLt (fun i j => decide (j < i)) fun i j => decide (j.cps.toList < i.cps.toList)
def fGe : G2 := gLt (fun i j => decide (j ≤ i)) fun i j => !decide (i.cps.toList < j.cps.toList)
theorem or_lt : OpR X (compareOp .Lt) (rLtD (fun i j => decide (i < j)) fun i j => decide (i.cps.toList < j.cps.toList)) := OpR.or op_lt op_lt_str
theorem or_le : OpR X (compareOp .LtE) (rLtD (fun i j => decide (i ≤ j)) fun i j => !decide (j.cps.toList < i.cps.toList)) := OpR.or op_le op_le_str
theorem or_gt : OpR X (compareOp .Gt) (rLtD (fun i j => decide (j < i)) fun i j => decide (j.cps.toList < i.cps.toList)) := OpR.or op_gt op_gt_str
theorem or_ge : OpR X (compareOp .GtE) (rLtD (fun i j => decide (j ≤ i)) fun i j => !decide (i.cps.toList < j.cps.toList)) := OpR.or op_ge op_ge_str
theorem de_lt (ha : PDE X W a dA) (hb : PDE X W b db) : PDE X W (.Compare a [.Lt] [b] pos) (dOp fLt dA db) := de_cmp or_lt od_lt ha hb (nobehind _ (by decide) (by decide))
theorem de_le (ha : PDE X W a dA) (hb : PDE X W b db) : PDE X W (.Compare a [.LtE] [b] pos) (dOp fLe dA db) := de_cmp or_le od_lt ha hb (nobehind _ (by decide) (by decide))
theorem de_gt (ha : PDE X W a dA) (hb : PDE X W b db) : PDE X W (.Compare a [.Gt] [b] pos) (dOp fGt dA db) := de_cmp or_gt od_lt ha hb (nobehind _ (by decide) (by decide))
theorem de_ge (ha : PDE X W a dA) (hb : PDE X W b db) : PDE X W (.Compare a [.GtE] [b] pos) (dOp fGe dA db) := de_cmp or_ge od_lt ha hb (nobehind _ (by decide) (by decide))
theorem dt_lt (ha : PDE X W a dA) (hb : PDE X W b db) : PDT X W (.Compare a [.Lt] [b] pos) (dTest (dOp fLt dA db)) := dt_cmp or_lt od_lt ha hb (nobehind _ (by decide) (by decide))
theorem dt_le (ha : PDE X W a dA) (hb : PDE X W b db) : PDT X W (.Compare a [.LtE] [b] pos) (dTest (dOp fLe dA db)) := dt_cmp or_le od_lt ha hb (nobehind _ (by decide) (by decide))
theorem dt_gt (ha : PDE X W a dA) (hb : PDE X W b db) : PDT X W (.Compare a [.Gt] [b] pos) (dTest (dOp fGt dA db)) := dt_cmp or_gt od_lt ha hb (nobehind _ (by decide) (by decide))
theorem dt_ge (ha : PDE X W a dA) (hb : PDE X W b db) : PDT X W (.Compare a [.GtE] [b] pos) (dTest (dOp fGe dA db)) := dt_cmp or_ge od_lt ha hb (nobehind _ (by decide) (by decide))
/-! is None -/
def isNon : D → Bool
  | .none => true
  | _ => false
def gIsN (f : Bool → Bool) : G2 := fun d e Q => match e with
  | .none => Q (.bool (f (isNon d)))
  | _ => False
theorem rep_non {F : Hp} {x : V} {d : D} (r : Rep F x d) : decide (x = .non) = isNon d := by
  cases r <;> rfl
theorem od_isN : OpD (fun x y H Q => y = .non ∧ Q (.bl (decide (x = .non))) H) (gIsN fun k => k) := by
  intro F H x y d e Q k s rx ry h q
  unfold gIsN at h
  split at h
  · cases ry.non_of
    refine ⟨rfl, ?_⟩
    rw [rep_non rx]
    exact ext_here s (.bl _) h q
  · exact h.elim
theorem od_notN : OpD (fun x y H Q => y = .non ∧ Q (.bl (!decide (x = .non))) H) (gIsN fun k => !k) := by
  intro F H x y d e Q k s rx ry h q
  unfold gIsN at h
  split at h
  · cases ry.non_of
    refine ⟨rfl, ?_⟩
    rw [rep_non rx]
    exact ext_here s (.bl _) h q
  · exact h.elim
theorem de_isN (ha : PDE X W a dA) (hb : PDE X W b db) : PDE X W (.Compare a [.Is] [b] pos) (dOp (gIsN fun k => k) dA db) := de_cmp op_isN od_isN ha hb (nobehind _ (by decide) (by decide))
theorem dt_isN (ha : PDE X W a dA) (hb : PDE X W b db) : PDT X W (.Compare a [.Is] [b] pos) (dTest (dOp (gIsN fun k => k) dA db)) := dt_cmp op_isN od_isN ha hb (nobehind _ (by decide) (by decide))
theorem de_notN (ha : PDE X W a dA) (hb : PDE X W b db) : PDE X W (.Compare a [.IsNot] [b] pos) (dOp (gIsN fun k => !k) dA db) := de_cmp op_notN od_notN ha hb (nobehind _ (by decide) (by decide))
theorem dt_notN (ha : PDE X W a dA) (hb : PDE X W b db) : PDT X W (.Compare a [.IsNot] [b] pos) (dTest (dOp (gIsN fun k => !k) dA db)) := dt_cmp op_notN od_notN ha hb (nobehind _ (by decide) (by decide))

/-! ### in -/
/-- in a list or a tuple of data, one sign in a text -/
def gIn (f : Bool → Bool) : G2 := fun d e Q => match e with
  | .list ds => (okD d = true ∧ okD (.list ds) = true) ∧ Q (.bool (f (ds.any fun z => PyData.eqv z d)))
  | .tuple ds => (okD d = true ∧ okD (.tuple ds) = true) ∧ Q (.bool (f (ds.any fun z => PyData.eqv z d)))
  | .str y => match d with
    | .str x => match x.cps.toList with
      | [c] => Q (.bool (f (decide (c ∈ y.cps.toList))))
      | _ => False
    | _ => False
  | _ => False
def rInP (K : PySem.W.Frag) (f : Bool → Bool) : R2 := fun x y H Q => ∃ d ds, Dp K H x d ∧ (Dp K H y (.list ds) ∨ Dp K H y (.tuple ds)) ∧ okD d = true ∧ okD (.list ds) = true ∧ Q (.bl (f (ds.any fun z => PyData.eqv z d))) H
theorem okD_lt {ds : List D} : okD (.tuple ds) = okD (.list ds) := by simp [okD, PyData.plain, PyData.depth]
theorem room_in {X : Cx} {d : D} {ds : List D} (h : okD d = true) (hu : X.A.units + 64 < cLine) : X.A.units + 1 + min (PyData.depthAll ds) d.depth < cLine := by
  have := okD_depth h
  have : min (PyData.depthAll ds) d.depth ≤ d.depth := Nat.min_le_right _ _
  omega
theorem okD_all {ds : List D} (h : okD (.list ds) = true) : PyData.plainAll ds = true := by
  have := okD_plain h
  simpa [PyData.plain] using this
theorem op_inP (hu : X.A.units + 64 < cLine) : OpR X (compareOp .In) (rInP X.K fun k => k) := by
  intro pins s σ H x y v u Q I rx ry h
  obtain ⟨d, ds, hd, he, sd, se, q⟩ := h
  obtain ⟨as, r1⟩ := Dp.reads I d x v hd rx
  rcases he with he | he
  · obtain ⟨bs, r2⟩ := Dp.reads I _ y u he ry
    exact PySem.SeqAt.in_list_data r2 r1 (okD_all se) (okD_plain sd) (room_in sd hu) ⟨.bl _, H, I, rfl, q⟩
  · obtain ⟨bs, r2⟩ := Dp.reads I _ y u he ry
    exact PySem.SeqAt.in_tuple_data r2 r1 (okD_all se) (okD_plain sd) (room_in sd hu) ⟨.bl _, H, I, rfl, q⟩
theorem op_notInP (hu : X.A.units + 64 < cLine) : OpR X (compareOp .NotIn) (rInP X.K fun k => !k) := by
  intro pins s σ H x y v u Q I rx ry h
  obtain ⟨d, ds, hd, he, sd, se, q⟩ := h
  obtain ⟨as, r1⟩ := Dp.reads I d x v hd rx
  rcases he with he | he
  · obtain ⟨bs, r2⟩ := Dp.reads I _ y u he ry
    exact PySem.SeqAt.notIn_list_data r2 r1 (okD_all se) (okD_plain sd) (room_in sd hu) ⟨.bl _, H, I, rfl, q⟩
  · obtain ⟨bs, r2⟩ := Dp.reads I _ y u he ry
    exact PySem.SeqAt.notIn_tuple_data r2 r1 (okD_all se) (okD_plain sd) (room_in sd hu) ⟨.bl _, H, I, rfl, q⟩
def rInA (K : PySem.W.Frag) (f : Bool → Bool) : R2 := fun x y H Q => rInP K f x y H Q ∨ ∃ (c : Nat) (z : Str), x = .str ⟨#[c]⟩ ∧ y = .str z ∧ Q (.bl (f (decide (c ∈ z.cps.toList)))) H
theorem or_in (hu : X.A.units + 64 < cLine) : OpR X (compareOp .In) (rInA X.K fun k => k) := OpR.or (op_inP hu) op_in_sign
theorem or_notIn (hu : X.A.units + 64 < cLine) : OpR X (compareOp .NotIn) (rInA X.K fun k => !k) := OpR.or (op_notInP hu) op_notIn_sign
theorem str_sign {x : Str} {c : Nat} (h : x.cps.toList = [c]) : x = ⟨#[c]⟩ := by
  obtain ⟨⟨l⟩⟩ := x
  have h : l = [c] := h
  rw [h]
theorem od_in {K : PySem.W.Frag} {f : Bool → Bool} : OpD (rInA K f) (gIn f) := by
  intro F H x y d e Q k s rx ry h q
  unfold gIn at h
  split at h
  · exact .inl ⟨d, _, rx.dpP s (okD_plain h.1.1), .inl (ry.dpP s (okD_plain h.1.2)), h.1.1, h.1.2, ext_here s (.bl _) h.2 q⟩
  · exact .inl ⟨d, _, rx.dpP s (okD_plain h.1.1), .inr (ry.dpP s (okD_plain h.1.2)), h.1.1, by rw [← okD_lt]; exact h.1.2, ext_here s (.bl _) h.2 q⟩
  · split at h
    · split at h
      · next y' x' c e1 =>
        cases rx.str_of; cases ry.str_of
        rw [str_sign e1]
        exact .inr ⟨_, _, rfl, rfl, ext_here s (.bl _) h q⟩
      · exact h.elim
    · exact h.elim
  · exact h.elim
theorem de_in (hu : X.A.units + 64 < cLine) (ha : PDE X W a dA) (hb : PDE X W b db) (hm : behindInMarks .In b = false := by rfl) : PDE X W (.Compare a [.In] [b] pos) (dOp (gIn fun k => k) dA db) := de_cmp (or_in hu) od_in ha hb hm
theorem dt_in (hu : X.A.units + 64 < cLine) (ha : PDE X W a dA) (hb : PDE X W b db) (hm : behindInMarks .In b = false := by rfl) : PDT X W (.Compare a [.In] [b] pos) (dTest (dOp (gIn fun k => k) dA db)) := dt_cmp (or_in hu) od_in ha hb hm
theorem de_notIn (hu : X.A.units + 64 < cLine) (ha : PDE X W a dA) (hb : PDE X W b db) (hm : behindInMarks .NotIn b = false := by rfl) : PDE X W (.Compare a [.NotIn] [b] pos) (dOp (gIn fun k => !k) dA db) := de_cmp (or_notIn hu) od_in ha hb hm
theorem dt_notIn (hu : X.A.units + 64 < cLine) (ha : PDE X W a dA) (hb : PDE X W b db) (hm : behindInMarks .NotIn b = false := by rfl) : PDT X W (.Compare a [.NotIn] [b] pos) (dTest (dOp (gIn fun k => !k) dA db)) := dt_cmp (or_notIn hu) od_in ha hb hm

/-! ### subscripts and slices -/
def gIx : G2 := fun d e Q => match e with
  | .int i => match d with
    | .list ds => match atI ds i with
      | some z => Q z
      | none => False
    | .tuple ds => match atI ds i with
      | some z => Q z
      | none => False
    | .str x => x.length ≤ sizeLine ∧ match atI x.cps.toList i with
      | some c => Q (.str ⟨#[c]⟩)
      | none => False
    | _ => False
  | _ => False
theorem Reps.atI {F : Hp} {vs : List V} {ds : List D} {i : Int} {z : D} (r : Reps F vs ds) (h : atI ds i = some z) : ∃ v, L2.atI vs i = some v ∧ Rep F v z := by
  unfold L2.atI at h ⊢
  rw [r.length]
  cases e : ixN ds.length i with
  | none => rw [e] at h; cases h
  | some j =>
    rw [e] at h
    exact r.get h
theorem od_ix {K : PySem.W.Frag} : OpD (rIx K) gIx := by
  intro F H x y d e Q k s rx ry h q
  unfold gIx at h
  split at h
  · cases ry.int_of
    split at h
    · split at h
      · next ds z e1 =>
        obtain ⟨p, vs, rfl, h1, h2⟩ := rep_lstH s rx
        obtain ⟨v, h3, h4⟩ := h2.atI e1
        exact .inl ⟨p, vs, _, v, rfl, rfl, SqL.of h1, h3, ext_here s h4 h q⟩
      · exact h.elim
    · split at h
      · next ds z e1 =>
        obtain ⟨p, vs, rfl, h1, h2⟩ := rep_tupH s rx
        obtain ⟨v, h3, h4⟩ := h2.atI e1
        exact .inr (.inl ⟨p, vs, _, v, rfl, rfl, SqT.of h1, h3, ext_here s h4 h q⟩)
      · exact h.elim
    · obtain ⟨hz, h⟩ := h
      split at h
      · next c e1 =>
        cases rx.str_of
        exact .inr (.inr ⟨_, _, c, rfl, rfl, hz, e1, ext_here s (.str _) h q⟩)
      · exact h.elim
    · exact h.elim
  · exact h.elim
theorem de_ix (ha : PDE X W a dA) (hb : PDE X W b db) (hs : PlainIx b := by intro _ _; rfl) : PDE X W (.Subscript a b pos) (dOp gIx dA db) := by
  obtain ⟨ta, a1, a2⟩ := ha.ex
  obtain ⟨tb, b1, b2⟩ := hb.ex
  exact ⟨_, pe_ix ix_seq a1 b1 hs, snd_op od_ix a2 b2⟩
/-- the items of xs[lo:hi], of any kind -/
def cutX {α : Type} (xs : List α) (lo hi : Option Int) : List α := (xs.drop (HT.sIx xs.length 0 lo)).take (HT.sIx xs.length xs.length hi - HT.sIx xs.length 0 lo)
abbrev DO := Rho → (Option Int → Rho → Prop) → Prop
def SndO (W : Ent) (to : TO) (dO : DO) : Prop := ∀ F H σ τ ρ ε (Q : Option Int → Rho → Prop) (k : Option Int → Hp → Prop), At W F H σ τ ρ ε → dO ρ Q → (∀ F' H' ρ' o, At W F' H' σ τ ρ' ε → Same F F' → Q o ρ' → k o H') → to σ H k
structure PDO (X : Cx) (W : Ent) (e : Option Expr) (dO : DO) : Prop where
  ex : ∃ t, PO X e t ∧ SndO W t dO
def doNone : DO := fun ρ Q => Q none ρ
def doSome (de : DE) : DO := fun ρ Q => de ρ fun d ρ1 => match d with
  | .int i => Q (some i) ρ1
  | _ => False
theorem do_none : PDO X W none doNone := ⟨_, po_none, fun F H σ τ ρ ε Q k R h q => q F H ρ _ R (Same.refl _) h⟩
theorem do_some (h : PDE X W e de) : PDO X W (some e) (doSome de) := by
  obtain ⟨te, a1, a2⟩ := h.ex
  refine ⟨_, po_some a1, fun F H σ τ ρ ε Q k R h q => a2 F H σ τ ρ ε _ _ R h fun F' H' ρ' v d R' s' r' h' => ?_⟩
  split at h'
  · cases r'.int_of
    exact ⟨_, rfl, q F' H' ρ' _ R' s' h'⟩
  · exact h'.elim
def gSl (d : D) (lo hi : Option Int) (Q : D → Prop) : Prop := match d with
  | .list ds => Q (.list (cutX ds lo hi))
  | .tuple ds => Q (.tuple (cutX ds lo hi))
  | .str x => x.length ≤ sizeLine ∧ Q (.str (cutS x lo hi))
  | _ => False
def dSl (de : DE) (dl dh : DO) : DE := fun ρ Q => de ρ fun d ρ1 => dl ρ1 fun lo ρ2 => dh ρ2 fun hi ρ3 => gSl d lo hi fun z => Q z ρ3
theorem Reps.cut {F : Hp} {vs : List V} {ds : List D} (r : Reps F vs ds) (lo hi : Option Int) : Reps F (cutV vs lo hi) (cutX ds lo hi) := by
  unfold cutV cutX
  rw [r.length]
  exact (r.drop _).take _
theorem de_sl {lo hi : Option Expr} {p2 : Pos} {dl dh : DO} (he : PDE X W e de) (hl : PDO X W lo dl) (hh : PDO X W hi dh) : PDE X W (.Subscript e (.Slice lo hi none p2) pos) (dSl de dl dh) := by
  obtain ⟨te, a1, a2⟩ := he.ex
  obtain ⟨tl, b1, b2⟩ := hl.ex
  obtain ⟨th, c1, c2⟩ := hh.ex
  refine ⟨_, pe_slice (SlR.or sl_list (SlR.or sl_tupA sl_str)) a1 b1 c1, ?_⟩
  intro F H σ τ ρ ε Q k R h q
  refine a2 F H σ τ ρ ε _ _ R h fun F1 H1 ρ1 x d R1 s1 r1 h1 => ?_
  refine b2 F1 H1 σ τ ρ1 ε _ _ R1 h1 fun F2 H2 ρ2 lo R2 s2 h2 => ?_
  refine c2 F2 H2 σ τ ρ2 ε _ _ R2 h2 fun F3 H3 ρ3 hi R3 s3 h3 => ?_
  have r3 := r1.mono (s2.trans s3)
  have s13 := (s1.trans s2).trans s3
  unfold gSl at h3
  split at h3
  · obtain ⟨p, vs, rfl, g1, g2⟩ := rep_lstH R3.ex r3
    refine .inl ⟨p, vs, rfl, SqL.of g1, fun np hn => ?_⟩
    have ex := Ext.new (o := .lst (cutV vs lo hi)) R3.ex hn
    exact q _ _ ρ3 _ _ (R3.ext ex) (s13.trans ex.fF) (.lst upd_same ((g2.cut lo hi).mono ex.fF)) h3
  · obtain ⟨p, vs, rfl, g1, g2⟩ := rep_tupH R3.ex r3
    refine .inr (.inl ⟨p, vs, rfl, SqT.of g1, fun hw => ?_, fun _ np hn => ?_⟩)
    · refine q F3 H3 ρ3 _ _ R3 s13 r3 ?_
      rename_i ds
      have e : cutX ds lo hi = ds := by
        unfold cutX
        rw [← g2.length, hw.1, hw.2, List.drop_zero, Nat.sub_zero, g2.length, List.take_length]
      rw [e] at h3
      exact h3
    · have ex := Ext.new (o := .tup (cutV vs lo hi)) R3.ex hn
      exact q _ _ ρ3 _ _ (R3.ext ex) (s13.trans ex.fF) (.tup upd_same ((g2.cut lo hi).mono ex.fF)) h3
  · cases r3.str_of
    exact .inr (.inr ⟨_, rfl, h3.1, q F3 H3 ρ3 _ _ R3 s13 (.str _) h3.2⟩)
  · exact h3.elim
end

open PySem L2

/-! ### the readings that a reading over data is by itself -/
def canE (W : Ent) (de : DE) : TE := fun σ H k => ∃ F τ ρ ε Q, At W F H σ τ ρ ε ∧ de ρ Q ∧ ∀ F' H' ρ' v d, At W F' H' σ τ ρ' ε → Same F F' → Rep F' v d → Q d ρ' → k v H'
def canT (W : Ent) (dt : DT) : TT := fun σ H k => ∃ F τ ρ ε Q, At W F H σ τ ρ ε ∧ dt ρ Q ∧ ∀ F' H' ρ' b, At W F' H' σ τ ρ' ε → Same F F' → Q b ρ' → k b H'
def canG (W : Ent) (dg : DG) (sl : List Nat) : TG := fun v σ H k => ∃ F τ ρ ε d Q, At W F H σ τ ρ ε ∧ Rep F v d ∧ dg d ρ Q ∧ ∀ F' H' σ' ρ', At W F' H' σ' τ ρ' ε → Same F F' → Off sl σ σ' → Q ρ' → k σ' H'
section
variable {X : Cx} {W : Ent} {e : Expr} {de : DE} {dt : DT} {dg : DG} {sl : List Nat}
theorem PDE.can (h : PDE X W e de) : PE X e (canE W de) := by
  obtain ⟨te, a1, a2⟩ := h.ex
  exact ⟨fun pins s σ H Q I ⟨F, τ, ρ, ε, Q', R, hd, q⟩ => a1.run pins s σ H Q I (a2 F H σ τ ρ ε Q' Q R hd q)⟩
theorem PDT.can (h : PDT X W e dt) : PT X e (canT W dt) := by
  obtain ⟨te, a1, a2⟩ := h.ex
  exact ⟨fun pins s σ H Q I ⟨F, τ, ρ, ε, Q', R, hd, q⟩ => a1.run pins s σ H Q I (a2 F H σ τ ρ ε Q' Q R hd q)⟩
theorem PDG.can (h : PDG X W e dg sl) : PG X e (canG W dg sl) := by
  obtain ⟨te, a1, a2⟩ := h.ex
  exact ⟨fun pins s σ H v u Q I r ⟨F, τ, ρ, ε, d, Q', R, rd, hd, q⟩ => a1.run pins s σ H v u Q I r (a2 F H σ τ ρ ε v d Q' Q R rd hd q)⟩
theorem snd_canE : SndE W (canE W de) de := fun F H σ τ ρ ε Q k R h q => ⟨F, τ, ρ, ε, Q, R, h, q⟩
theorem snd_canT : SndT W (canT W dt) dt := fun F H σ τ ρ ε Q k R h q => ⟨F, τ, ρ, ε, Q, R, h, q⟩
theorem snd_canG : SndG W (canG W dg sl) dg sl := fun F H σ τ ρ ε v d Q k R r h q => ⟨F, τ, ρ, ε, d, Q, R, r, h, q⟩
end

/-- the slots of a block's own names -/
def dwipe (ρ : Rho) : List Nat → Rho
  | [] => ρ
  | v :: vs => (dwipe ρ vs).set v .no
theorem dwipe_len (ρ : Rho) : ∀ vs, (dwipe ρ vs).length = ρ.length
  | [] => rfl
  | v :: vs => by unfold dwipe; rw [List.length_set, dwipe_len ρ vs]
theorem dwipe_get {ρ : Rho} {j : Nat} {s : Slot} : ∀ {vs : List Nat}, (dwipe ρ vs)[j]? = some s → s = .no ∨ (j ∉ vs ∧ ρ[j]? = some s)
  | [], h => .inr ⟨List.not_mem_nil, h⟩
  | v :: vs, h => by
    unfold dwipe at h
    by_cases e : v = j
    · subst e
      have hl := lt_of_get h
      rw [List.length_set] at hl
      rw [List.getElem?_set_self hl] at h
      exact .inl (Option.some.inj h).symm
    · rw [List.getElem?_set_ne e] at h
      rcases dwipe_get h with q | ⟨q1, q2⟩
      · exact .inl q
      · exact .inr ⟨fun m => by
          rcases List.mem_cons.mp m with z | z
          · exact e z.symm
          · exact q1 z, q2⟩
theorem wipe_off {σ : L2.St} {j : Nat} : ∀ {vs : List Nat}, j ∉ vs → (wipe σ vs)[j]? = σ[j]?
  | [], _ => rfl
  | v :: vs, h => by
    unfold wipe
    rw [List.getElem?_set_ne fun z => h (by rw [z]; exact List.mem_cons_self)]
    exact wipe_off fun m => h (List.mem_cons_of_mem _ m)
theorem wipe_on {σ : L2.St} {j : Nat} : ∀ {vs : List Nat}, j ∈ vs → j < σ.length → (wipe σ vs)[j]? = some none
  | v :: vs, h, hl => by
    unfold wipe
    by_cases e : v = j
    · subst e
      rw [List.getElem?_set_self (by rw [wipe_length]; exact hl)]
    · rw [List.getElem?_set_ne e]
      rcases List.mem_cons.mp h with z | z
      · exact absurd z.symm e
      · exact wipe_on z hl
theorem wipe_same {σ σ' : L2.St} {vs sl : List Nat} (o : Off sl (wipe σ vs) σ') (hs : ∀ i ∈ sl, i ∈ vs) : wipe σ' vs = wipe σ vs := by
  have hl : σ'.length = σ.length := by rw [o.1, wipe_length]
  refine List.ext_getElem? fun j => ?_
  by_cases m : j ∈ vs
  · by_cases hj : j < σ.length
    · rw [wipe_on m (by omega), wipe_on m hj]
    · rw [List.getElem?_eq_none (by rw [wipe_length]; omega), List.getElem?_eq_none (by rw [wipe_length]; omega)]
  · rw [wipe_off m, wipe_off m, o.2 j fun q => m (hs j q), wipe_off m]
section
variable {W : Ent} {F H : Hp} {σ σ' τ : L2.St} {ρ ε : Rho} {vs : List Nat}
/-- names forgotten, values that agree elsewhere -/
theorem At.wiped (R : At W F H σ τ ρ ε) (hl : σ'.length = σ.length) (ho : ∀ j, j ∉ vs → σ'[j]? = σ[j]?) : At W F H σ' τ (dwipe ρ vs) ε := by
  have hlt : τ.length = ε.length := by have := R.rel.len; have := R.len; rw [List.length_append, List.length_append] at *; omega
  refine R.remap (by rw [dwipe_len, hl, R.len]) (by rw [List.length_append, List.length_append, dwipe_len, hl, R.len, hlt]) (fun j => j) (fun j s hj => ?_) (fun j c hj => rfl) (fun i j s s' _ _ _ _ e => e) R.nio
  by_cases z : j < ρ.length
  · rw [get_app (by rw [dwipe_len]; exact z)] at hj
    rcases dwipe_get hj with q | ⟨q1, q2⟩
    · exact .inl q
    · refine .inr ⟨s, getApp1 q2, rfl, ?_⟩
      rw [get_app (by rw [hl, R.len]; exact z), get_app (by rw [R.len]; exact z)]
      exact ho j q1
  · refine .inr ⟨s, ?_, rfl, ?_⟩
    · rw [List.getElem?_append_right (by rw [dwipe_len]; omega), dwipe_len] at hj
      rw [List.getElem?_append_right (by omega)]
      exact hj
    · rw [List.getElem?_append_right (by rw [hl, R.len]; omega), List.getElem?_append_right (by rw [R.len]; omega), hl]
/-- the list that waits first grows by one -/
theorem At.growNew {p : Addr} {ds : List D} {v : V} {d : D} (R : At W F H σ (some (.ref p) :: τ) ρ (.ow (.l ds) :: ε)) (r : Rep F v d) : ∃ acc, H p = some (.lst acc) ∧ acc.length = ds.length ∧ At W F (upd H p (.lst (acc ++ [v]))) σ (some (.ref p) :: τ) ρ (.ow (.l (ds ++ [d])) :: ε) := by
  have R1 := R.toName
  obtain ⟨v0, fp, g1, g2, g3, mk⟩ := R1.cell (i := ρ.length) (s := .ow (.l ds)) (c := .l ds) (by rw [List.getElem?_append_right (Nat.le_refl _), Nat.sub_self]; rfl) rfl
  rw [List.getElem?_append_right (by rw [R.len]; exact Nat.le_refl _), R.len, Nat.sub_self] at g1
  cases g1
  obtain ⟨q, xs, e1, e2, e3, e4⟩ := g2
  cases e1
  refine ⟨xs, e3, e4.length, ?_⟩
  have R2 := mk (.l (ds ++ [d])) (upd H p (.lst (xs ++ [v]))) fp (fun a o n h => by rw [upd_ne fun z => n (by rw [z, e2]; exact List.mem_cons_self)]; exact h) (fun a ha => .inl ha) (fun a ha => by
    rw [e2] at ha
    rw [List.mem_singleton.mp ha]; exact ⟨_, upd_same⟩) ⟨p, xs ++ [v], rfl, e2, upd_same, e4.append (.cons r .nil)⟩
  have e : (ρ ++ [Slot.ow (.l ds)]).set ρ.length (Slot.put (.ow (.l ds)) (.l (ds ++ [d]))) = ρ ++ [Slot.ow (.l (ds ++ [d]))] := by
    rw [List.set_append_right _ _ (Nat.le_refl _), Nat.sub_self]; rfl
  rw [e] at R2
  exact At.ofName R2 fun c z => by cases z
end

def dLcLoop (g : DG) (dt : DT) (de : DE) (vs : List Nat) (Q : List D → Rho → Prop) : List D → List D → Rho → Prop
  | acc, [], ρ => Q acc ρ
  | acc, x :: xs, ρ => g x ρ fun ρ1 => dt ρ1 fun b ρ2 => match b with
    | true => de ρ2 fun z ρ3 => acc.length < sizeLine ∧ dLcLoop g dt de vs Q (acc ++ [z]) xs (dwipe ρ3 vs)
    | false => dLcLoop g dt de vs Q acc xs (dwipe ρ2 vs)
def dLc (di : DI) (g : DG) (dt : DT) (de : DE) (vs : List Nat) : DN := fun ρ Q => di ρ fun xs ρ1 => dLcLoop g dt de vs (fun acc ρ' => Q (.l acc) ρ') [] xs (dwipe ρ1 vs)
def dYes : DT := fun ρ Q => Q true ρ
theorem snd_lc {W : Ent} {wi : TI} {di : DI} {g : TG} {dg : DG} {tt : TT} {dt : DT} {te : TE} {de : DE} {sl vs : List Nat} (h1 : SndI W wi di) (h2 : SndG W g dg sl) (h3 : SndT W tt dt) (h4 : SndE W te de) (hs : ∀ i ∈ sl, i ∈ vs) : SndN W (tLc wi g tt te vs) (dLc di dg dt de vs) := by
  intro F H σ τ ρ ε Q k R h q
  refine h1 F H σ τ ρ ε _ _ R h fun F1 H1 ρ1 xs J R1 s1 wk h' => fun p hp => ?_
  have R1' : At W F1 H1 (wipe σ vs) τ (dwipe ρ1 vs) ε := R1.wiped (wipe_length _ _) fun j hj => wipe_off hj
  have R2 : At W F1 (upd H1 p (.lst [])) (wipe σ vs) (some (.ref p) :: τ) (dwipe ρ1 vs) (.ow (.l []) :: ε) := R1'.new hp ⟨p, [], rfl, rfl, upd_same, .nil⟩
  refine ⟨fun i m H => ∃ F ρ acc, i ≤ xs.length ∧ m = xs.length - i ∧ At W F H (wipe σ vs) (some (.ref p) :: τ) (dwipe ρ vs) (.ow (.l acc) :: ε) ∧ Same F1 F ∧ dLcLoop dg dt de vs (fun acc ρ' => Q (.l acc) ρ') acc (xs.drop i) (dwipe ρ vs),
    ⟨xs.length, F1, ρ1, [], Nat.zero_le _, rfl, R2, Same.refl _, h'⟩, ?_⟩
  rintro i m H2 ⟨F2, ρ2, acc, hi, rfl, R2, s2, h2'⟩
  obtain ⟨wg, ws⟩ := wk i F2 H2 s2 R2.ex
  by_cases hlt : i < xs.length
  · obtain ⟨g1, g2⟩ := wg _ (List.getElem?_eq_getElem hlt)
    rw [List.drop_eq_getElem_cons hlt] at h2'
    refine .inr ⟨g1, fun H' => ∃ F' ρ' acc', At W F' H' (wipe σ vs) (some (.ref p) :: τ) (dwipe ρ' vs) (.ow (.l acc') :: ε) ∧ Same F1 F' ∧ dLcLoop dg dt de vs (fun acc ρ' => Q (.l acc) ρ') acc' (xs.drop (i + 1)) (dwipe ρ' vs),
      fun H' ⟨F', ρ', acc', q1, q2, q3⟩ => ⟨xs.length - (i + 1), by omega, F', ρ', acc', hlt, rfl, q1, q2, q3⟩, fun x H' y => ?_⟩
    obtain ⟨F3, ex, rx⟩ := g2 x H' y
    have R3 := R2.ext ex
    refine h2 F3 H' (wipe σ vs) _ _ _ x _ _ _ R3 rx h2' fun F4 H4 σ4 ρ4 R4 s4 o4 h4' => ?_
    have ew := wipe_same o4 hs
    have wlen : (wipe σ vs).length = σ4.length := o4.1.symm
    have woff : ∀ j, j ∉ vs → (wipe σ vs)[j]? = σ4[j]? := fun j hj => by rw [← ew]; exact wipe_off hj
    refine ⟨ew, h3 F4 H4 σ4 _ ρ4 _ _ _ R4 h4' fun F5 H5 ρ5 b R5 s5 h5 => ?_⟩
    have s15 := ((s2.trans ex.fF).trans s4).trans s5
    cases b with
    | false => exact iteF ⟨F5, ρ5, acc, R5.wiped wlen woff, s15, h5⟩
    | true =>
      refine iteT (h4 F5 H5 σ4 _ ρ5 _ _ _ R5 h5 fun F6 H6 ρ6 v z R6 s6 r6 h6 => ?_)
      obtain ⟨accV, k1, k2, R7⟩ := R6.growNew r6
      exact ⟨accV, k1, by rw [k2]; exact h6.1, F6, ρ6, acc ++ [z], R7.wiped wlen woff, s15.trans s6, h6.2⟩
  · refine .inl ⟨ws (by omega), ?_⟩
    rw [List.drop_eq_nil_of_le (by omega)] at h2'
    refine q F2 H2 (dwipe (dwipe ρ2 vs) vs) (.ref p) (.l acc) (R2.wiped (wipe_length _ _).symm fun j hj => (wipe_off hj).symm) (s1.trans s2) ?_
    have e : dwipe (dwipe ρ2 vs) vs = dwipe ρ2 vs := by
      refine List.ext_getElem? fun j => ?_
      by_cases m : j ∈ vs
      · by_cases hj : j < ρ2.length
        · have on : ∀ (ρ : Rho) (vs : List Nat), j ∈ vs → j < ρ.length → (dwipe ρ vs)[j]? = some .no := fun ρ vs => by
            induction vs with
            | nil => intro m; exact absurd m List.not_mem_nil
            | cons v vs ih =>
              intro m hl
              unfold dwipe
              by_cases e : v = j
              · subst e; rw [List.getElem?_set_self (by rw [dwipe_len]; exact hl)]
              · rw [List.getElem?_set_ne e]
                rcases List.mem_cons.mp m with z | z
                · exact absurd z.symm e
                · exact ih z hl
          rw [on _ _ m (by rw [dwipe_len]; exact hj), on _ _ m hj]
        · rw [List.getElem?_eq_none (by rw [dwipe_len, dwipe_len]; omega), List.getElem?_eq_none (by rw [dwipe_len]; omega)]
      · have off : ∀ (ρ : Rho) (vs : List Nat), j ∉ vs → (dwipe ρ vs)[j]? = ρ[j]? := fun ρ vs => by
          induction vs with
          | nil => intro _; rfl
          | cons v vs ih =>
            intro m
            unfold dwipe
            rw [List.getElem?_set_ne fun z => m (by rw [z]; exact List.mem_cons_self)]
            exact ih fun q => m (List.mem_cons_of_mem _ q)
        rw [off _ _ m]
    rw [e]
    exact h2'
/-- within a block nothing is raised -/
theorem exl0 {W : Ent} : ExL W (fun _ _ _ => False) (fun _ _ _ => False) := fun _ _ _ _ _ _ _ _ _ _ h => h
section
variable {X : Cx} {W : Ent} {elt tg iter : Expr} {ifs : List Expr} {scope : Scope} {own : List (Str × Nat)} {pos : Pos} {di : DI} {dg : DG} {dt : DT} {de : DE} {sl : List Nat}
theorem dn_lc (hc : X.calm = true) (hN : X.N.Nodup) (hi : PDI X W tg iter di) (ok : BlkOk X.N X.env.scope scope own)
    (hg : ∀ (s : Shared) (H : Hp) (C : Addr) (cl : List (Str × Addr)) (fp : List Addr), PDG (X.blk s H scope (compEnvC scope cl C X.env) fp) W tg dg sl)
    (he : ∀ (s : Shared) (H : Hp) (C : Addr) (cl : List (Str × Addr)) (fp : List Addr), PDE (X.blk s H scope (compEnvC scope cl C X.env) fp) W elt de)
    (hsl : ∀ i ∈ sl, i ∈ own.map (·.2) := by decide) (hs : ∀ x, foldedSetIterable iter X.env x = pure x := by intro _; rfl) : PDN X W (.ListComp elt [⟨tg, iter, [], 0⟩] scope pos) (dLc di dg dYes de (own.map (·.2))) := by
  obtain ⟨a, a1, a2⟩ := hi.ex
  exact ⟨_, pe_lc (tt := tYes) hc hN a1 ok (fun s H C cl fp => (hg s H C cl fp).can) (fun _ _ _ _ _ => pts_nil) (fun s H C cl fp => (he s H C cl fp).can) hs,
    snd_lc a2 snd_canG (fun F H σ τ ρ ε Q k R h q => q F H ρ true R (Same.refl _) h) snd_canE hsl⟩
theorem dn_lcIf {c : Expr} (hc : X.calm = true) (hN : X.N.Nodup) (hi : PDI X W tg iter di) (ok : BlkOk X.N X.env.scope scope own)
    (hg : ∀ (s : Shared) (H : Hp) (C : Addr) (cl : List (Str × Addr)) (fp : List Addr), PDG (X.blk s H scope (compEnvC scope cl C X.env) fp) W tg dg sl)
    (ht : ∀ (s : Shared) (H : Hp) (C : Addr) (cl : List (Str × Addr)) (fp : List Addr), PDT (X.blk s H scope (compEnvC scope cl C X.env) fp) W c dt)
    (he : ∀ (s : Shared) (H : Hp) (C : Addr) (cl : List (Str × Addr)) (fp : List Addr), PDE (X.blk s H scope (compEnvC scope cl C X.env) fp) W elt de)
    (hsl : ∀ i ∈ sl, i ∈ own.map (·.2) := by decide) (hs : ∀ x, foldedSetIterable iter X.env x = pure x := by intro _; rfl) : PDN X W (.ListComp elt [⟨tg, iter, [c], 0⟩] scope pos) (dLc di dg dt de (own.map (·.2))) := by
  obtain ⟨a, a1, a2⟩ := hi.ex
  exact ⟨_, pe_lc hc hN a1 ok (fun s H C cl fp => (hg s H C cl fp).can) (fun s H C cl fp => pts_one (ht s H C cl fp).can) (fun s H C cl fp => (he s H C cl fp).can) hs, snd_lc a2 snd_canG snd_canT snd_canE hsl⟩
/-- y = [..] on one line -/
theorem ds_setLc {i : Nat} {y : Str} {py spos : Pos} (hc : X.calm = true) (hN : X.N.Nodup) (hy : X.N[i]? = some y) (hyl : X.env.scope.names.lookup y = some .local)
    (hsw : swapsWith (.ListComp elt [⟨tg, iter, [], 0⟩] scope pos) (some (.Name y py)) spos.line X.env = pure true) (hi : PDI X W tg iter di) (ok : BlkOk X.N X.env.scope scope own)
    (hg : ∀ (s : Shared) (H : Hp) (C : Addr) (cl : List (Str × Addr)) (fp : List Addr), PDG (X.blk s H scope (compEnvC scope cl C X.env) fp) W tg dg sl)
    (he : ∀ (s : Shared) (H : Hp) (C : Addr) (cl : List (Str × Addr)) (fp : List Addr), PDE (X.blk s H scope (compEnvC scope cl C X.env) fp) W elt de)
    (hsl : ∀ i ∈ sl, i ∈ own.map (·.2) := by decide) (hs : ∀ x, foldedSetIterable iter X.env x = pure x := by intro _; rfl) : PDS X W (.Assign [.Name y py] (.ListComp elt [⟨tg, iter, [], 0⟩] scope pos) spos) (dSetN i (dLc di dg dYes de (own.map (·.2)))) := by
  obtain ⟨a, a1, a2⟩ := hi.ex
  refine ⟨_, ps_setLc (tt := tYes) hc hN hy hyl hsw a1 ok (fun s H C cl fp => (hg s H C cl fp).can) (fun _ _ _ _ _ => pts_nil) (fun s H C cl fp => (he s H C cl fp).can) hs, ?_⟩
  have sn := snd_lc (vs := own.map (·.2)) a2 (snd_canG (W := W) (dg := dg) (sl := sl)) (tt := tYes) (dt := dYes) (fun F H σ τ ρ ε Q k R h q => q F H ρ true R (Same.refl _) h) (snd_canE (W := W) (de := de)) hsl
  exact fun F H σ ρ D DD R L h => sn F H σ [] ρ [] _ _ R h fun F' H' ρ' v c R' s' h' => L.nx F' H' _ _ (R'.setNew (okSet_lt h'.1) (okSet_io h'.1)) s' h'.2
theorem ds_setLcIf {c : Expr} {i : Nat} {y : Str} {py spos : Pos} (hc : X.calm = true) (hN : X.N.Nodup) (hy : X.N[i]? = some y) (hyl : X.env.scope.names.lookup y = some .local)
    (hsw : swapsWith (.ListComp elt [⟨tg, iter, [c], 0⟩] scope pos) (some (.Name y py)) spos.line X.env = pure true) (hi : PDI X W tg iter di) (ok : BlkOk X.N X.env.scope scope own)
    (hg : ∀ (s : Shared) (H : Hp) (C : Addr) (cl : List (Str × Addr)) (fp : List Addr), PDG (X.blk s H scope (compEnvC scope cl C X.env) fp) W tg dg sl)
    (ht : ∀ (s : Shared) (H : Hp) (C : Addr) (cl : List (Str × Addr)) (fp : List Addr), PDT (X.blk s H scope (compEnvC scope cl C X.env) fp) W c dt)
    (he : ∀ (s : Shared) (H : Hp) (C : Addr) (cl : List (Str × Addr)) (fp : List Addr), PDE (X.blk s H scope (compEnvC scope cl C X.env) fp) W elt de)
    (hsl : ∀ i ∈ sl, i ∈ own.map (·.2) := by decide) (hs : ∀ x, foldedSetIterable iter X.env x = pure x := by intro _; rfl) : PDS X W (.Assign [.Name y py] (.ListComp elt [⟨tg, iter, [c], 0⟩] scope pos) spos) (dSetN i (dLc di dg dt de (own.map (·.2)))) := by
  obtain ⟨a, a1, a2⟩ := hi.ex
  refine ⟨_, ps_setLc hc hN hy hyl hsw a1 ok (fun s H C cl fp => (hg s H C cl fp).can) (fun s H C cl fp => pts_one (ht s H C cl fp).can) (fun s H C cl fp => (he s H C cl fp).can) hs, ?_⟩
  have sn := snd_lc (vs := own.map (·.2)) a2 (snd_canG (W := W) (dg := dg) (sl := sl)) (snd_canT (W := W) (dt := dt)) (snd_canE (W := W) (de := de)) hsl
  exact fun F H σ ρ D DD R L h => sn F H σ [] ρ [] _ _ R h fun F' H' ρ' v c R' s' h' => L.nx F' H' _ _ (R'.setNew (okSet_lt h'.1) (okSet_io h'.1)) s' h'.2
end

open PySem L2

section
variable {X : Cx} {W : Ent} {e o a b : Expr} {es : List Expr} {de db dA : DE} {da : DA} {pos p apos : Pos} {x : Str}
/-! ### len -/
def gLen : GA := fun ds Q => match ds with
  | [.list xs] => Q (.int xs.length)
  | [.tuple xs] => Q (.int xs.length)
  | [.str x] => x.length ≤ sizeLine ∧ Q (.int x.length)
  | _ => False
theorem cd_len {K : PySem.W.Frag} : CaD (fun xs H Q => ∃ x n, xs = [x] ∧ LenV K x H n ∧ Q (.int n) H) gLen := by
  intro F H xs ds Q k s r h q
  unfold gLen at h
  split at h
  · obtain ⟨v, ws, rfl, r1, r2⟩ := r.cons_of
    cases r2.nil_of
    obtain ⟨p, vs, rfl, h1, h2⟩ := rep_lstH s r1
    exact ⟨_, _, rfl, .inl ⟨vs, SqL.of h1, h2.length.symm⟩, ext_here s (.int _) h q⟩
  · obtain ⟨v, ws, rfl, r1, r2⟩ := r.cons_of
    cases r2.nil_of
    obtain ⟨p, vs, rfl, h1, h2⟩ := rep_tupH s r1
    exact ⟨_, _, rfl, .inr ⟨vs, SqT.of h1, h2.length.symm⟩, ext_here s (.int _) h q⟩
  · obtain ⟨v, ws, rfl, r1, r2⟩ := r.cons_of
    cases r2.nil_of
    cases r1.str_of
    exact ⟨_, _, rfl, ⟨h.1, rfl⟩, ext_here s (.int _) h.2 q⟩
  · exact h.elim
theorem de_len (hg : Gl X "len") (hm : X.mg "len" = none) (ha : PDA X W [e] da) (he : starEach [e] X.env = (false, eval e X.env) :: starEach [] X.env := by rfl) : PDE X W (.Call (.Name "len" p) [e] [] pos) (dCa gLen da) :=
  de_ca call_len cd_len hg hm PySem.boot_len ha (by decide) (by decide) he (by rfl)

/-! ### abs, max, min of two, int, str, list, tuple -/
def gAbs : GA := fun ds Q => match ds with
  | [.int i] => Q (.int (if i < 0 then -i else i))
  | _ => False
def gMax2 : GA := fun ds Q => match ds with
  | [.int i, .int j] => Q (.int (if j > i then j else i))
  | _ => False
def gMin2 : GA := fun ds Q => match ds with
  | [.int i, .int j] => Q (.int (if j < i then j else i))
  | _ => False
def gInt1 : GA := fun ds Q => match ds with
  | [.int i] => Q (.int i)
  | [.bool k] => Q (.int (if k then 1 else 0))
  | _ => False
theorem reps1 {F : Hp} {xs : List V} {d : D} (r : Reps F xs [d]) : ∃ v, xs = [v] ∧ Rep F v d := by
  obtain ⟨v, ws, rfl, r1, r2⟩ := r.cons_of
  cases r2.nil_of
  exact ⟨v, rfl, r1⟩
theorem reps2 {F : Hp} {xs : List V} {d d' : D} (r : Reps F xs [d, d']) : ∃ v v', xs = [v, v'] ∧ Rep F v d ∧ Rep F v' d' := by
  obtain ⟨v, ws, rfl, r1, r2⟩ := r.cons_of
  obtain ⟨v', rfl, r3⟩ := reps1 r2
  exact ⟨v, v', rfl, r1, r3⟩
theorem de_abs (hg : Gl X "abs") (hm : X.mg "abs" = none) (ha : PDA X W [e] da) (he : starEach [e] X.env = (false, eval e X.env) :: starEach [] X.env := by rfl) : PDE X W (.Call (.Name "abs" p) [e] [] pos) (dCa gAbs da) :=
  de_ca call_abs (by
    intro F H xs ds Q k s r h q
    unfold gAbs at h
    split at h
    · obtain ⟨v, rfl, r1⟩ := reps1 r
      cases r1.int_of
      exact ⟨_, rfl, ext_here s (.int _) h q⟩
    · exact h.elim) hg hm (by decide +kernel) ha (by decide) (by decide) he (by rfl)
theorem de_max2 (hc : X.calm = true) (hg : Gl X "max") (hm : X.mg "max" = none) (ha : PDA X W [e, o] da) (he : starEach [e, o] X.env = (false, eval e X.env) :: starEach [o] X.env := by rfl) (hpl : (backTo pos (starEach [o] X.env)).any (·.1) = false := by rfl) : PDE X W (.Call (.Name "max" p) [e, o] [] pos) (dCa gMax2 da) :=
  de_ca (call_max2 hc) (by
    intro F H xs ds Q k s r h q
    unfold gMax2 at h
    split at h
    · obtain ⟨v, v', rfl, r1, r2⟩ := reps2 r
      cases r1.int_of; cases r2.int_of
      exact ⟨_, _, rfl, ext_here s (.int _) h q⟩
    · exact h.elim) hg hm (by decide +kernel) ha (by decide) (by decide) he hpl
theorem de_min2 (hc : X.calm = true) (hg : Gl X "min") (hm : X.mg "min" = none) (ha : PDA X W [e, o] da) (he : starEach [e, o] X.env = (false, eval e X.env) :: starEach [o] X.env := by rfl) (hpl : (backTo pos (starEach [o] X.env)).any (·.1) = false := by rfl) : PDE X W (.Call (.Name "min" p) [e, o] [] pos) (dCa gMin2 da) :=
  de_ca (call_min2 hc) (by
    intro F H xs ds Q k s r h q
    unfold gMin2 at h
    split at h
    · obtain ⟨v, v', rfl, r1, r2⟩ := reps2 r
      cases r1.int_of; cases r2.int_of
      exact ⟨_, _, rfl, ext_here s (.int _) h q⟩
    · exact h.elim) hg hm (by decide +kernel) ha (by decide) (by decide) he hpl
theorem de_int1 (hg : Gl X "int") (hm : X.mg "int" = none) (ha : PDA X W [e] da) (he : starEach [e] X.env = (false, eval e X.env) :: starEach [] X.env := by rfl) : PDE X W (.Call (.Name "int" p) [e] [] pos) (dCa gInt1 da) :=
  de_caT call_int1 (by
    intro F H xs ds Q k s r h q
    unfold gInt1 at h
    split at h
    · obtain ⟨v, rfl, r1⟩ := reps1 r
      cases r1.int_of
      exact .inl ⟨_, rfl, ext_here s (.int _) h q⟩
    · obtain ⟨v, rfl, r1⟩ := reps1 r
      cases r1.bl_of
      exact .inr ⟨_, rfl, ext_here s (.int _) h q⟩
    · exact h.elim) hg hm (by decide +kernel) ha (by decide) (by decide) he (by rfl)
/-- list(xs): a new list -/
def dListN (da : DA) : DN := fun ρ Q => da ρ fun ds ρ1 => match ds with
  | [.list xs] => Q (.l xs) ρ1
  | [.tuple xs] => Q (.l xs) ρ1
  | _ => False
theorem dn_list (hg : Gl X "list") (hm : X.mg "list" = none) (ha : PDA X W [e] da) (he : starEach [e] X.env = (false, eval e X.env) :: starEach [] X.env := by rfl) : PDN X W (.Call (.Name "list" p) [e] [] pos) (dListN da) := by
  obtain ⟨ta, a1, a2⟩ := ha.ex
  refine ⟨_, pe_callTy call_list_of hg hm (by decide +kernel) a1 (by decide) (by decide) he (by rfl), fun F H σ τ ρ ε Q k R h q => a2 F H σ τ ρ ε _ _ R h fun F1 H1 ρ1 vs ds R1 s1 r1 h1 => ?_⟩
  split at h1
  · obtain ⟨v, rfl, r2⟩ := reps1 r1
    obtain ⟨p, xs, rfl, h2, h3⟩ := rep_lstH R1.ex r2
    exact ⟨p, xs, rfl, .inl (SqL.of h2), fun l hl => q F1 _ ρ1 _ (.l _) (R1.new hl ⟨l, xs, rfl, rfl, upd_same, h3⟩) s1 h1⟩
  · obtain ⟨v, rfl, r2⟩ := reps1 r1
    obtain ⟨p, xs, rfl, h2, h3⟩ := rep_tupH R1.ex r2
    exact ⟨p, xs, rfl, .inr (SqT.of h2), fun l hl => q F1 _ ρ1 _ (.l _) (R1.new hl ⟨l, xs, rfl, rfl, upd_same, h3⟩) s1 h1⟩
  · exact h1.elim
def gTuple : GA := fun ds Q => match ds with
  | [.list xs] => Q (.tuple xs)
  | [.tuple xs] => Q (.tuple xs)
  | _ => False
theorem de_tuple (hg : Gl X "tuple") (hm : X.mg "tuple" = none) (ha : PDA X W [e] da) (he : starEach [e] X.env = (false, eval e X.env) :: starEach [] X.env := by rfl) : PDE X W (.Call (.Name "tuple" p) [e] [] pos) (dCa gTuple da) :=
  de_caT call_tuple_of (by
    intro F H xs ds Q k s r h q
    unfold gTuple at h
    split at h
    · obtain ⟨v, rfl, r1⟩ := reps1 r
      obtain ⟨p, vs, rfl, h1, h2⟩ := rep_lstH s r1
      exact ⟨p, vs, rfl, .inl ⟨SqL.of h1, ext_tup s h2 h q⟩⟩
    · obtain ⟨v, rfl, r1⟩ := reps1 r
      obtain ⟨p, vs, rfl, h1, h2⟩ := rep_tupH s r1
      exact ⟨p, vs, rfl, .inr ⟨SqT.of h1, ext_here s r1 h q⟩⟩
    · exact h.elim) hg hm (by decide +kernel) ha (by decide) (by decide) he (by rfl)
/-! ### sum, any, all -/
def intsOf : List D → Option (List Int)
  | [] => some []
  | .int x :: r => (intsOf r).map (x :: ·)
  | _ :: _ => none
theorem intsOf_eq : ∀ {ds : List D} {xs : List Int}, intsOf ds = some xs → ds = xs.map PyData.int
  | [], xs, h => by cases h; rfl
  | d :: r, xs, h => by
    cases d with
    | int x =>
      have h : (intsOf r).map (x :: ·) = some xs := h
      cases e : intsOf r with
      | none => rw [e] at h; cases h
      | some ys =>
        rw [e] at h
        cases h
        rw [intsOf_eq e]; rfl
    | _ => cases h
theorem intsOf_map : ∀ (xs : List Int), intsOf (xs.map PyData.int) = some xs
  | [] => rfl
  | x :: xs => by
    show (intsOf (xs.map PyData.int)).map (x :: ·) = _
    rw [intsOf_map xs]; rfl
def boolsOf : List D → Option (List Bool)
  | [] => some []
  | .bool x :: r => (boolsOf r).map (x :: ·)
  | _ :: _ => none
theorem boolsOf_eq : ∀ {ds : List D} {xs : List Bool}, boolsOf ds = some xs → ds = xs.map PyData.bool
  | [], xs, h => by cases h; rfl
  | d :: r, xs, h => by
    cases d with
    | bool x =>
      have h : (boolsOf r).map (x :: ·) = some xs := h
      cases e : boolsOf r with
      | none => rw [e] at h; cases h
      | some ys =>
        rw [e] at h
        cases h
        rw [boolsOf_eq e]; rfl
    | _ => cases h
theorem boolsOf_map : ∀ (xs : List Bool), boolsOf (xs.map PyData.bool) = some xs
  | [] => rfl
  | x :: xs => by
    show (boolsOf (xs.map PyData.bool)).map (x :: ·) = _
    rw [boolsOf_map xs]; rfl
theorem Reps.bls_of {F : Hp} : ∀ {ns : List Bool} {vs : List V}, Reps F vs (ns.map PyData.bool) → vs = ns.map V.bl
  | [], _, h => h.nil_of
  | n :: ns, _, h => by
    obtain ⟨v, ws, rfl, h1, h2⟩ := Reps.cons_of (d := .bool n) (ds := ns.map PyData.bool) h
    rw [h1.bl_of, Reps.bls_of h2]
    rfl
def gSum : GA := fun ds Q => match ds with
  | [.list xs] => match intsOf xs with
    | some ns => Q (.int ns.sum)
    | none => False
  | _ => False
def gAll : GA := fun ds Q => match ds with
  | [.list xs] => match boolsOf xs with
    | some ns => Q (.bool (ns.all id))
    | none => False
  | _ => False
theorem de_sum (hc : X.calm = true) (hg : Gl X "sum") (hm : X.mg "sum" = none) (ha : PDA X W [e] da) (he : starEach [e] X.env = (false, eval e X.env) :: starEach [] X.env := by rfl) : PDE X W (.Call (.Name "sum" p) [e] [] pos) (dCa gSum da) :=
  de_ca (cr_sum hc) (by
    intro F H xs ds Q k s r h q
    unfold gSum at h
    split at h
    · split at h
      · next ns e1 =>
        obtain ⟨v, rfl, r1⟩ := reps1 r
        obtain ⟨p, vs, rfl, h1, h2⟩ := rep_lstH s r1
        rw [intsOf_eq e1] at h2
        cases h2.ints_of
        exact ⟨p, ns, rfl, SqL.of h1, ext_here s (.int _) h q⟩
      · exact h.elim
    · exact h.elim) hg hm (by decide +kernel) ha (by decide) (by decide) he (by rfl)
theorem de_all (hc : X.calm = true) (hg : Gl X "all") (hm : X.mg "all" = none) (ha : PDA X W [e] da) (he : starEach [e] X.env = (false, eval e X.env) :: starEach [] X.env := by rfl) : PDE X W (.Call (.Name "all" p) [e] [] pos) (dCa gAll da) :=
  de_ca (cr_all hc) (by
    intro F H xs ds Q k s r h q
    unfold gAll at h
    split at h
    · split at h
      · next ns e1 =>
        obtain ⟨v, rfl, r1⟩ := reps1 r
        obtain ⟨p, vs, rfl, h1, h2⟩ := rep_lstH s r1
        rw [boolsOf_eq e1] at h2
        cases h2.bls_of
        exact ⟨p, ns, rfl, SqL.of h1, ext_here s (.bl _) h q⟩
      · exact h.elim
    · exact h.elim) hg hm (by decide +kernel) ha (by decide) (by decide) he (by rfl)
/-! ### sorted of data: a new list -/
def sortD (ds : List D) : List D := ds.mergeSort (PySem.W.dataLe false fun d => d)
def canSort (ds : List D) : Prop := PySem.W.AllAlike ds ∧ PySem.W.Sortable ds ∧ (∀ d ∈ ds, d.depth ≤ 50) ∧ ds.length ≤ sizeLine
def rSortD : List V → Hp → VK → Prop := fun xs H Q => ∃ (a : Addr) (vs : List V) (F : Hp) (ds : List D), xs = [.ref a] ∧ H a = some (.lst vs) ∧ Same F H ∧ Reps F vs ds ∧ canSort ds ∧ PyData.plainAll ds = true ∧
  ∀ p ys, H p = none → Reps F ys (sortD ds) → Q (.ref p) (upd H p (.lst ys))
theorem readsAll_eachF {X : Cx} {pins : List (Addr × Obj)} {σ : L2.St} {F H : Hp} {s : Shared} (I : Inv X pins σ H s) (sF : Same F H) : ∀ {ds : List D} {vs : List V} {us : List Value}, PyData.plainAll ds = true → Reps F vs ds → Vals vs us →
    PySem.W.EachIs (fun u d => ∃ v, RelV v u ∧ Rep F v d) us ds ∧ PySem.W.EachIs (fun u d => ∃ as, Reads s.heap u d as) us ds
  | [], _, _, _, r, q => by
    cases r.nil_of
    cases q
    exact ⟨.nil, .nil⟩
  | d :: ds, _, _, c, r, q => by
    obtain ⟨v, ws, rfl, r1, r2⟩ := r.cons_of
    cases q with
    | cons q1 q2 =>
      rw [PyData.plainAll, Bool.and_eq_true] at c
      obtain ⟨i1, i2⟩ := readsAll_eachF I sF c.2 r2 q2
      exact ⟨.cons ⟨v, q1, r1⟩ i1, .cons (Dp.reads I d v _ (r1.dpP sF c.1) q1) i2⟩
theorem each_back {F : Hp} : ∀ {us : List Value} {ds : List D}, PySem.W.EachIs (fun u d => ∃ v, RelV v u ∧ Rep F v d) us ds → ∃ ys, Vals ys us ∧ Reps F ys ds
  | [], [], _ => ⟨[], .nil, .nil⟩
  | _ :: _, _ :: _, .cons ⟨v, h1, h2⟩ t => by
    obtain ⟨ys, i1, i2⟩ := each_back t
    exact ⟨v :: ys, .cons h1 i1, .cons h2 i2⟩
theorem cr_sortD (hu : X.A.units + 64 < cLine) : CallR X (.builtin "sorted") rSortD := by
  intro pins s σ H xs us Q I r h
  obtain ⟨a, vs, F, ds, rfl, ha, sF, rp, ⟨c1, c2, c3, c4⟩, pl, q⟩ := h
  obtain ⟨its, rv, hl, _⟩ := I.list (SqL.of (K := X.K) ha)
  rw [Vals.ref1 r]
  obtain ⟨e1, e2⟩ := readsAll_eachF I sF pl rp rv
  refine PySem.W.sorted_data (enc := fun d => d) (bs := ds) hl.isList e1 e2 (by rw [List.map_id']; exact c1) (by rw [List.map_id']; exact c2) c4 (fun b hb => by have := c3 b hb; omega) fun out ho eo => ?_
  obtain ⟨ys, y1, y2⟩ := each_back eo
  obtain ⟨ep, he'⟩ := PyProof.Rows.sortedAll_at s.heap its out.toArray
  have hlen : ys.length ≤ sizeLine := by rw [y1.length, ho]; exact c4
  exact ⟨.ref _, upd H (s.heap.objs.size + 1) (.lst ys), I.laid (t' := s.toks) (fun _ _ => PyProof.Rows.sortedAll_old) (Nat.le_succ _) ⟨hlen, out, ep, y1, he'⟩, rfl, q _ ys (I.hok.fresh (Nat.le_succ _)) y2⟩
def dSortN (da : DA) : DN := fun ρ Q => da ρ fun ds ρ1 => match ds with
  | [.list xs] => (canSort xs ∧ PyData.plainAll xs = true) ∧ Q (.l (sortD xs)) ρ1
  | _ => False
theorem dn_sorted (hu : X.A.units + 64 < cLine) (hg : Gl X "sorted") (hm : X.mg "sorted" = none) (ha : PDA X W [e] da) (he : starEach [e] X.env = (false, eval e X.env) :: starEach [] X.env := by rfl) : PDN X W (.Call (.Name "sorted" p) [e] [] pos) (dSortN da) := by
  obtain ⟨ta, a1, a2⟩ := ha.ex
  refine ⟨_, pe_callB (cr_sortD hu) hg hm (by decide +kernel) a1 (by decide) (by decide) he (by rfl), fun F H σ τ ρ ε Q k R h q => a2 F H σ τ ρ ε _ _ R h fun F1 H1 ρ1 vs ds R1 s1 r1 h1 => ?_⟩
  split at h1
  · obtain ⟨v, rfl, r2⟩ := reps1 r1
    obtain ⟨pp, xs, rfl, h2, h3⟩ := rep_lstH R1.ex r2
    exact ⟨pp, xs, F1, _, rfl, h2, R1.ex, h3, h1.1.1, h1.1.2, fun l ys hl ry => q F1 _ ρ1 _ (.l _) (R1.new hl ⟨l, ys, rfl, rfl, upd_same, ry⟩) s1 h1.2⟩
  · exact h1.elim
/-! ### min of a list of data -/
def gMin : GA := fun ds Q => match ds with
  | [.list (x :: xs)] => (PySem.W.AlikeAll (x :: xs) ∧ PyData.plainAll (x :: xs) = true ∧ PyData.depthAll (x :: xs) ≤ 50) ∧ Q (PySem.W.minD x xs)
  | _ => False
theorem plain_mem' : ∀ {xs : List D} {x : D}, PyData.plainAll xs = true → x ∈ xs → x.plain = true
  | y :: xs, x, h, m => by
    rw [PyData.plainAll, Bool.and_eq_true] at h
    rcases List.mem_cons.mp m with e | e
    · rw [e]; exact h.1
    · exact plain_mem' h.2 e
def rMinD : List V → Hp → VK → Prop := fun vs H Q => ∃ (a : Addr) (ws : List V) (F : Hp) (x : D) (xs : List D), vs = [.ref a] ∧ H a = some (.lst ws) ∧ Same F H ∧ Reps F ws (x :: xs) ∧ PySem.W.AlikeAll (x :: xs) ∧ PyData.plainAll (x :: xs) = true ∧ PyData.depthAll (x :: xs) ≤ 50 ∧
  ∀ v, Rep F v (PySem.W.minD x xs) → Q v H
theorem cr_minD (hc : X.calm = true) (hu : X.A.units + 64 < cLine) : CallR X (.builtin "min") rMinD := by
  intro pins s σ H vs us Q I r h
  obtain ⟨a, ws, F, x, xs, rfl, ha, sF, rp, al, pl, dp, q⟩ := h
  obtain ⟨its, rv, hl, _⟩ := I.list (SqL.of (K := X.K) ha)
  rw [Vals.ref1 r]
  obtain ⟨as, hr⟩ := Dp.readsAll I (x :: xs) ws its (rp.dpP (K := X.K) sF pl) rv
  refine PySem.W.min_list_data (I.ok.hd hc) hl.isList (by rw [List.toList_toArray]; exact hr) al (by omega) fun i v h' tk bs hi rd kk => ?_
  have hi' : its[i]? = some v := by rw [List.getElem?_toArray] at hi; exact hi
  have hil : i < ws.length := by rw [rv.length]; exact lt_of_get hi'
  obtain ⟨u, hu', ru⟩ := rv.get (List.getElem?_eq_getElem hil)
  rw [hi'] at hu'
  cases hu'
  obtain ⟨d, hd, rd2⟩ := rp.get' (List.getElem?_eq_getElem hil)
  have hpl : d.plain = true := by
    have hm : d ∈ x :: xs := List.mem_of_getElem? hd
    exact plain_mem' pl hm
  obtain ⟨cs, rd3⟩ := Dp.reads I d _ _ (rd2.dpP (K := X.K) sF hpl) ru
  have e : d = PySem.W.minD x xs := PySem.SeqAt.plain_unique d _ _ _ _ hpl (PyProof.Rows.Reads.keeps kk rd3) rd
  rw [← e] at q
  exact ⟨_, H, I.kept kk, ru, q _ rd2⟩
theorem de_min (hc : X.calm = true) (hu : X.A.units + 64 < cLine) (hg : Gl X "min") (hm : X.mg "min" = none) (ha : PDA X W [e] da) (he : starEach [e] X.env = (false, eval e X.env) :: starEach [] X.env := by rfl) : PDE X W (.Call (.Name "min" p) [e] [] pos) (dCa gMin da) :=
  de_ca (cr_minD hc hu) (by
    intro F H xs ds Q k s r h q
    unfold gMin at h
    split at h
    · obtain ⟨v, rfl, r1⟩ := reps1 r
      obtain ⟨pp, vs, rfl, h1, h2⟩ := rep_lstH s r1
      exact ⟨pp, vs, F, _, _, rfl, h1, s, h2, h.1.1, h.1.2.1, h.1.2.2, fun v rv => ext_here s rv h.2 q⟩
    · exact h.elim) hg hm (by decide +kernel) ha (by decide) (by decide) he (by rfl)

/-! ### methods that only read -/
/-- o.m(e, ..) of a list or a text: T its type -/
def tyD (T : String) (d : D) : Prop := match d with
  | .list _ => T = "list"
  | .str _ => T = "str"
  | _ => False
def dMtT (T : String) (g : D → GA) (de : DE) (da : DA) : DE := fun ρ Q => de ρ fun d ρ1 => tyD T d ∧ da ρ1 fun ds ρ2 => g d ds fun z => Q z ρ2
theorem tyD_V {K : PySem.W.Frag} {T : String} {F H : Hp} {x : V} {d : D} (s : Same F H) (r : Rep F x d) (h : tyD T d) : tyV K T x H := by
  cases d with
  | list ds =>
    obtain ⟨p, vs, rfl, h1, _⟩ := rep_lstH s r
    exact .inl ⟨h, vs, SqL.of h1⟩
  | str x' => cases r.str_of; exact h
  | _ => exact h.elim
variable {T id : String} {name : Str} {cpos : Pos}
theorem de_bm {r : V → List V → Hp → VK → Prop} {g : D → GA} (pa : PlainAttrs T) (slot : PySem.Slot T name id) (hty : typeOf (.builtin id) = pure (.type "method_descriptor")) (hm : MtR X id r) (hd : MtD r g) (ho : PDE X W o de) (ha : PDA X W (e :: es) da)
    (hbase : attributeBase o name X.env (eval o X.env) = eval o X.env := by rfl)
    (hfew : ((backTo cpos (starEach (e :: es) X.env)).all (fun x => !x.1) && (backToKw cpos (keywordEach [] X.env)).all (fun x => x.1.isSome)
      && decide ((e :: es).length + ([] : List Keyword).length + (if ([] : List Keyword).isEmpty then 0 else 1) < 30)) = true := by rfl)
    (hline : (apos.endLine == cpos.line) = true := by rfl) (hs : starEach (e :: es) X.env = (false, eval e X.env) :: starEach es X.env := by rfl) (hplain : (backTo cpos (starEach es X.env)).any (·.1) = false := by rfl) :
    PDE X W (.Call (.Attribute o name apos) (e :: es) [] cpos) (dMtT T g de da) := by
  obtain ⟨te, b1, b2⟩ := ho.ex
  obtain ⟨ta, a1, a2⟩ := ha.ex
  refine ⟨_, pe_bm pa slot hty hm b1 a1 hbase hfew hline hs hplain, fun F H σ τ ρ ε Q k R h q => b2 F H σ τ ρ ε _ _ R h fun F1 H1 ρ1 x d R1 s1 r1 h1 => ⟨tyD_V R1.ex r1 h1.1, ?_⟩⟩
  refine a2 F1 H1 σ τ ρ1 ε _ _ R1 h1.2 fun F2 H2 ρ2 vs ds R2 s2 r2 h2 => ?_
  exact hd F2 H2 x d vs ds _ k R2.ex (r1.mono s2) r2 h2 fun F3 H3 v z ex rz qz => q F3 H3 ρ2 v z (R2.ext ex) ((s1.trans s2).trans ex.fF) rz qz
/-- xs.count(x) of data -/
def gCount : D → GA := fun d ds Q => match d, ds with
  | .list xs, [y] => (PyData.plainAll xs = true ∧ okD y = true) ∧ Q (.int ((xs.countP fun z => PyData.eqv z y : Nat) : Int))
  | _, _ => False
def rCountD (K : PySem.W.Frag) : V → List V → Hp → VK → Prop := fun x vs H Q => ∃ (a : Addr) (ws : List V) (v : V) (xs : List D) (y : D), x = .ref a ∧ vs = [v] ∧ H a = some (.lst ws) ∧ DpAll K H ws xs ∧ Dp K H v y ∧ PyData.plainAll xs = true ∧ okD y = true ∧ Q (.int ((xs.countP fun z => PyData.eqv z y : Nat) : Int)) H
theorem mt_countD (hu : X.A.units + 64 < cLine) : MtR X "list.count" (rCountD X.K) := by
  intro pins s σ H x vs v us Q I rx rxs h
  obtain ⟨a, ws, v', xs, y, rfl, rfl, ha, d1, d2, p1, p2, q⟩ := h
  cases rx
  obtain ⟨u, rfl, ru⟩ := rxs.one
  obtain ⟨its, rv, hl, _⟩ := I.list (SqL.of (K := X.K) ha)
  obtain ⟨as, hr⟩ := Dp.readsAll I xs ws its d1 rv
  obtain ⟨bs, hr2⟩ := Dp.reads I y _ u d2 ru
  exact PySem.SeqAt.count_list_data hl.isList (by rw [List.toList_toArray]; exact hr) hr2 p1 (okD_plain p2) (room_in p2 hu) ⟨.int _, H, I.tok _, ⟨_, rfl⟩, q⟩
theorem md_count {K : PySem.W.Frag} : MtD (rCountD K) gCount := by
  intro F H x d vs ds Q k s rx rv h q
  unfold gCount at h
  split at h
  · obtain ⟨v, rfl, r1⟩ := reps1 rv
    obtain ⟨pp, ws, rfl, h1, h2⟩ := rep_lstH s rx
    exact ⟨pp, ws, v, _, _, rfl, rfl, h1, h2.dpP s h.1.1, r1.dpP s (okD_plain h.1.2), h.1.1, h.1.2, ext_here s (.int _) h.2 q⟩
  · exact h.elim
theorem de_count (hu : X.A.units + 64 < cLine) (ho : PDE X W o de) (ha : PDA X W [e] da)
    (hbase : attributeBase o "count" X.env (eval o X.env) = eval o X.env := by rfl) (hline : (apos.endLine == cpos.line) = true := by rfl) (hs : starEach [e] X.env = (false, eval e X.env) :: starEach [] X.env := by rfl)
    (hfew : ((backTo cpos (starEach [e] X.env)).all (fun x => !x.1) && (backToKw cpos (keywordEach [] X.env)).all (fun x => x.1.isSome) && decide ([e].length + ([] : List Keyword).length + (if ([] : List Keyword).isEmpty then 0 else 1) < 30)) = true := by rfl) : PDE X W (.Call (.Attribute o "count" apos) [e] [] cpos) (dMtT "list" gCount de da) :=
  de_bm PySem.F.plainAttrs_list PySem.F.slot_list_count PySem.F.type_list_count (mt_countD hu) md_count ho ha hbase hfew hline hs (by rfl)
/-- xs.index(x) of data: there -/
def gIndex : D → GA := fun d ds Q => match d, ds with
  | .list xs, [y] => (SeqAt.shaped (.list xs) = true ∧ SeqAt.shaped y = true) ∧ ∃ j z, xs[j]? = some z ∧ PyData.eqv z y = true ∧ (∀ m z', m < j → xs[m]? = some z' → PyData.eqv z' y = false) ∧ Q (.int (j : Nat))
  | _, _ => False
theorem md_index {K : PySem.W.Frag} : MtD (rIndexD K) gIndex := by
  intro F H x d vs ds Q k s rx rv h q
  unfold gIndex at h
  split at h
  · obtain ⟨⟨c1, c2⟩, j, z, e1, e2, e3, h⟩ := h
    obtain ⟨v, rfl, r1⟩ := reps1 rv
    have dl := rx.dp (K := K) s (SeqAt.canLay_of_shaped c1)
    obtain ⟨pp, ws, rfl, h1, h2⟩ := rep_lstH s rx
    exact ⟨pp, v, _, _, j, z, rfl, rfl, dl, r1.dp s (SeqAt.canLay_of_shaped c2), c1, c2, e1, e2, e3, ext_here s (.int _) h q⟩
  · exact h.elim
theorem de_index (hu : X.A.units + 65 < cLine) (ho : PDE X W o de) (ha : PDA X W [e] da)
    (hbase : attributeBase o "index" X.env (eval o X.env) = eval o X.env := by rfl) (hline : (apos.endLine == cpos.line) = true := by rfl) (hs : starEach [e] X.env = (false, eval e X.env) :: starEach [] X.env := by rfl)
    (hfew : ((backTo cpos (starEach [e] X.env)).all (fun x => !x.1) && (backToKw cpos (keywordEach [] X.env)).all (fun x => x.1.isSome) && decide ([e].length + ([] : List Keyword).length + (if ([] : List Keyword).isEmpty then 0 else 1) < 30)) = true := by rfl) : PDE X W (.Call (.Attribute o "index" apos) [e] [] cpos) (dMtT "list" gIndex de da) :=
  de_bm PySem.F.plainAttrs_list PySem.F.slot_list_index PySem.F.type_list_index (mt_indexD hu) md_index ho ha hbase hfew hline hs (by rfl)
/-- sep.join(list of texts) -/
def strsOf : List D → Option (List Str)
  | [] => some []
  | .str x :: r => (strsOf r).map (x :: ·)
  | _ :: _ => none
theorem strsOf_eq : ∀ {ds : List D} {xs : List Str}, strsOf ds = some xs → ds = xs.map PyData.str
  | [], xs, h => by cases h; rfl
  | d :: r, xs, h => by
    cases d with
    | str x =>
      have h : (strsOf r).map (x :: ·) = some xs := h
      cases e : strsOf r with
      | none => rw [e] at h; cases h
      | some ys =>
        rw [e] at h
        cases h
        rw [strsOf_eq e]; rfl
    | _ => cases h
theorem strsOf_map : ∀ (xs : List Str), strsOf (xs.map PyData.str) = some xs
  | [] => rfl
  | x :: xs => by
    show (strsOf (xs.map PyData.str)).map (x :: ·) = _
    rw [strsOf_map xs]; rfl
def gJoin : D → GA := fun d ds Q => match d, ds with
  | .str a, [.list xs] => match strsOf xs with
    | some ys => (ys.map (·.length)).sum + ys.length * a.length ≤ 16777216 ∧ Q (.str (Txt.join a ys))
    | none => False
  | _, _ => False
theorem md_join {K : PySem.W.Frag} : MtD (fun x xs H Q => ∃ a p, ∃ ys : List Str, x = .str a ∧ xs = [.ref p] ∧ (SqL K H p (ys.map V.str) ∨ SqT K H p (ys.map V.str)) ∧ (ys.map (·.length)).sum + ys.length * a.length ≤ 16777216 ∧ Q (.str (Txt.join a ys)) H) gJoin := by
  intro F H x d vs ds Q k s rx rv h q
  unfold gJoin at h
  split at h
  · split at h
    · next ys e1 =>
      obtain ⟨v, rfl, r1⟩ := reps1 rv
      obtain ⟨pp, ws, rfl, h1, h2⟩ := rep_lstH s r1
      cases rx.str_of
      rw [strsOf_eq e1] at h2
      cases h2.strs_of
      exact ⟨_, pp, ys, rfl, rfl, .inl (SqL.of h1), h.1, ext_here s (.str _) h.2 q⟩
    · exact h.elim
  · exact h.elim
theorem de_join (ho : PDE X W o de) (ha : PDA X W [e] da)
    (hbase : attributeBase o "join" X.env (eval o X.env) = eval o X.env := by rfl) (hline : (apos.endLine == cpos.line) = true := by rfl) (hs : starEach [e] X.env = (false, eval e X.env) :: starEach [] X.env := by rfl)
    (hfew : ((backTo cpos (starEach [e] X.env)).all (fun x => !x.1) && (backToKw cpos (keywordEach [] X.env)).all (fun x => x.1.isSome) && decide ([e].length + ([] : List Keyword).length + (if ([] : List Keyword).isEmpty then 0 else 1) < 30)) = true := by rfl) : PDE X W (.Call (.Attribute o "join" apos) [e] [] cpos) (dMtT "str" gJoin de da) :=
  de_bm PySem.F.plainAttrs_str PySem.F.slot_str_join PySem.F.type_str_join mt_join md_join ho ha hbase hfew hline hs (by rfl)
end

open PySem L2

/-! ### a list that a name holds, changed by its methods -/
def LM (r : V → List V → Hp → VK → Prop) (g : List D → List D → (D → List D → Prop) → Prop) : Prop := ∀ F H p xs es vs ds (Q : D → List D → Prop) (k : VK), Same F H → H p = some (.lst xs) → Reps F xs es → Reps F vs ds → g es ds Q →
  (∀ v d ys es', Reps F ys es' → Rep F v d → Q d es' → k v (upd H p (.lst ys))) → r (.ref p) vs H k
def lAppend : List D → List D → (D → List D → Prop) → Prop := fun es ds Q => match ds with
  | [d] => es.length < sizeLine ∧ Q .none (es ++ [d])
  | _ => False
def lInsert : List D → List D → (D → List D → Prop) → Prop := fun es ds Q => match ds with
  | [.int i, d] => (es.length < sizeLine ∧ 0 ≤ i ∧ i < 2 ^ 63) ∧ Q .none (es.take i.toNat ++ [d] ++ es.drop i.toNat)
  | _ => False
def lPop : List D → List D → (D → List D → Prop) → Prop := fun es ds Q => match ds with
  | [] => match es[es.length - 1]? with
    | some z => Q z es.dropLast
    | none => False
  | [.int i] => (-(2 ^ 63) ≤ i ∧ i < 2 ^ 63) ∧ match seqIndex? i es.length with
    | some j => match es[j]? with
      | some z => Q z (es.eraseIdx j)
      | none => False
    | none => False
  | _ => False
def lReverse : List D → List D → (D → List D → Prop) → Prop := fun es ds Q => match ds with
  | [] => Q .none es.reverse
  | _ => False
def lClear : List D → List D → (D → List D → Prop) → Prop := fun _ ds Q => match ds with
  | [] => Q .none []
  | _ => False
def lExtend : List D → List D → (D → List D → Prop) → Prop := fun es ds Q => match ds with
  | [.list zs] => es.length + zs.length ≤ sizeLine ∧ Q .none (es ++ zs)
  | _ => False
theorem lm_append : LM rAppend lAppend := by
  intro F H p xs es vs ds Q k s hp r1 r2 h q
  unfold lAppend at h
  split at h
  · obtain ⟨v, rfl, r3⟩ := reps1 r2
    exact ⟨p, xs, v, rfl, rfl, hp, by rw [r1.length]; exact h.1, q _ _ _ _ (r1.append (.cons r3 .nil)) .non h.2⟩
  · exact h.elim
theorem lm_insert : LM (fun x vs H Q => ∃ (l : Addr) (xs : List V) (i : Int) (y : V), x = .ref l ∧ vs = [.int i, y] ∧ H l = some (.lst xs) ∧ xs.length < sizeLine ∧ 0 ≤ i ∧ i < 2 ^ 63 ∧
    Q .non (upd H l (.lst (xs.take i.toNat ++ [y] ++ xs.drop i.toNat)))) lInsert := by
  intro F H p xs es vs ds Q k s hp r1 r2 h q
  unfold lInsert at h
  split at h
  · obtain ⟨v, v', rfl, r3, r4⟩ := reps2 r2
    cases r3.int_of
    exact ⟨p, xs, _, v', rfl, rfl, hp, by rw [r1.length]; exact h.1.1, h.1.2.1, h.1.2.2, q _ _ _ _ (((r1.take _).append (.cons r4 .nil)).append (r1.drop _)) .non h.2⟩
  · exact h.elim
theorem Reps.dropLast {F : Hp} {vs : List V} {ds : List D} (r : Reps F vs ds) : Reps F vs.dropLast ds.dropLast := by
  rw [List.dropLast_eq_take, List.dropLast_eq_take, r.length]
  exact r.take _
theorem lm_pop : LM rPop (fun es ds Q => match ds with
  | [] => match es[es.length - 1]? with
    | some z => Q z es.dropLast
    | none => False
  | _ => False) := by
  intro F H p xs es vs ds Q k s hp r1 r2 h q
  split at h
  · split at h
    · next z e1 =>
      cases r2.nil_of
      obtain ⟨v, e2, r3⟩ := r1.get e1
      exact ⟨p, xs, v, rfl, rfl, hp, by rw [r1.length]; exact e2, q _ _ _ _ r1.dropLast r3 h⟩
    · exact h.elim
  · exact h.elim
theorem lm_popAt : LM rPopAt (fun es ds Q => match ds with
  | [.int i] => (-(2 ^ 63) ≤ i ∧ i < 2 ^ 63) ∧ match seqIndex? i es.length with
    | some j => match es[j]? with
      | some z => Q z (es.eraseIdx j)
      | none => False
    | none => False
  | _ => False) := by
  intro F H p xs es vs ds Q k s hp r1 r2 h q
  split at h
  · obtain ⟨h0, h⟩ := h
    split at h
    · next j e0 =>
      split at h
      · next z e1 =>
        obtain ⟨v0, rfl, r3⟩ := reps1 r2
        cases r3.int_of
        obtain ⟨v, e2, r4⟩ := r1.get e1
        exact ⟨p, xs, _, j, v, rfl, rfl, hp, h0.1, h0.2, by rw [r1.length]; exact e0, e2, q _ _ _ _ (r1.eraseIdx j) r4 h⟩
      · exact h.elim
    · exact h.elim
  · exact h.elim
theorem lm_reverse : LM rReverse lReverse := by
  intro F H p xs es vs ds Q k s hp r1 r2 h q
  unfold lReverse at h
  split at h
  · cases r2.nil_of
    exact ⟨p, xs, rfl, rfl, hp, q _ _ _ _ r1.reverse .non h⟩
  · exact h.elim
theorem lm_clear : LM rClear lClear := by
  intro F H p xs es vs ds Q k s hp r1 r2 h q
  unfold lClear at h
  split at h
  · cases r2.nil_of
    exact ⟨p, xs, rfl, rfl, hp, q _ _ _ _ .nil .non h⟩
  · exact h.elim
theorem lm_extend : LM rExtend lExtend := by
  intro F H p xs es vs ds Q k s hp r1 r2 h q
  unfold lExtend at h
  split at h
  · obtain ⟨v, rfl, r3⟩ := reps1 r2
    obtain ⟨b, zs, rfl, h1, h2⟩ := rep_lstH s r3
    exact ⟨p, b, xs, zs, rfl, rfl, hp, h1, by rw [r1.length, h2.length]; exact h.1, q _ _ _ _ (r1.append h2) .non h.2⟩
  · exact h.elim
/-- x.m(..), x a name that holds a list -/
def dLM (i : Nat) (g : List D → List D → (D → List D → Prop) → Prop) (da : DA) : DE := fun ρ Q => (∃ s es, ρ[i]? = some s ∧ s.cell = some (.l es)) ∧ da ρ fun ds ρ1 => ∃ s es, ρ1[i]? = some s ∧ s.cell = some (.l es) ∧ g es ds fun d es' => Q d (ρ1.set i (s.put (.l es')))
section
variable {X : Cx} {W : Ent} {e o a b : Expr} {es : List Expr} {de db dA : DE} {da : DA} {pos p apos cpos : Pos} {x y name : Str} {id : String} {i : Nat}
theorem cell_upd {F H : Hp} {σ τ : L2.St} {ρ ε : Rho} {s : Slot} {es : List D} (R : At W F H σ τ ρ ε) (hs : ρ[i]? = some s) (hc : s.cell = some (.l es)) : ∃ q xs, σ[i]? = some (some (.ref q)) ∧ H q = some (.lst xs) ∧ Reps F xs es ∧ F q = none ∧
    ∀ ys es', Reps F ys es' → At W F (upd H q (.lst ys)) σ τ (ρ.set i (s.put (.l es'))) ε := by
  obtain ⟨v, fp, g1, ⟨q, xs, rfl, e2, e3, e4⟩, g3, mk⟩ := R.cell hs hc
  refine ⟨q, xs, g1, e3, e4, g3 q (by rw [e2]; exact List.mem_cons_self), fun ys es' r => mk (.l es') _ fp (fun a o n h => by rw [upd_ne fun z => n (by rw [z, e2]; exact List.mem_cons_self)]; exact h) (fun a ha => .inl ha) (fun a ha => by
    rw [e2] at ha
    rw [List.mem_singleton.mp ha]; exact ⟨_, upd_same⟩) ⟨q, ys, rfl, e2, upd_same, r⟩⟩
theorem de_lm {r : V → List V → Hp → VK → Prop} {g : List D → List D → (D → List D → Prop) → Prop} (slot : PySem.Slot "list" name id) (hty : typeOf (.builtin id) = pure (.type "method_descriptor")) (hm : MtR X id r) (hd : LM r g) (hy : PE X o (tVar i)) (ha : PDA X W (e :: es) da)
    (hbase : attributeBase o name X.env (eval o X.env) = eval o X.env := by rfl)
    (hfew : ((backTo cpos (starEach (e :: es) X.env)).all (fun x => !x.1) && (backToKw cpos (keywordEach [] X.env)).all (fun x => x.1.isSome)
      && decide ((e :: es).length + ([] : List Keyword).length + (if ([] : List Keyword).isEmpty then 0 else 1) < 30)) = true := by rfl)
    (hline : (apos.endLine == cpos.line) = true := by rfl) (hs : starEach (e :: es) X.env = (false, eval e X.env) :: starEach es X.env := by rfl) (hplain : (backTo cpos (starEach es X.env)).any (·.1) = false := by rfl) :
    PDE X W (.Call (.Attribute o name apos) (e :: es) [] cpos) (dLM i g da) := by
  obtain ⟨ta, a1, a2⟩ := ha.ex
  refine ⟨_, pe_bm PySem.F.plainAttrs_list slot hty hm hy a1 hbase hfew hline hs hplain, fun F H σ τ ρ ε Q k R h q => ?_⟩
  obtain ⟨⟨s, es0, hs0, hc0⟩, h⟩ := h
  obtain ⟨p0, xs0, g1, g2, _⟩ := cell_upd R hs0 hc0
  refine ⟨_, g1, .inl ⟨rfl, xs0, SqL.of g2⟩, a2 F H σ τ ρ ε _ _ R h fun F1 H1 ρ1 vs ds R1 s1 r1 h1 => ?_⟩
  obtain ⟨s, es1, hs1, hc1, h1⟩ := h1
  obtain ⟨p1, xs1, k1, k2, k3, _, mk⟩ := cell_upd R1 hs1 hc1
  rw [g1] at k1
  cases k1
  exact hd F1 H1 p0 xs1 es1 vs ds _ k R1.ex k2 k3 r1 h1 fun v d ys es' ry rd hq => q F1 _ _ v d (mk ys es' ry) s1 rd hq
theorem de_lm0 {r : V → List V → Hp → VK → Prop} {g : List D → List D → (D → List D → Prop) → Prop} (slot : PySem.Slot "list" name id) (hty : typeOf (.builtin id) = pure (.type "method_descriptor")) (hm : MtR X id r) (hd : LM r g) (hy : PE X o (tVar i))
    (hbase : attributeBase o name X.env (eval o X.env) = eval o X.env := by rfl) (hline : (apos.endLine == cpos.line) = true := by rfl) :
    PDE X W (.Call (.Attribute o name apos) [] [] cpos) (dLM i g dNil) := by
  refine ⟨_, pe_bm0 PySem.F.plainAttrs_list slot hty hm hy hbase hline, fun F H σ τ ρ ε Q k R h q => ?_⟩
  obtain ⟨_, s, es1, hs1, hc1, h1⟩ := h
  obtain ⟨p1, xs1, k1, k2, k3, _, mk⟩ := cell_upd R hs1 hc1
  exact ⟨_, k1, .inl ⟨rfl, xs1, SqL.of k2⟩, hd F H p1 xs1 es1 [] [] _ k R.ex k2 k3 .nil h1 fun v d ys es' ry rd hq => q F _ _ v d (mk ys es' ry) (Same.refl _) rd hq⟩
/-- x[k] = e, x a name that holds a list -/
def dSetIx (i : Nat) (dk dv : DE) : DS := fun D ρ => dv ρ fun d ρ1 => (∃ s es, ρ1[i]? = some s ∧ s.cell = some (.l es)) ∧ dk ρ1 fun y ρ2 => ∃ s es j, ρ2[i]? = some s ∧ s.cell = some (.l es) ∧ (match y with
  | .int z => ixN es.length z = some j
  | _ => False) ∧ D.nx (ρ2.set i (s.put (.l (es.set j d))))
theorem ds_setIx {k : Expr} {py : Pos} (hy : PE X (.Name y py) (tVar i)) (hk : PDE X W k dA) (hv : PDE X W e de)
    (ha : ∀ v, assign (.Subscript (.Name y py) k pos) X.env v = (do
      let ov ← holding [v] (eval (.Name y py) X.env)
      let iv ← holding [v, ov] (eval k X.env)
      standAt pos
      holding [v, ov, iv] (setItem ov iv v)
      release [v, ov, iv] []) := by intro _; rfl) (hs : swapsWithSole [.Subscript (.Name y py) k pos] e p.line X.env = pure false := by rfl) (hw : swappedStores [.Subscript (.Name y py) k pos] e X.env = pure none := by rfl)
    (h1 : (assignEach [.Subscript (.Name y py) k pos] X.env).map (·.2) = [assign (.Subscript (.Name y py) k pos) X.env] := by rfl) : PDS X W (.Assign [.Subscript (.Name y py) k pos] e p) (dSetIx i dA de) := by
  obtain ⟨tv, b1, b2⟩ := hv.ex
  obtain ⟨tk, c1, c2⟩ := hk.ex
  refine ⟨_, ps_asg b1 (pg_sub hy c1 set_list ha) hs hw h1, fun F H σ ρ D DD R L h => b2 F H σ [] ρ [] _ _ R h fun F1 H1 ρ1 v d R1 s1 r1 h1 => ?_⟩
  obtain ⟨⟨s, es0, hs0, hc0⟩, h1⟩ := h1
  obtain ⟨p0, xs0, g1, _⟩ := cell_upd R1 hs0 hc0
  refine ⟨_, g1, c2 F1 H1 σ [] ρ1 [] _ _ R1 h1 fun F2 H2 ρ2 w y R2 s2 r2 h2 => ?_⟩
  obtain ⟨s, es1, j, hs1, hc1, hj, h2⟩ := h2
  obtain ⟨p1, xs1, k1, k2, k3, _, mk⟩ := cell_upd R2 hs1 hc1
  rw [g1] at k1
  cases k1
  split at hj
  · cases r2.int_of
    exact ⟨p0, xs1, _, j, rfl, rfl, k2, by rw [k3.length]; exact hj, L.nx F2 _ σ _ (mk _ _ (k3.set (r1.mono s2) j)) (s1.trans s2) h2⟩
  · exact hj.elim

/-! ### reading a held list, the list kept -/
def scalarD : D → Bool
  | .list _ | .tuple _ | .dict _ => false
  | _ => true
theorem rep_scalar {F F' : Hp} {v : V} {d : D} (h : scalarD d = true) (r : Rep F v d) : Rep F' v d := by
  cases r with
  | non => exact .non
  | bl b => exact .bl b
  | int i => exact .int i
  | str x => exact .str x
  | _ => cases h
theorem At.view {F H : Hp} {σ τ : L2.St} {ρ ε : Rho} {s : Slot} {es : List D} (R : At W F H σ τ ρ ε) (hs : ρ[i]? = some s) (hc : s.cell = some (.l es)) : ∃ v F', σ[i]? = some (some v) ∧ Same F' H ∧ Same F F' ∧ Rep F' v (.list es) := by
  obtain ⟨q, xs, g1, g2, g3, g4, _⟩ := cell_upd R hs hc
  refine ⟨_, upd F q (.lst xs), g1, fun a o h => ?_, fun a o h => ?_, .lst upd_same (g3.mono fun a o h => ?_)⟩
  · by_cases z : a = q
    · subst z; rw [upd_same] at h; rw [g2]; exact h
    · rw [upd_ne z] at h; exact R.ex a o h
  · rw [upd_ne (ne_of_none h g4)]; exact h
  · rw [upd_ne (ne_of_none h g4)]; exact h
theorem At.grow {F H H' : Hp} {σ τ : L2.St} {ρ ε : Rho} (R : At W F H σ τ ρ ε) (e : Same H H') : At W F H' σ τ ρ ε := R.ext ⟨Same.refl _, e, R.ex.trans e, fun a o h => .inl h⟩
/-- the second operand is a held list; the answer holds none of it -/
def dOp2 (g : G2) (da : DE) (i : Nat) : DE := fun ρ Q => da ρ fun d ρ1 => ∃ s es, ρ1[i]? = some s ∧ s.cell = some (.l es) ∧ g d (.list es) fun z => scalarD z = true ∧ Q z ρ1
def dOp1 (g : G2) (i : Nat) (db : DE) : DE := fun ρ Q => (∃ s es, ρ[i]? = some s ∧ s.cell = some (.l es)) ∧ db ρ fun d ρ1 => ∃ s es, ρ1[i]? = some s ∧ s.cell = some (.l es) ∧ g (.list es) d fun z => scalarD z = true ∧ Q z ρ1
theorem snd_op2 {r : R2} {g : G2} {ta : TE} (ho : OpD r g) (ha : SndE W ta dA) : SndE W (tOp r ta (tVar i)) (dOp2 g dA i) := by
  intro F H σ τ ρ ε Q k R h q
  refine ha F H σ τ ρ ε _ _ R h fun F1 H1 ρ1 x d R1 s1 r1 h1 => ?_
  obtain ⟨s, es, hs, hc, h1⟩ := h1
  obtain ⟨v, F', g1, g2, g3, g4⟩ := R1.view hs hc
  exact ⟨v, g1, ho F' H1 x v d _ _ k g2 (r1.mono g3) g4 h1 fun F2 H2 w z ex rz hz => q F1 H2 ρ1 w z (R1.grow ex.hH) s1 (rep_scalar hz.1 rz) hz.2⟩
theorem snd_op1 {r : R2} {g : G2} {tb : TE} (ho : OpD r g) (hb : SndE W tb db) : SndE W (tOp r (tVar i) tb) (dOp1 g i db) := by
  intro F H σ τ ρ ε Q k R h q
  obtain ⟨⟨s, es, hs, hc⟩, h⟩ := h
  obtain ⟨p0, xs0, g1, _⟩ := cell_upd R hs hc
  refine ⟨_, g1, hb F H σ τ ρ ε _ _ R h fun F1 H1 ρ1 x d R1 s1 r1 h1 => ?_⟩
  obtain ⟨s, es, hs, hc, h1⟩ := h1
  obtain ⟨v, F', k1, g2, g3, g4⟩ := R1.view hs hc
  rw [g1] at k1
  cases k1
  exact ho F' H1 _ x _ d _ k g2 g4 (r1.mono g3) h1 fun F2 H2 w z ex rz hz => q F1 H2 ρ1 w z (R1.grow ex.hH) s1 (rep_scalar hz.1 rz) hz.2
theorem de_eqV (hu : X.A.units + 64 < cLine) (ha : PE X a (tVar i)) (hb : PDE X W b db) : PDE X W (.Compare a [.Eq] [b] pos) (dOp1 gEq i db) := by
  obtain ⟨tb, b1, b2⟩ := hb.ex
  exact ⟨_, pe_cmpR (or_eq hu) ha b1 (nobehind _ (by decide) (by decide)), snd_op1 od_eq b2⟩
theorem de_neV (hu : X.A.units + 64 < cLine) (ha : PE X a (tVar i)) (hb : PDE X W b db) : PDE X W (.Compare a [.NotEq] [b] pos) (dOp1 gNe i db) := by
  obtain ⟨tb, b1, b2⟩ := hb.ex
  exact ⟨_, pe_cmpR (or_ne hu) ha b1 (nobehind _ (by decide) (by decide)), snd_op1 od_ne b2⟩
theorem dt_eqV (hu : X.A.units + 64 < cLine) (ha : PE X a (tVar i)) (hb : PDE X W b db) : PDT X W (.Compare a [.Eq] [b] pos) (dTest (dOp1 gEq i db)) := by
  obtain ⟨tb, b1, b2⟩ := hb.ex
  exact ⟨_, pt_cmpR (or_eq hu) ha b1 (nobehind _ (by decide) (by decide)), snd_test (snd_op1 od_eq b2)⟩
theorem dt_inV (hu : X.A.units + 64 < cLine) (ha : PDE X W a dA) (hb : PE X b (tVar i)) (hm : behindInMarks .In b = false := by rfl) : PDT X W (.Compare a [.In] [b] pos) (dTest (dOp2 (gIn fun k => k) dA i)) := by
  obtain ⟨ta, b1, b2⟩ := ha.ex
  exact ⟨_, pt_cmpR (or_in hu) b1 hb hm, snd_test (snd_op2 od_in b2)⟩
theorem dt_notInV (hu : X.A.units + 64 < cLine) (ha : PDE X W a dA) (hb : PE X b (tVar i)) (hm : behindInMarks .NotIn b = false := by rfl) : PDT X W (.Compare a [.NotIn] [b] pos) (dTest (dOp2 (gIn fun k => !k) dA i)) := by
  obtain ⟨ta, b1, b2⟩ := ha.ex
  exact ⟨_, pt_cmpR (or_notIn hu) b1 hb hm, snd_test (snd_op2 od_in b2)⟩
/-- len(x), x a name that holds a list -/
def dLenV (i : Nat) : DE := fun ρ Q => ∃ s es, ρ[i]? = some s ∧ s.cell = some (.l es) ∧ Q (.int es.length) ρ
theorem de_lenV (hg : Gl X "len") (hm : X.mg "len" = none) (hy : PE X e (tVar i)) (he : starEach [e] X.env = (false, eval e X.env) :: starEach [] X.env := by rfl) : PDE X W (.Call (.Name "len" p) [e] [] pos) (dLenV i) := by
  refine ⟨_, pe_callB call_len hg hm PySem.boot_len (pa_cons hy pa_nil he) (by decide) (by decide) he (by rfl), fun F H σ τ ρ ε Q k R h q => ?_⟩
  obtain ⟨s, es, hs, hc, h⟩ := h
  obtain ⟨p0, xs0, g1, g2, g3, _⟩ := cell_upd R hs hc
  exact ⟨_, g1, _, _, rfl, .inl ⟨xs0, SqL.of g2, g3.length.symm⟩, q F H ρ _ _ R (Same.refl _) (.int _) h⟩
/-- x[k], x a name that holds a list -/
def dIxV (i : Nat) (db : DE) : DE := fun ρ Q => (∃ s es, ρ[i]? = some s ∧ s.cell = some (.l es)) ∧ db ρ fun y ρ1 => ∃ s es z, ρ1[i]? = some s ∧ s.cell = some (.l es) ∧ (match y with
  | .int j => L2.atI es j = some z
  | _ => False) ∧ Q z ρ1
theorem de_ixV (ha : PE X a (tVar i)) (hb : PDE X W b db) (hs : PlainIx b := by intro _ _; rfl) : PDE X W (.Subscript a b pos) (dIxV i db) := by
  obtain ⟨tb, b1, b2⟩ := hb.ex
  refine ⟨_, pe_ix ix_list ha b1 hs, fun F H σ τ ρ ε Q k R h q => ?_⟩
  obtain ⟨⟨s, es, hs, hc⟩, h⟩ := h
  obtain ⟨p0, xs0, g1, _⟩ := cell_upd R hs hc
  refine ⟨_, g1, b2 F H σ τ ρ ε _ _ R h fun F1 H1 ρ1 x y R1 s1 r1 h1 => ?_⟩
  obtain ⟨s, es, z, hs, hc, hy, h1⟩ := h1
  obtain ⟨p1, xs1, k1, k2, k3, _⟩ := cell_upd R1 hs hc
  rw [g1] at k1
  cases k1
  split at hy
  · cases r1.int_of
    obtain ⟨v, e1, rv⟩ := k3.atI hy
    exact ⟨p0, xs1, _, v, rfl, rfl, SqL.of k2, e1, q F1 H1 ρ1 v z R1 s1 rv h1⟩
  · exact hy.elim
/-- x[lo:hi], x a name that holds a list: a new list -/
def dSlV (i : Nat) (dl dh : DO) : DN := fun ρ Q => (∃ s es, ρ[i]? = some s ∧ s.cell = some (.l es)) ∧ dl ρ fun lo ρ1 => dh ρ1 fun hi ρ2 => ∃ s es, ρ2[i]? = some s ∧ s.cell = some (.l es) ∧ Q (.l (cutX es lo hi)) ρ2
theorem dn_slV {lo hi : Option Expr} {p2 : Pos} {dl dh : DO} (ha : PE X a (tVar i)) (hl : PDO X W lo dl) (hh : PDO X W hi dh) : PDN X W (.Subscript a (.Slice lo hi none p2) pos) (dSlV i dl dh) := by
  obtain ⟨tl, b1, b2⟩ := hl.ex
  obtain ⟨th, c1, c2⟩ := hh.ex
  refine ⟨_, pe_slice sl_list ha b1 c1, fun F H σ τ ρ ε Q k R h q => ?_⟩
  obtain ⟨⟨s, es, hs, hc⟩, h⟩ := h
  obtain ⟨p0, xs0, g1, _⟩ := cell_upd R hs hc
  refine ⟨_, g1, b2 F H σ τ ρ ε _ _ R h fun F1 H1 ρ1 lo R1 s1 h1 => c2 F1 H1 σ τ ρ1 ε _ _ R1 h1 fun F2 H2 ρ2 hi R2 s2 h2 => ?_⟩
  obtain ⟨s, es, hs, hc, h2⟩ := h2
  obtain ⟨p1, xs1, k1, k2, k3, _⟩ := cell_upd R2 hs hc
  rw [g1] at k1
  cases k1
  exact ⟨p0, xs1, rfl, SqL.of k2, fun np hn => q F2 _ ρ2 _ (.l _) (R2.new hn ⟨np, _, rfl, rfl, upd_same, k3.cut lo hi⟩) (s1.trans s2) h2⟩
/-- a slice of frozen data as a new list that is held -/
def dSlN (de : DE) (dl dh : DO) : DN := fun ρ Q => de ρ fun d ρ1 => dl ρ1 fun lo ρ2 => dh ρ2 fun hi ρ3 => match d with
  | .list ds => Q (.l (cutX ds lo hi)) ρ3
  | _ => False
theorem dn_sl {lo hi : Option Expr} {p2 : Pos} {dl dh : DO} (he : PDE X W e de) (hl : PDO X W lo dl) (hh : PDO X W hi dh) : PDN X W (.Subscript e (.Slice lo hi none p2) pos) (dSlN de dl dh) := by
  obtain ⟨te, a1, a2⟩ := he.ex
  obtain ⟨tl, b1, b2⟩ := hl.ex
  obtain ⟨th, c1, c2⟩ := hh.ex
  refine ⟨_, pe_slice sl_list a1 b1 c1, fun F H σ τ ρ ε Q k R h q => a2 F H σ τ ρ ε _ _ R h fun F0 H0 ρ0 x d R0 s0 r0 h0 => b2 F0 H0 σ τ ρ0 ε _ _ R0 h0 fun F1 H1 ρ1 lo R1 s1 h1 => c2 F1 H1 σ τ ρ1 ε _ _ R1 h1 fun F2 H2 ρ2 hi R2 s2 h2 => ?_⟩
  split at h2
  · obtain ⟨pp, vs, rfl, g1, g2⟩ := rep_lstH R2.ex (r0.mono (s1.trans s2))
    exact ⟨pp, vs, rfl, SqL.of g1, fun np hn => q F2 _ ρ2 _ (.l _) (R2.new hn ⟨np, _, rfl, rfl, upd_same, g2.cut lo hi⟩) ((s0.trans s1).trans s2) h2⟩
  · exact h2.elim
end

open PySem L2

/-! ### dicts by their pairs -/
section
variable {κ α : Type} [DecidableEq κ]
def valX (kvs : List (κ × α)) (k : κ) : Option α := (kvs.find? fun kv => decide (kv.1 = k)).map (·.2)
def putX (kvs : List (κ × α)) (k : κ) (v : α) : List (κ × α) :=
  if (kvs.any fun kv => decide (kv.1 = k)) = true then kvs.map (fun kv => if kv.1 = k then (kv.1, v) else kv) else kvs ++ [(k, v)]
theorem valX_nil {k : κ} : valX ([] : List (κ × α)) k = none := rfl
theorem valX_pos {p : κ × α} {r : List (κ × α)} {k : κ} (e : p.1 = k) : valX (p :: r) k = some p.2 := by simp [valX, List.find?_cons, e]
theorem valX_neg {p : κ × α} {r : List (κ × α)} {k : κ} (e : ¬ p.1 = k) : valX (p :: r) k = valX r k := by simp [valX, List.find?_cons, e]
theorem valX_any (k : κ) : ∀ kvs : List (κ × α), (kvs.any fun kv => decide (kv.1 = k)) = (valX kvs k).isSome
  | [] => rfl
  | p :: r => by
    rw [List.any_cons]
    by_cases e : p.1 = k
    · simp only [valX_pos e, decide_eq_true e, Bool.true_or, Option.isSome_some]
    · rw [valX_neg e, decide_eq_false e, Bool.false_or]; exact valX_any k r
theorem putX_new {kvs : List (κ × α)} {k : κ} (v : α) (h : valX kvs k = none) : putX kvs k v = kvs ++ [(k, v)] := by
  unfold putX
  rw [valX_any, h]
  exact if_neg (by simp)
theorem valX_none {kvs : List (κ × α)} {k : κ} : valX kvs k = none ↔ k ∉ kvs.map (·.1) := by
  induction kvs with
  | nil => simp [valX]
  | cons p r ih =>
    by_cases e : p.1 = k
    · rw [valX_pos e]
      simp [e]
    · rw [valX_neg e, ih]
      simp only [List.map_cons, List.mem_cons, not_or]
      exact ⟨fun h => ⟨fun z => e z.symm, h⟩, fun h => h.2⟩
theorem valX_snoc (k j : κ) (y : α) (kvs : List (κ × α)) (hn : valX kvs k = none) : valX (kvs ++ [(k, y)]) j = if j = k then some y else valX kvs j := by
  induction kvs with
  | nil =>
    by_cases e : k = j
    · rw [if_pos e.symm]; exact valX_pos (p := (k, y)) e
    · rw [if_neg (fun z => e z.symm)]; exact valX_neg (p := (k, y)) e
  | cons p r ih =>
    rw [List.cons_append]
    have hk : ¬ p.1 = k := fun z => by rw [valX_pos z] at hn; cases hn
    rw [valX_neg hk] at hn
    by_cases e : p.1 = j
    · rw [valX_pos e, valX_pos e, if_neg fun z => hk (e.trans z)]
    · rw [valX_neg e, valX_neg e, ih hn]
/-- values and data by the same keys -/
theorem valX_rep {F : Hp} {k : κ} : ∀ {kvs : List (κ × V)} {ks : List (κ × D)}, kvs.map (·.1) = ks.map (·.1) → Reps F (kvs.map (·.2)) (ks.map (·.2)) → (valX ks k = none → valV kvs k = none) ∧ ∀ z, valX ks k = some z → ∃ v, valV kvs k = some v ∧ Rep F v z
  | [], [], _, _ => ⟨fun _ => rfl, fun z e => by cases e⟩
  | [], _ :: _, e, _ => by cases e
  | _ :: _, [], e, _ => by cases e
  | p :: kvs, q :: ks, e, r => by
    rw [List.map_cons, List.map_cons] at e
    injection e with e1 e2
    rw [List.map_cons, List.map_cons] at r
    obtain ⟨v', ws, e3, r1, r2⟩ := r.cons_of
    injection e3 with e4 e5
    subst e5
    obtain ⟨i1, i2⟩ := valX_rep (k := k) e2 r2
    by_cases h : q.1 = k
    · have h' : p.1 = k := e1.trans h
      refine ⟨fun z => ?_, fun z hz => ?_⟩
      · rw [valX_pos h] at z; cases z
      · rw [valX_pos h] at hz
        cases hz
        exact ⟨p.2, valV_pos h', by rw [e4]; exact r1⟩
    · have h' : ¬ p.1 = k := fun z => h (e1.symm.trans z)
      refine ⟨fun z => ?_, fun z hz => ?_⟩
      · rw [valX_neg h] at z
        rw [valV_neg h']; exact i1 z
      · rw [valX_neg h] at hz
        rw [valV_neg h']; exact i2 z hz
theorem any_rep {k : κ} {α β : Type} : ∀ {kvs : List (κ × α)} {ks : List (κ × β)}, kvs.map (·.1) = ks.map (·.1) → (kvs.any fun kv => decide (kv.1 = k)) = ks.any fun kv => decide (kv.1 = k)
  | [], [], _ => rfl
  | [], _ :: _, e => by cases e
  | _ :: _, [], e => by cases e
  | p :: kvs, q :: ks, e => by
    rw [List.map_cons, List.map_cons] at e
    injection e with e1 e2
    rw [List.any_cons, List.any_cons, e1, any_rep e2]
theorem put_rep {F : Hp} {k : κ} {v : V} {d : D} {kvs : List (κ × V)} {ks : List (κ × D)} (e : kvs.map (·.1) = ks.map (·.1)) (r : Reps F (kvs.map (·.2)) (ks.map (·.2))) (rv : Rep F v d) : (putK kvs k v).map (·.1) = (putX ks k d).map (·.1) ∧ Reps F ((putK kvs k v).map (·.2)) ((putX ks k d).map (·.2)) := by
  unfold putK putX
  rw [any_rep (k := k) e]
  by_cases h : (ks.any fun kv => decide (kv.1 = k)) = true
  · rw [if_pos h, if_pos h]
    clear h
    induction kvs generalizing ks with
    | nil =>
      cases ks with
      | nil => exact ⟨rfl, .nil⟩
      | cons q ks => cases e
    | cons p kvs ih =>
      cases ks with
      | nil => cases e
      | cons q ks =>
        rw [List.map_cons, List.map_cons] at e
        injection e with e1 e2
        rw [List.map_cons, List.map_cons] at r
        obtain ⟨v', ws, e3, r1, r2⟩ := r.cons_of
        injection e3 with e4 e5
        subst e5
        obtain ⟨i1, i2⟩ := ih e2 r2
        have e1 : p.1 = q.1 := e1
        by_cases z : q.1 = k
        · have z' : p.1 = k := e1.trans z
          simp only [List.map_cons, if_pos z, if_pos z']
          exact ⟨by rw [e1, i1], .cons rv i2⟩
        · have z' : ¬ p.1 = k := fun y => z (e1.symm.trans y)
          simp only [List.map_cons, if_neg z, if_neg z']
          exact ⟨by rw [e1, i1], .cons (by rw [e4]; exact r1) i2⟩
  · rw [if_neg h, if_neg h]
    rw [List.map_append, List.map_append, e, List.map_append, List.map_append]
    exact ⟨rfl, r.append (.cons rv .nil)⟩
end

/-! ### inversions -/
theorem keyD_inj {a b : Key} (h : keyD a = keyD b) : a = b := by
  cases a with
  | inl i =>
    cases b with
    | inl j =>
      have h : PyData.int i = PyData.int j := h
      injection h with h
      rw [h]
    | inr y => cases (show PyData.int i = PyData.str y from h)
  | inr x =>
    cases b with
    | inl j => cases (show PyData.str x = PyData.int j from h)
    | inr y =>
      have h : PyData.str x = PyData.str y := h
      injection h with h
      rw [h]
theorem keysD_inj {a b : List Key} (h : keysD a = keysD b) : a = b := by
  unfold keysD at h
  injection h with h
  exact map_inj_of (fun _ _ => keyD_inj) h
theorem Rep.dk_of {F : Hp} {v : V} {ks : List (Key × D)} (h : Rep F v (dkD ks)) : ∃ a kvs, v = .ref a ∧ F a = some (.dK kvs) ∧ kvs.map (·.1) = ks.map (·.1) ∧ Reps F (kvs.map (·.2)) (ks.map (·.2)) := by
  generalize hd : dkD ks = d at h
  cases h with
  | dk h1 h2 =>
    rename_i a kvs ds
    unfold dkD at hd
    injection hd with hd
    injection hd with _ hd
    have hl : ((kvs.map (·.1)).map keyD).length = ds.length := by rw [← h2.length, List.length_map, List.length_map, List.length_map]
    have e1 := congrArg (List.map (·.1)) hd
    have e2 := congrArg (List.map (·.2)) hd
    rw [zip_fst _ _ hl, List.map_map] at e1
    rw [zip_snd _ _ hl, List.map_map] at e2
    have e3 : (ks.map (·.1)).map keyD = (kvs.map (·.1)).map keyD := by rw [List.map_map]; exact e1
    have e4 : ks.map (·.2) = ds := e2
    exact ⟨a, kvs, rfl, h1, (map_inj_of (fun _ _ => keyD_inj) e3).symm, by rw [e4]; exact h2⟩
  | dt h1 h2 =>
    unfold dkD at hd
    injection hd with hd
    injection hd with e1 _
    cases congrArg Prod.fst e1
  | ob h1 h2 h3 =>
    unfold dkD obD at hd
    injection hd with hd
    injection hd with e1 _
    cases congrArg Prod.fst e1
  | _ => cases hd
theorem Rep.dt_of {F : Hp} {v : V} {ks : List (List Key × D)} (h : Rep F v (dtD ks)) : ∃ a kvs, v = .ref a ∧ F a = some (.dT kvs) ∧ kvs.map (·.1) = ks.map (·.1) ∧ Reps F (kvs.map (·.2)) (ks.map (·.2)) := by
  generalize hd : dtD ks = d at h
  cases h with
  | dt h1 h2 =>
    rename_i a kvs ds
    unfold dtD at hd
    injection hd with hd
    injection hd with _ hd
    have hl : ((kvs.map (·.1)).map keysD).length = ds.length := by rw [← h2.length, List.length_map, List.length_map, List.length_map]
    have e1 := congrArg (List.map (·.1)) hd
    have e2 := congrArg (List.map (·.2)) hd
    rw [zip_fst _ _ hl, List.map_map] at e1
    rw [zip_snd _ _ hl, List.map_map] at e2
    have e3 : (ks.map (·.1)).map keysD = (kvs.map (·.1)).map keysD := by rw [List.map_map]; exact e1
    have e4 : ks.map (·.2) = ds := e2
    exact ⟨a, kvs, rfl, h1, (map_inj_of (fun _ _ => keysD_inj) e3).symm, by rw [e4]; exact h2⟩
  | dk h1 h2 =>
    unfold dtD at hd
    injection hd with hd
    injection hd with e1 _
    cases congrArg Prod.fst e1
  | ob h1 h2 h3 =>
    unfold dtD obD at hd
    injection hd with hd
    injection hd with e1 _
    cases congrArg Prod.fst e1
  | _ => cases hd

/-! ### reading a dict: its kind is told by its keys -/
inductive DLook : D → D → Option D → Prop
  | k (kvs : List (Key × D)) (k : Key) : DLook (dkD kvs) (keyD k) (valX kvs k)
  | t (kvs : List (List Key × D)) (k : List Key) : DLook (dtD kvs) (keysD k) (valX kvs k)
theorem Rep.keyD_of {F : Hp} {v : V} {k : Key} (h : Rep F v (keyD k)) : v = kV k := by
  cases k with
  | inl i => exact Rep.int_of h
  | inr x => exact Rep.str_of h
theorem Rep.keysD_of {F : Hp} {v : V} {k : List Key} (h : Rep F v (keysD k)) : ∃ a, v = .ref a ∧ F a = some (.tup (k.map kV)) := by
  obtain ⟨a, xs, rfl, h1, h2⟩ := Rep.tup_of (ds := k.map keyD) h
  refine ⟨a, rfl, ?_⟩
  have e : ∀ {k : List Key} {xs : List V}, Reps F xs (k.map keyD) → xs = k.map kV := fun {k} => by
    induction k with
    | nil => intro xs h; exact h.nil_of
    | cons q k ih =>
      intro xs h
      obtain ⟨v, ws, rfl, r1, r2⟩ := Reps.cons_of (d := keyD q) (ds := k.map keyD) h
      rw [r1.keyD_of, ih r2]
      rfl
  rw [h1, e h2]
theorem look_get {F H : Hp} {x y : V} {d e : D} {o : Option D} (s : Same F H) (rx : Rep F x d) (ry : Rep F y e) (h : DLook d e o) : ∃ a, x = .ref a ∧ IsD H a ∧ ∃ ov, DGet H a y ov ∧ (o = none → ov = none) ∧ ∀ z, o = some z → ∃ v, ov = some v ∧ Rep F v z := by
  cases h with
  | k kvs k =>
    obtain ⟨a, kv, rfl, h1, h2, h3⟩ := rx.dk_of
    obtain ⟨i1, i2⟩ := valX_rep (k := k) h2 h3
    rw [ry.keyD_of]
    exact ⟨a, rfl, .inl ⟨kv, .inl (s _ _ h1)⟩, _, DGet.k (s _ _ h1), i1, i2⟩
  | t kvs k =>
    obtain ⟨a, kv, rfl, h1, h2, h3⟩ := rx.dt_of
    obtain ⟨i1, i2⟩ := valX_rep (k := k) h2 h3
    obtain ⟨b, rfl, h4⟩ := ry.keysD_of
    exact ⟨a, rfl, .inr ⟨kv, .inl (s _ _ h1)⟩, _, DGet.t (s _ _ h1) (s _ _ h4), i1, i2⟩
def dDGet (dd dy : DE) : DE := fun ρ Q => dd ρ fun d ρ1 => dy ρ1 fun y ρ2 => ∃ z, DLook d y (some z) ∧ Q z ρ2
def dDIn (f : Bool → Bool) (dy dd : DE) : DE := fun ρ Q => dy ρ fun y ρ1 => dd ρ1 fun d ρ2 => ∃ o, DLook d y o ∧ Q (.bool (f o.isSome)) ρ2
def dDGet2 (dd dy dz : DE) : DE := fun ρ Q => dd ρ fun d ρ1 => (∃ y o, DLook d y o) ∧ dy ρ1 fun y ρ2 => dz ρ2 fun z ρ3 => ∃ o, DLook d y o ∧ Q (o.getD z) ρ3
section
variable {X : Cx} {W : Ent} {e o i f : Expr} {dd dy dz dv : DE} {pos pos' apos cpos : Pos} {td ty tx : TE}
theorem snd_dget (h1 : SndE W td dd) (h2 : SndE W ty dy) : SndE W (tDGet td ty) (dDGet dd dy) := fun F H σ τ ρ ε Q k R h q => h1 F H σ τ ρ ε _ _ R h fun F1 H1 ρ1 x d R1 s1 r1 h1 => h2 F1 H1 σ τ ρ1 ε _ _ R1 h1 fun F2 H2 ρ2 y e R2 s2 r2 h2 => by
  obtain ⟨z, hl, h2⟩ := h2
  obtain ⟨a, rfl, _, ov, g1, _, g3⟩ := look_get R2.ex (r1.mono s2) r2 hl
  obtain ⟨v, rfl, rv⟩ := g3 z rfl
  exact ⟨a, v, rfl, g1, q F2 H2 ρ2 v z R2 (s1.trans s2) rv h2⟩
theorem de_dget (hu : X.A.units + 1 < cLine) (ho : PDE X W o dd) (hi : PDE X W i dy) (hs : NoSl i := by intro _ _; rfl) : PDE X W (.Subscript o i pos) (dDGet dd dy) := by
  obtain ⟨t1, a1, a2⟩ := ho.ex
  obtain ⟨t2, b1, b2⟩ := hi.ex
  exact ⟨_, pe_dget hu a1 b1 hs, snd_dget a2 b2⟩
theorem snd_din (h1 : SndE W ty dy) (h2 : SndE W td dd) : SndE W (tDIn ty td) (dDIn (fun k => k) dy dd) ∧ SndE W (tDNotIn ty td) (dDIn (fun k => !k) dy dd) := by
  refine ⟨fun F H σ τ ρ ε Q k R h q => h1 F H σ τ ρ ε _ _ R h fun F1 H1 ρ1 y e R1 s1 r1 h1 => h2 F1 H1 σ τ ρ1 ε _ _ R1 h1 fun F2 H2 ρ2 x d R2 s2 r2 h2 => ?_, fun F H σ τ ρ ε Q k R h q => h1 F H σ τ ρ ε _ _ R h fun F1 H1 ρ1 y e R1 s1 r1 h1 => h2 F1 H1 σ τ ρ1 ε _ _ R1 h1 fun F2 H2 ρ2 x d R2 s2 r2 h2 => ?_⟩
  all_goals
    obtain ⟨o, hl, h2⟩ := h2
    obtain ⟨a, rfl, _, ov, g1, g2, g3⟩ := look_get R2.ex r2 (r1.mono s2) hl
    have e : ov.isSome = o.isSome := by
      cases o with
      | none =>
        rw [g2 rfl]
        rfl
      | some z => obtain ⟨v, rfl, _⟩ := g3 z rfl; rfl
    refine ⟨a, ov, rfl, g1, ?_⟩
    rw [e]
    exact q F2 H2 ρ2 _ _ R2 (s1.trans s2) (.bl _) h2
theorem de_din (hu : X.A.units + 1 < cLine) (hi : PDE X W i dy) (ho : PDE X W o dd) (hm : behindInMarks .In o = false := by rfl) : PDE X W (.Compare i [.In] [o] pos) (dDIn (fun k => k) dy dd) := by
  obtain ⟨t1, a1, a2⟩ := ho.ex
  obtain ⟨t2, b1, b2⟩ := hi.ex
  exact ⟨_, pe_cmp (pc_din hu b1 a1) hm, (snd_din b2 a2).1⟩
theorem dt_din (hu : X.A.units + 1 < cLine) (hi : PDE X W i dy) (ho : PDE X W o dd) (hm : behindInMarks .In o = false := by rfl) : PDT X W (.Compare i [.In] [o] pos) (dTest (dDIn (fun k => k) dy dd)) := by
  obtain ⟨t1, a1, a2⟩ := ho.ex
  obtain ⟨t2, b1, b2⟩ := hi.ex
  exact ⟨_, pt_cmp (pc_din hu b1 a1) hm, snd_B (snd_din b2 a2).1⟩
theorem dt_dnotin (hu : X.A.units + 1 < cLine) (hi : PDE X W i dy) (ho : PDE X W o dd) (hm : behindInMarks .NotIn o = false := by rfl) : PDT X W (.Compare i [.NotIn] [o] pos) (dTest (dDIn (fun k => !k) dy dd)) := by
  obtain ⟨t1, a1, a2⟩ := ho.ex
  obtain ⟨t2, b1, b2⟩ := hi.ex
  exact ⟨_, pt_cmp (pc_dnotin hu b1 a1) hm, snd_B (snd_din b2 a2).2⟩
theorem look_isD {F H : Hp} {x : V} {d y : D} {o : Option D} (s : Same F H) (rx : Rep F x d) (h : DLook d y o) : ∃ a, x = .ref a ∧ IsD H a := by
  cases h with
  | k kvs k =>
    obtain ⟨a, kv, rfl, h1, _⟩ := rx.dk_of
    exact ⟨a, rfl, .inl ⟨kv, .inl (s _ _ h1)⟩⟩
  | t kvs k =>
    obtain ⟨a, kv, rfl, h1, _⟩ := rx.dt_of
    exact ⟨a, rfl, .inr ⟨kv, .inl (s _ _ h1)⟩⟩
theorem de_dget2 (hu : X.A.units + 1 < cLine) (ho : PDE X W o dd) (he : PDE X W e dy) (hf : PDE X W f dz) (m : M2 X o "get" apos e f cpos := by exact ⟨rfl, rfl, rfl, rfl⟩) : PDE X W (.Call (.Attribute o "get" apos) [e, f] [] cpos) (dDGet2 dd dy dz) := by
  obtain ⟨t1, a1, a2⟩ := ho.ex
  obtain ⟨t2, b1, b2⟩ := he.ex
  obtain ⟨t3, c1, c2⟩ := hf.ex
  refine ⟨_, pe_dget2 hu a1 b1 c1 m, fun F H σ τ ρ ε Q k R h q => a2 F H σ τ ρ ε _ _ R h fun F1 H1 ρ1 x d R1 s1 r1 h1 => ?_⟩
  obtain ⟨⟨y0, o0, hl0⟩, h1⟩ := h1
  obtain ⟨a, rfl, isd⟩ := look_isD R1.ex r1 hl0
  refine ⟨a, rfl, isd, b2 F1 H1 σ τ ρ1 ε _ _ R1 h1 fun F2 H2 ρ2 y e R2 s2 r2 h2 => c2 F2 H2 σ τ ρ2 ε _ _ R2 h2 fun F3 H3 ρ3 z g R3 s3 r3 h3 => ?_⟩
  obtain ⟨o, hl, h3⟩ := h3
  obtain ⟨a', e1, _, ov, g1, g2, g3⟩ := look_get R3.ex (r1.mono (s2.trans s3)) (r2.mono s3) hl
  cases e1
  refine ⟨ov, g1, ?_⟩
  have s13 := (s1.trans s2).trans s3
  cases o with
  | none =>
    rw [g2 rfl]
    exact q F3 H3 ρ3 z g R3 s13 r3 h3
  | some w =>
    obtain ⟨v, rfl, rv⟩ := g3 w rfl
    exact q F3 H3 ρ3 v w R3 s13 rv h3
/-! ### a dict that a name holds -/
def dDPut (x : Nat) (dy dv : DE) : DS := fun D ρ => dv ρ fun d ρ1 => (∃ s c, ρ1[x]? = some s ∧ s.cell = some c) ∧ dy ρ1 fun y ρ2 => ∃ s, ρ2[x]? = some s ∧ ((∃ kvs k, s.cell = some (.dk kvs) ∧ y = keyD k ∧ kvs.length < sizeLine ∧ D.nx (ρ2.set x (s.put (.dk (putX kvs k d))))) ∨
  (∃ kvs k, s.cell = some (.dt kvs) ∧ y = keysD k ∧ kvs.length < sizeLine ∧ D.nx (ρ2.set x (s.put (.dt (putX kvs k d))))))
theorem ds_dput {x : Nat} {value : Expr} {hy : Expr} (hu : X.A.units + 1 < cLine) (ho : PE X o (tVar x)) (hi : PDE X W i dy) (hv : PDE X W value dv) (hs : swapsWith value (some (.Subscript o i pos')) pos.line X.env = pure false := by rfl) : PDS X W (.Assign [.Subscript o i pos'] value pos) (dDPut x dy dv) := by
  obtain ⟨t1, a1, a2⟩ := hv.ex
  obtain ⟨t2, b1, b2⟩ := hi.ex
  refine ⟨_, ps_dput hu ho b1 a1 hs, fun F H σ ρ D DD R L h => a2 F H σ [] ρ [] _ _ R h fun F1 H1 ρ1 v d R1 s1 r1 h1 => ?_⟩
  obtain ⟨⟨s0, c0, hs0, hc0⟩, h1⟩ := h1
  obtain ⟨v0, _, g1, _⟩ := R1.cell hs0 hc0
  refine ⟨v0, g1, b2 F1 H1 σ [] ρ1 [] _ _ R1 h1 fun F2 H2 ρ2 w y R2 s2 r2 h2 => ?_⟩
  obtain ⟨s, hs', h2⟩ := h2
  rcases h2 with ⟨kvs, k, hc, rfl, hl, h2⟩ | ⟨kvs, k, hc, rfl, hl, h2⟩
  · obtain ⟨v1, fp, k1, ⟨p, kv, rfl, e2, e3, e4, e5⟩, k3, mk⟩ := R2.cell hs' hc
    rw [g1] at k1
    cases k1
    obtain ⟨q1, q2⟩ := put_rep (k := k) e4 e5 (r1.mono s2)
    have hlen : kv.length < sizeLine := by have := congrArg List.length e4; rw [List.length_map, List.length_map] at this; omega
    rw [r2.keyD_of]
    refine ⟨p, _, rfl, DPut.k e3 hlen, L.nx F2 _ σ _ (mk (.dk (putX kvs k d)) _ fp (fun a o n h => by rw [upd_ne fun z => n (by rw [z, e2]; exact List.mem_cons_self)]; exact h) (fun a ha => .inl ha) (fun a ha => ?_) ⟨p, _, rfl, e2, upd_same, q1, q2⟩) (s1.trans s2) h2⟩
    rw [e2] at ha
    rw [List.mem_singleton.mp ha]; exact ⟨_, upd_same⟩
  · obtain ⟨v1, fp, k1, ⟨p, kv, rfl, e2, e3, e4, e5⟩, k3, mk⟩ := R2.cell hs' hc
    rw [g1] at k1
    cases k1
    obtain ⟨q1, q2⟩ := put_rep (k := k) e4 e5 (r1.mono s2)
    have hlen : kv.length < sizeLine := by have := congrArg List.length e4; rw [List.length_map, List.length_map] at this; omega
    obtain ⟨b, rfl, h4⟩ := r2.keysD_of
    refine ⟨p, _, rfl, DPut.t e3 (R2.ex _ _ h4) hlen, L.nx F2 _ σ _ (mk (.dt (putX kvs k d)) _ fp (fun a o n h => by rw [upd_ne fun z => n (by rw [z, e2]; exact List.mem_cons_self)]; exact h) (fun a ha => .inl ha) (fun a ha => ?_) ⟨p, _, rfl, e2, upd_same, q1, q2⟩) (s1.trans s2) h2⟩
    rw [e2] at ha
    rw [List.mem_singleton.mp ha]; exact ⟨_, upd_same⟩
/-- k in x, x a name that holds a dict -/
inductive CLook : Cell → D → Option D → Prop
  | k (kvs : List (Key × D)) (k : Key) : CLook (.dk kvs) (keyD k) (valX kvs k)
  | t (kvs : List (List Key × D)) (k : List Key) : CLook (.dt kvs) (keysD k) (valX kvs k)
theorem clook_get {F H : Hp} {x y : V} {fp : List Addr} {c : Cell} {e : D} {o : Option D} (s : Same F H) (hc : CellAt F H x fp c) (ry : Rep F y e) (h : CLook c e o) : ∃ a, x = .ref a ∧ IsD H a ∧ ∃ ov, DGet H a y ov ∧ (o = none → ov = none) ∧ ∀ z, o = some z → ∃ v, ov = some v ∧ Rep F v z := by
  cases h with
  | k kvs k =>
    obtain ⟨a, kv, rfl, _, h1, h2, h3⟩ := hc
    obtain ⟨i1, i2⟩ := valX_rep (k := k) h2 h3
    rw [ry.keyD_of]
    exact ⟨a, rfl, .inl ⟨kv, .inl h1⟩, _, DGet.k h1, i1, i2⟩
  | t kvs k =>
    obtain ⟨a, kv, rfl, _, h1, h2, h3⟩ := hc
    obtain ⟨i1, i2⟩ := valX_rep (k := k) h2 h3
    obtain ⟨b, rfl, h4⟩ := ry.keysD_of
    exact ⟨a, rfl, .inr ⟨kv, .inl h1⟩, _, DGet.t h1 (s _ _ h4), i1, i2⟩
def dDInV (f : Bool → Bool) (dy : DE) (x : Nat) : DE := fun ρ Q => dy ρ fun y ρ1 => ∃ s c o, ρ1[x]? = some s ∧ s.cell = some c ∧ CLook c y o ∧ Q (.bool (f o.isSome)) ρ1
theorem snd_dinV {x : Nat} (h1 : SndE W ty dy) : SndE W (tDIn ty (tVar x)) (dDInV (fun k => k) dy x) ∧ SndE W (tDNotIn ty (tVar x)) (dDInV (fun k => !k) dy x) := by
  refine ⟨fun F H σ τ ρ ε Q k R h q => h1 F H σ τ ρ ε _ _ R h fun F1 H1 ρ1 y e R1 s1 r1 h1 => ?_, fun F H σ τ ρ ε Q k R h q => h1 F H σ τ ρ ε _ _ R h fun F1 H1 ρ1 y e R1 s1 r1 h1 => ?_⟩
  all_goals
    obtain ⟨s, c, o, hs, hc, hl, h2⟩ := h1
    obtain ⟨v0, fp, g0, gc, _⟩ := R1.cell hs hc
    obtain ⟨a, rfl, _, ov, g1, g2, g3⟩ := clook_get R1.ex gc r1 hl
    have e : ov.isSome = o.isSome := by
      cases o with
      | none =>
        rw [g2 rfl]
        rfl
      | some z => obtain ⟨v, rfl, _⟩ := g3 z rfl; rfl
    refine ⟨_, g0, a, ov, rfl, g1, ?_⟩
    rw [e]
    exact q F1 H1 ρ1 _ _ R1 s1 (.bl _) h2
theorem dt_dinV {x : Nat} (hu : X.A.units + 1 < cLine) (hi : PDE X W i dy) (ho : PE X o (tVar x)) (hm : behindInMarks .In o = false := by rfl) : PDT X W (.Compare i [.In] [o] pos) (dTest (dDInV (fun k => k) dy x)) := by
  obtain ⟨t2, b1, b2⟩ := hi.ex
  exact ⟨_, pt_cmp (pc_din hu b1 ho) hm, snd_B (snd_dinV b2).1⟩
theorem dt_dnotinV {x : Nat} (hu : X.A.units + 1 < cLine) (hi : PDE X W i dy) (ho : PE X o (tVar x)) (hm : behindInMarks .NotIn o = false := by rfl) : PDT X W (.Compare i [.NotIn] [o] pos) (dTest (dDInV (fun k => !k) dy x)) := by
  obtain ⟨t2, b1, b2⟩ := hi.ex
  exact ⟨_, pt_cmp (pc_dnotin hu b1 ho) hm, snd_B (snd_dinV b2).2⟩
/-- x[k], x a name that holds a dict -/
def dDGetV (x : Nat) (dy : DE) : DE := fun ρ Q => (∃ s c, ρ[x]? = some s ∧ s.cell = some c) ∧ dy ρ fun y ρ1 => ∃ s c z, ρ1[x]? = some s ∧ s.cell = some c ∧ CLook c y (some z) ∧ Q z ρ1
theorem de_dgetV {x : Nat} (hu : X.A.units + 1 < cLine) (ho : PE X o (tVar x)) (hi : PDE X W i dy) (hs : NoSl i := by intro _ _; rfl) : PDE X W (.Subscript o i pos) (dDGetV x dy) := by
  obtain ⟨t2, b1, b2⟩ := hi.ex
  refine ⟨_, pe_dget hu ho b1 hs, fun F H σ τ ρ ε Q k R h q => ?_⟩
  obtain ⟨⟨s0, c0, hs0, hc0⟩, h⟩ := h
  obtain ⟨v0, _, g0, _⟩ := R.cell hs0 hc0
  refine ⟨v0, g0, b2 F H σ τ ρ ε _ _ R h fun F1 H1 ρ1 y e R1 s1 r1 h1 => ?_⟩
  obtain ⟨s, c, z, hs, hc, hl, h2⟩ := h1
  obtain ⟨v1, fp, g1, gc, _⟩ := R1.cell hs hc
  rw [g0] at g1
  cases g1
  obtain ⟨a, rfl, _, ov, g1, g2, g3⟩ := clook_get R1.ex gc r1 hl
  obtain ⟨v, rfl, rv⟩ := g3 z rfl
  exact ⟨a, v, rfl, g1, q F1 H1 ρ1 v z R1 s1 rv h2⟩
end

open PySem L2

/-! ### great ints; a text said over -/
def repS (x : Str) (n : Nat) : Str := ⟨(List.replicate n x.cps.toList).flatten.toArray⟩
theorem repS_fold (x : Str) (n : Nat) : (⟨(List.replicate n x.cps).foldl (· ++ ·) #[]⟩ : Str) = repS x n := by
  have key : ∀ (n : Nat) (acc : Array Nat), ((List.replicate n x.cps).foldl (· ++ ·) acc).toList = acc.toList ++ (List.replicate n x.cps.toList).flatten := fun n => by
    induction n with
    | zero => intro acc; simp
    | succ n ih =>
      intro acc
      rw [List.replicate_succ, List.foldl_cons, ih, List.replicate_succ, List.flatten_cons, Array.toList_append, List.append_assoc]
  unfold repS
  congr 1
  apply Array.toList_inj.mp
  rw [key]
  rfl
theorem repS_len (x : Str) (n : Nat) : (repS x n).length = n * x.length := by
  show ((List.replicate n x.cps.toList).flatten.toArray).size = n * x.cps.size
  rw [List.size_toArray]
  have key : ∀ (n : Nat), ((List.replicate n x.cps.toList).flatten).length = n * x.cps.size := fun n => by
    induction n with
    | zero => simp
    | succ n ih => rw [List.replicate_succ, List.flatten_cons, List.length_append, ih, Array.length_toList, Nat.succ_mul, Nat.add_comm]
  exact key n
def COKMul (i j : Int) : Prop := CMul i j ∨ CMulX i j
def CPowX (i j : Int) : Prop := 0 ≤ j ∧ (Builtin.Int.intBits i : Int) * j ≤ 134217728
theorem powx_ok {i : Int} {j n : Nat} (h : i.natAbs < 2 ^ n) (hn : n * j ≤ 134217728) : CPowX i (j : Int) := by
  have b := PyProof.Rows.intBits_le h
  refine ⟨Int.natCast_nonneg _, ?_⟩
  have : Builtin.Int.intBits i * j ≤ n * j := Nat.mul_le_mul_right _ b
  have h2 : ((Builtin.Int.intBits i * j : Nat) : Int) ≤ 134217728 := by omega
  rw [Int.natCast_mul] at h2
  exact h2
section
variable {X : Cx} {W : Ent} {e a b : Expr} {de db dA : DE} {pos : Pos}
theorem op_powX : OpR X (binaryOp .Pow) (rI CPowX fun i j => .int (i ^ j.toNat)) := by
  refine opI fun i j t u s Q E hc q => PyProof.Rows.pow_int hc.1 ?_ q
  have e : (2 : Int) ^ 27 = 134217728 := by decide
  rw [e]
  exact hc.2
theorem op_mulC : OpR X (binaryOp .Mult) (rI COKMul fun i j => .int (i * j)) := opI fun _ _ _ _ _ _ _ hc q => PyProof.Rows.mul_int q (hc.elim CMul.ok CMulX.ok)
theorem op_strMul : OpR X (binaryOp .Mult) (fun x y H Q => ∃ z n, x = .str z ∧ y = .int n ∧ (0 ≤ n ∧ n < 2 ^ 63 ∧ z.length * n.toNat ≤ sizeLine) ∧ Q (.str (repS z n.toNat)) H) := by
  intro pins s σ H x y v u Q I rx ry h
  obtain ⟨z, n, rfl, rfl, ⟨h0, h1, h2⟩, q⟩ := h
  obtain ⟨t, rfl⟩ := rx
  obtain ⟨t', rfl⟩ := ry
  have hs : sizeLine = 16777216 := sizeLine_eq
  refine PySem.P.mul_str (by
      rw [decide_eq_false (by omega), decide_eq_false (by omega)]; rfl) (fun hn _ => ?_) (fun hn _ => ?_) ?_
  · -- the length is far below the line
    have hn' : 1 ≤ n := by omega
    have hz : (z.length : Int) * n ≤ 16777216 := by
      have : ((z.length * n.toNat : Nat) : Int) ≤ 16777216 := by omega
      rw [Int.natCast_mul, Int.toNat_of_nonneg h0] at this
      exact this
    have : (z.length : Int) ≤ (2 ^ 63 - 1) / n := by
      rw [Int.le_ediv_iff_mul_le (by omega)]
      omega
    omega
  · unfold PySem.Builtin.Str.tooLong
    exact decide_eq_false (by omega)
  · by_cases c : n < 1
    · rw [if_pos c]
      have e : n.toNat = 0 := by omega
      rw [e] at q
      refine ⟨by decide, ?_⟩
      exact ⟨.str (repS z 0), H, I.tok _, ⟨_, rfl⟩, q⟩
    · rw [if_neg c]
      by_cases c2 : (n == 1 || z.length == 0) = true
      · rw [if_pos c2]
        have e : repS z n.toNat = z := by
          rw [Bool.or_eq_true] at c2
          rcases c2 with c2 | c2
          · have : n = 1 := by simpa using c2
            subst this
            unfold repS
            show Str.mk _ = z
            simp
          · have : z.length = 0 := by simpa using c2
            have hz : z.cps.toList = [] := List.eq_nil_of_length_eq_zero (by rw [Array.length_toList]; exact this)
            unfold repS
            rw [hz]
            have : (List.replicate n.toNat ([] : List Nat)).flatten = [] := by simp
            rw [this]
            obtain ⟨⟨l⟩⟩ := z
            have hz : l = [] := hz
            rw [hz]
        rw [e] at q
        exact ⟨.str z, H, I, ⟨_, rfl⟩, q⟩
      · rw [if_neg c2]
        rw [repS_fold]
        refine ⟨by rw [repS_len, Nat.mul_comm]; exact h2, ?_⟩
        exact ⟨.str _, H, I.tok _, ⟨_, rfl⟩, q⟩
def gMulA : G2
  | .int i, .int j, Q => COKMul i j ∧ Q (.int (i * j))
  | .list x, .int j, Q => (-(2 ^ 63) ≤ j ∧ j < 2 ^ 63 ∧ x.length * j.toNat ≤ sizeLine) ∧ Q (.list (List.replicate j.toNat x).flatten)
  | .str x, .int j, Q => (0 ≤ j ∧ j < 2 ^ 63 ∧ x.length * j.toNat ≤ sizeLine) ∧ Q (.str (repS x j.toNat))
  | _, _, _ => False
def rMulA : R2 := fun x y H Q => rI COKMul (fun i j => .int (i * j)) x y H Q ∨ (rRep x y H Q ∨ ∃ z n, x = .str z ∧ y = .int n ∧ (0 ≤ n ∧ n < 2 ^ 63 ∧ z.length * n.toNat ≤ sizeLine) ∧ Q (.str (repS z n.toNat)) H)
theorem od_mulA : OpD rMulA gMulA := by
  intro F H x y d e Q k s rx ry h q
  unfold gMulA at h
  split at h
  · cases rx.int_of; cases ry.int_of
    exact .inl ⟨_, _, rfl, rfl, h.1, ext_here s (.int _) h.2 q⟩
  · obtain ⟨p, xs, rfl, h1, h2⟩ := rep_lstH s rx
    cases ry.int_of
    refine .inr (.inl ⟨p, _, xs, rfl, rfl, h1, h.1.1, h.1.2.1, by rw [h2.length]; exact h.1.2.2, ?_⟩)
    exact ext_lst s (h2.rep _) h.2 q
  · cases rx.str_of; cases ry.int_of
    exact .inr (.inr ⟨_, _, rfl, rfl, h.1, ext_here s (.str _) h.2 q⟩)
  · exact h.elim
theorem de_mulA (ha : PDE X W a dA) (hb : PDE X W b db) : PDE X W (.BinOp a .Mult b pos) (dOp gMulA dA db) := de_op (OpR.or op_mulC (OpR.or op_rep op_strMul)) od_mulA ha hb
theorem de_fdivW (ha : PDE X W a dA) (hb : PDE X W b db) : PDE X W (.BinOp a .FloorDiv b pos) (dOp (gInt2 CDivW fun i j => .int (i / j)) dA db) := de_op op_fdivW (od_int2 fun _ _ _ => .int _) ha hb
theorem de_powX (ha : PDE X W a dA) (hb : PDE X W b db) : PDE X W (.BinOp a .Pow b pos) (dOp (gInt2 CPowX fun i j => .int (i ^ j.toNat)) dA db) := de_op op_powX (od_int2 fun _ _ _ => .int _) ha hb
/-- xs * k, a new list that is held -/
def dRepN (da db : DE) : DN := fun ρ Q => da ρ fun d ρ1 => db ρ1 fun y ρ2 => match d, y with
  | .list x, .int j => (-(2 ^ 63) ≤ j ∧ j < 2 ^ 63 ∧ x.length * j.toNat ≤ sizeLine) ∧ Q (.l (List.replicate j.toNat x).flatten) ρ2
  | _, _ => False
theorem dn_rep (ha : PDE X W a dA) (hb : PDE X W b db) : PDN X W (.BinOp a .Mult b pos) (dRepN dA db) := by
  obtain ⟨ta, a1, a2⟩ := ha.ex
  obtain ⟨tb, b1, b2⟩ := hb.ex
  refine ⟨_, pe_op op_rep a1 b1, fun F H σ τ ρ ε Q k R h q => a2 F H σ τ ρ ε _ _ R h fun F1 H1 ρ1 x d R1 s1 r1 h1 => b2 F1 H1 σ τ ρ1 ε _ _ R1 h1 fun F2 H2 ρ2 y e R2 s2 r2 h2 => ?_⟩
  split at h2
  · obtain ⟨p, xs, rfl, g1, g2⟩ := rep_lstH R2.ex (r1.mono s2)
    cases r2.int_of
    exact ⟨p, _, xs, rfl, rfl, g1, h2.1.1, h2.1.2.1, by rw [g2.length]; exact h2.1.2.2, fun np hn => q F2 _ ρ2 _ (.l _) (R2.new hn ⟨np, _, rfl, rfl, upd_same, g2.rep _⟩) (s1.trans s2) h2.2⟩
  · exact h2.elim
end

/-! ### enumerate, zip -/
def enumL : Nat → List D → List D
  | _, [] => []
  | n, d :: ds => .tuple [.int (n : Int), d] :: enumL (n + 1) ds
def zipL : List D → List D → List D
  | d :: ds, e :: es => .tuple [d, e] :: zipL ds es
  | _, _ => []
theorem enumL_len : ∀ (n : Nat) (ds : List D), (enumL n ds).length = ds.length
  | _, [] => rfl
  | n, d :: ds => by
    show (enumL (n + 1) ds).length + 1 = ds.length + 1
    rw [enumL_len]
theorem enumL_get : ∀ (n : Nat) (ds : List D) (i : Nat), (enumL n ds)[i]? = (ds[i]?).map fun d => .tuple [.int ((n + i : Nat) : Int), d]
  | _, [], _ => rfl
  | n, d :: ds, 0 => rfl
  | n, d :: ds, i + 1 => by
    show (enumL (n + 1) ds)[i]? = (ds[i]?).map _
    rw [enumL_get (n + 1) ds i, show n + 1 + i = n + (i + 1) by omega]
theorem zipL_get : ∀ (ds es : List D) (i : Nat) (z : D), (zipL ds es)[i]? = some z → ∃ d e, ds[i]? = some d ∧ es[i]? = some e ∧ z = .tuple [d, e]
  | d :: ds, e :: es, 0, z, h => ⟨d, e, rfl, rfl, (Option.some.inj h).symm⟩
  | d :: ds, e :: es, i + 1, z, h => zipL_get ds es i z h
  | [], _, _, _, h => by cases h
  | _ :: _, [], _, _, h => by cases h
theorem zipL_len : ∀ (ds es : List D), (zipL ds es).length = min ds.length es.length
  | d :: ds, e :: es => by
    show (zipL ds es).length + 1 = min (ds.length + 1) (es.length + 1)
    rw [zipL_len]; omega
  | [], es => by simp [zipL]
  | _ :: _, [] => by simp [zipL]
section
variable {X : Cx} {W : Ent} {e e2 : Expr} {da : DA} {pos p tpos : Pos} {elts : List Expr} {kk : Nat}
def diEnum (da : DA) : DI := fun ρ Q => da ρ fun ds ρ1 => match ds with
  | [.list xs] => Q (enumL 0 xs) ρ1
  | _ => False
theorem di_enum (hg : Gl X "enumerate") (hm : X.mg "enumerate" = none) (ha : PDA X W [e] da) (hs : starEach [e] X.env = [(false, eval e X.env)] := by rfl) : PDI X W (.Tuple elts kk tpos) (.Call (.Name "enumerate" p) [e] [] pos) (diEnum da) := by
  obtain ⟨a, a1, a2⟩ := ha.ex
  refine ⟨_, pi_enum hg hm a1 hs, fun F H σ τ ρ ε Q R At0 h q => a2 F H σ τ ρ ε _ _ At0 h fun F' H' ρ' vs ds R' s' r' h' => ?_⟩
  split at h'
  · obtain ⟨v, rfl, r1⟩ := reps1 r'
    obtain ⟨b, xs, rfl, h1, h2⟩ := r1.lst_of
    refine ⟨b, xs, rfl, SqL.of (R'.ex _ _ h1), q F' H' ρ' _ _ R' s' (fun i F2 H2 s2 sH => ?_) h'⟩
    have hH := SqL.of (K := X.K) (sH _ _ (s2 _ _ h1))
    refine ⟨fun d hd => ?_, fun hl => ⟨xs, hH, by rw [enumL_len] at hl; rw [h2.length]; exact hl⟩⟩
    rw [enumL_get] at hd
    cases e1 : (_ : List D)[i]? with
    | none => rw [e1] at hd; cases hd
    | some d0 =>
      rw [e1] at hd
      cases hd
      obtain ⟨v, g1, g2⟩ := h2.get e1
      refine ⟨⟨xs, v, hH, g1⟩, fun x H3 y => ?_⟩
      obtain ⟨T, x0, rfl, hT, rfl, hx⟩ := y
      have e2 := hx xs hH
      rw [g1] at e2
      cases e2
      have ex := Ext.new (o := .tup [V.int (i : Nat), v]) sH hT
      refine ⟨_, ex, .tup upd_same (.cons ?_ (.cons (g2.mono (s2.trans ex.fF)) .nil))⟩
      rw [Nat.zero_add]
      exact .int _
  · exact h'.elim
def diZip (da : DA) : DI := fun ρ Q => da ρ fun ds ρ1 => match ds with
  | [.list xs, .list ys] => Q (zipL xs ys) ρ1
  | _ => False
theorem di_zip (hg : Gl X "zip") (hm : X.mg "zip" = none) (ha : PDA X W [e, e2] da) (hs : starEach [e, e2] X.env = (false, eval e X.env) :: starEach [e2] X.env := by rfl) (hpl : (backTo pos (starEach [e2] X.env)).any (·.1) = false := by rfl) :
    PDI X W (.Tuple elts kk tpos) (.Call (.Name "zip" p) [e, e2] [] pos) (diZip da) := by
  obtain ⟨a, a1, a2⟩ := ha.ex
  refine ⟨_, pi_zip hg hm a1 hs hpl, fun F H σ τ ρ ε Q R At0 h q => a2 F H σ τ ρ ε _ _ At0 h fun F' H' ρ' vs ds R' s' r' h' => ?_⟩
  split at h'
  · next l1 l2 =>
    obtain ⟨v, v', rfl, r1, r2⟩ := reps2 r'
    obtain ⟨b, xs, rfl, h1, h2⟩ := r1.lst_of
    obtain ⟨c, ys, rfl, h3, h4⟩ := r2.lst_of
    refine ⟨b, c, xs, ys, rfl, SqL.of (R'.ex _ _ h1), SqL.of (R'.ex _ _ h3), q F' H' ρ' _ _ R' s' (fun i F2 H2 s2 sH => ?_) h'⟩
    have hH := SqL.of (K := X.K) (sH _ _ (s2 _ _ h1))
    have hH2 := SqL.of (K := X.K) (sH _ _ (s2 _ _ h3))
    refine ⟨fun d hd => ?_, fun hl => ⟨xs, ys, hH, hH2, ?_⟩⟩
    · obtain ⟨d1, d2, e1, e2, rfl⟩ := zipL_get _ _ _ _ hd
      obtain ⟨v1, g1, g2⟩ := h2.get e1
      obtain ⟨v2, g3, g4⟩ := h4.get e2
      refine ⟨⟨xs, ys, v1, v2, hH, hH2, g1, g3⟩, fun x H3 y => ?_⟩
      obtain ⟨T, x0, y0, rfl, hT, rfl, hx, hy⟩ := y
      have e3 := hx xs hH
      have e4 := hy ys hH2
      rw [g1] at e3
      rw [g3] at e4
      cases e3
      cases e4
      have ex := Ext.new (o := .tup [v1, v2]) sH hT
      exact ⟨_, ex, .tup upd_same (.cons (g2.mono (s2.trans ex.fF)) (.cons (g4.mono (s2.trans ex.fF)) .nil))⟩
    · rw [zipL_len, ← h2.length, ← h4.length] at hl
      omega
  · exact h'.elim

/-! ### isinstance of data, by built-in types -/
def tyName : D → Option String
  | .none => some "NoneType"
  | .bool _ => some "bool"
  | .int _ => some "int"
  | .str _ => some "str"
  | .list _ => some "list"
  | .tuple _ => some "tuple"
  | .dict _ => none
/-- whether a value of the type a is one of b -/
def isSub (a b : String) : Bool := a == b || (a == "bool" && b == "int")
def dIsi (T : String) (de : DE) : DE := fun ρ Q => de ρ fun d ρ1 => match tyName d with
  | some a => Q (.bool (isSub a T)) ρ1
  | none => False
theorem kit_all {K : PySem.W.Frag} {T : String} (hT : T = "bool" ∨ T = "int" ∨ T = "str" ∨ T = "list" ∨ T = "tuple") {d : D} {a : String} (h : tyName d = some a) : PySem.W.kitOne K (.type a) (.type T) = some (isSub a T) := by
  have : a = "NoneType" ∨ a = "bool" ∨ a = "int" ∨ a = "str" ∨ a = "list" ∨ a = "tuple" := by
    cases d <;> cases h <;> simp
  rcases this with rfl | rfl | rfl | rfl | rfl | rfl <;> rcases hT with rfl | rfl | rfl | rfl | rfl <;> exact kit_ty (by decide +kernel)
theorem tyX_of {K : PySem.W.Frag} {F H : Hp} {x : V} {d : D} {a : String} (s : Same F H) (r : Rep F x d) (h : tyName d = some a) : TyX K H x (.type a) := by
  cases r with
  | non => cases h; exact .base .non
  | bl b => cases h; exact .base (.bl b)
  | int i => cases h; exact .base (.int i)
  | str x => cases h; exact .base (.str x)
  | lst h1 _ => cases h; exact .base (.lst (s _ _ h1))
  | tup h1 _ => cases h; exact .base (.tup (s _ _ h1))
  | _ => cases h
theorem de_isi {T : String} {t : Str} {pt : Pos} (hT : T = "bool" ∨ T = "int" ∨ T = "str" ∨ T = "list" ∨ T = "tuple") (hg : Gl X "isinstance") (hm : X.mg "isinstance" = none) (hg2 : Gl X t) (hm2 : X.mg t = none) (hv : bootBuiltins t = some (.type T)) {de : DE} (ha : PDE X W e de)
    (hn : t ≠ "__name__" := by decide) (hd : (t == ("__debug__" : Str)) = false := by decide) (hs : starEach [e, .Name t pt] X.env = (false, eval e X.env) :: starEach [.Name t pt] X.env := by rfl) (hs2 : starEach [.Name t pt] X.env = (false, eval (.Name t pt) X.env) :: starEach [] X.env := by rfl)
    (hpl : (backTo pos (starEach [.Name t pt] X.env)).any (·.1) = false := by rfl) : PDE X W (.Call (.Name "isinstance" p) [e, .Name t pt] [] pos) (dIsi T de) := by
  obtain ⟨te, a1, a2⟩ := ha.ex
  have hb : PE X (.Name t pt) (tC (.ty T)) := pe_bltn hg2 hm2 hv rfl hn hd
  refine ⟨_, pe_callB call_isi hg hm (by decide +kernel) (pa_cons a1 (pa_cons hb pa_nil hs2) hs) (by decide) (by decide) hs hpl, fun F H σ τ ρ ε Q k R h q => a2 F H σ τ ρ ε _ _ R h fun F1 H1 ρ1 x d R1 s1 r1 h1 => ?_⟩
  split at h1
  · next a e1 =>
    exact ⟨x, .ty T, .type a, .type T, isSub a T, rfl, .ty T, tyX_of R1.ex r1 e1, kit_all hT e1, q F1 H1 ρ1 _ _ R1 s1 (.bl _) h1⟩
  · exact h1.elim
end

open PySem L2

/-- a nested list of ints (Cell.nl) by its inner list, the outer one at p -/
def XI (p : Addr) (gs rest : List Int) : XCell where
  rel := fun _ H v fp => ∃ q, v = .ref q ∧ fp = [p, q] ∧ p ≠ q ∧ H p = some (.lst (.ref q :: rest.map V.int)) ∧ H q = some (.lst (gs.map V.int))
  loc := by
    rintro F F' H H' v fp ⟨q, e1, e2, e3, h1, h2⟩ _ k
    exact ⟨q, e1, e2, e3, by rw [k p (by rw [e2]; simp)]; exact h1, by rw [k q (by rw [e2]; simp)]; exact h2⟩
  there := by
    rintro F H v fp ⟨q, e1, e2, e3, h1, h2⟩ a m
    rw [e2] at m
    rcases List.mem_cons.mp m with e | e
    · rw [e]; exact ⟨_, h1⟩
    · rw [List.mem_singleton.mp e]; exact ⟨_, h2⟩
section
variable {W : Ent} {F H : Hp} {σ τ : L2.St} {ρ ε : Rho} {i : Nat} {c c' : Cell} {v' : V}
/-- a cell by another value, on the same addresses -/
theorem At.revalue (R : At W F H σ τ ρ ε) (hs : ρ[i]? = some (.ow c)) (h : ∀ v fp, σ[i]? = some (some v) → CellAt F H v fp c → CellAt F H v' fp c') : At W F H (σ.set i (some v')) τ (ρ.set i (.ow c')) ε := by
  have hi := lt_of_get hs
  have hi' : i < σ.length := by rw [R.len]; exact hi
  obtain ⟨fp, o1, o2⟩ := R.rel.ow
  have hs' : (ρ ++ ε)[i]? = some (.ow c) := by rw [get_app hi]; exact hs
  have hL := R.rel.len
  have get : ∀ (j : Nat) (s1 : Slot), (ρ.set i (.ow c') ++ ε)[j]? = some s1 → (j = i ∧ s1 = .ow c') ∨ (j ≠ i ∧ (ρ ++ ε)[j]? = some s1 ∧ (σ.set i (some v') ++ τ)[j]? = (σ ++ τ)[j]?) := fun j s1 h => by
    by_cases z : j = i
    · subst z
      rw [get_app (by rw [List.length_set]; exact hi), List.getElem?_set_self hi] at h
      exact .inl ⟨rfl, (Option.some.inj h).symm⟩
    · refine .inr ⟨z, ?_, ?_⟩
      · rw [← List.set_append_left _ _ hi, List.getElem?_set_ne (fun e => z e.symm)] at h
        exact h
      · rw [← List.set_append_left _ _ hi', List.getElem?_set_ne (fun e => z e.symm)]
  have self : (σ.set i (some v') ++ τ)[i]? = some (some v') := by rw [get_app (by rw [List.length_set]; exact hi'), List.getElem?_set_self hi']
  -- a slot of the old walk for a slot of the new one
  have old : ∀ (j : Nat) (s1 : Slot) c1, (ρ.set i (.ow c') ++ ε)[j]? = some s1 → s1.cell = some c1 → ∃ s0 c0, (ρ ++ ε)[j]? = some s0 ∧ s0.cell = some c0 ∧ ∀ a, (W.H0 a = none ∨ (a ∈ W.own0 j ∧ ∃ z, s0 = .io z)) → (W.H0 a = none ∨ (a ∈ W.own0 j ∧ ∃ z, s1 = .io z)) := fun j s1 c1 hj hc => by
    rcases get j s1 hj with ⟨e, e2⟩ | ⟨_, q, _⟩
    · subst e; subst e2
      exact ⟨_, _, hs', rfl, fun a h => by
        rcases h with h | ⟨_, z, h⟩
        · exact .inl h
        · cases h⟩
    · exact ⟨s1, c1, q, hc, fun a h => h⟩
  refine ⟨by rw [List.length_set, List.length_set]; exact R.len, ⟨R.ex, by rw [List.length_append, List.length_append, List.length_set, List.length_set]; rw [List.length_append, List.length_append] at hL; exact hL, fun j d hj => ?_, fun j c1 hj => ?_, ⟨fp, fun j s1 c1 hj hc1 => ?_, fun j k s1 s2 c1 c2 hjk e1 e2 e3 e4 => ?_⟩, R.rel.fr, R.rel.st, R.rel.gr, R.rel.f0⟩, R.nio⟩
  · rcases get j _ hj with ⟨_, q⟩ | ⟨_, q, q3⟩
    · cases q
    · rw [q3]; exact R.rel.fz j d q
  · rcases get j _ hj with ⟨_, q⟩ | ⟨_, q, q3⟩
    · cases q
    · rw [q3]; exact R.rel.io j c1 q
  · obtain ⟨s0, c0, q1, q2, q3⟩ := old j s1 c1 hj hc1
    obtain ⟨h1, h2⟩ := o1 j s0 c0 q1 q2
    refine ⟨?_, fun a ha => ⟨(h2 a ha).1, q3 a (h2 a ha).2⟩⟩
    rcases get j _ hj with ⟨e, e2⟩ | ⟨_, q, e3⟩
    · subst e; subst e2; cases hc1
      rw [hs'] at q1
      cases q1; cases q2
      obtain ⟨v, g1, g2⟩ := h1
      rw [get_app hi'] at g1
      exact ⟨v', self, h v _ g1 g2⟩
    · rw [e3]
      rw [q] at q1
      cases q1
      rw [hc1] at q2
      cases q2
      exact h1
  · obtain ⟨s0, c0, q1, q2, _⟩ := old j s1 c1 e1 e2
    obtain ⟨s0', c0', r1, r2, _⟩ := old k s2 c2 e3 e4
    exact o2 j k s0 s0' c0 c0' hjk q1 q2 r1 r2
/-- what a name holds alone waits now, the name is empty -/
theorem At.takeOut {v : V} (R : At W F H σ τ ρ ε) (hs : ρ[i]? = some (.ow c)) (hv : σ[i]? = some (some v)) : At W F H σ (some v :: τ) (ρ.set i .no) (.ow c :: ε) := by
  have hi := lt_of_get hs
  have hl := R.len
  have hlt : τ.length = ε.length := by have := R.rel.len; rw [List.length_append, List.length_append] at this; omega
  have ll : (ρ.set i Slot.no).length = ρ.length := List.length_set
  have get : ∀ (j : Nat) s, (ρ.set i .no ++ (.ow c :: ε))[j]? = some s → (j = i ∧ s = .no) ∨ (j = ρ.length ∧ s = .ow c) ∨ (j ≠ i ∧ j < ρ.length ∧ ρ[j]? = some s) ∨ (ρ.length < j ∧ ε[j - 1 - ρ.length]? = some s) := fun j s hj => by
    by_cases y : j < ρ.length
    · rw [get_app (by rw [ll]; exact y)] at hj
      by_cases z : j = i
      · subst z
        rw [List.getElem?_set_self hi] at hj
        exact .inl ⟨rfl, (Option.some.inj hj).symm⟩
      · rw [List.getElem?_set_ne (fun e => z e.symm)] at hj
        exact .inr (.inr (.inl ⟨z, y, hj⟩))
    · rw [List.getElem?_append_right (by rw [ll]; omega), ll] at hj
      by_cases y2 : j = ρ.length
      · subst y2
        rw [Nat.sub_self] at hj
        exact .inr (.inl ⟨rfl, (Option.some.inj hj).symm⟩)
      · obtain ⟨m, hm⟩ : ∃ m, j - ρ.length = m + 1 := ⟨j - ρ.length - 1, by omega⟩
        rw [hm, List.getElem?_cons_succ] at hj
        exact .inr (.inr (.inr ⟨by omega, by rw [show j - 1 - ρ.length = m by omega]; exact hj⟩))
  let f : Nat → Nat := fun j => if j = ρ.length then i else if j < ρ.length then j else j - 1
  have fl : f ρ.length = i := if_pos rfl
  have fs : ∀ j, j < ρ.length → f j = j := fun j h => by
    show (if j = ρ.length then i else if j < ρ.length then j else j - 1) = j
    rw [if_neg (by omega), if_pos h]
  have fb : ∀ j, ρ.length < j → f j = j - 1 := fun j h => by
    show (if j = ρ.length then i else if j < ρ.length then j else j - 1) = j - 1
    rw [if_neg (by omega), if_neg (by omega)]
  refine R.remap (by rw [ll]; exact hl) (by rw [List.length_append, List.length_append, ll, List.length_cons, List.length_cons, hl, hlt]) f (fun j s hj => ?_) (fun j c' hj => ?_) (fun j k s1 s2 e1 e2 e3 e4 ef => ?_) (fun j c' hj => ?_)
  · rcases get j s hj with ⟨_, e⟩ | ⟨e, e2⟩ | ⟨e1, e2, e3⟩ | ⟨e1, e2⟩
    · exact .inl e
    · subst e; subst e2
      refine .inr ⟨_, ?_, rfl, ?_⟩
      · rw [fl, get_app hi]; exact hs
      · have a1 : (σ ++ (some v :: τ))[ρ.length]? = some (some v) := by
          rw [List.getElem?_append_right (by omega), ← hl, Nat.sub_self]; rfl
        have a2 : (σ ++ τ)[i]? = some (some v) := by rw [get_app (by rw [hl]; exact hi)]; exact hv
        rw [fl, a1, a2]
    · refine .inr ⟨s, ?_, rfl, ?_⟩
      · rw [fs j e2, get_app e2]; exact e3
      · rw [fs j e2, get_app (by rw [hl]; exact e2), get_app (by rw [hl]; exact e2)]
    · refine .inr ⟨s, ?_, rfl, ?_⟩
      · rw [fb j e1, List.getElem?_append_right (by omega)]; exact e2
      · obtain ⟨m, hm⟩ : ∃ m, j - σ.length = m + 1 := ⟨j - σ.length - 1, by omega⟩
        rw [fb j e1, List.getElem?_append_right (by omega), List.getElem?_append_right (by omega), hm, List.getElem?_cons_succ, show j - 1 - σ.length = m by omega]
  · rcases get j _ hj with ⟨_, e⟩ | ⟨_, e⟩ | ⟨e1, e2, e3⟩ | ⟨e1, e2⟩
    · cases e
    · cases e
    · exact fs j e2
    · exact absurd e2 (R.nio _ c')
  · rcases get j s1 e1 with ⟨_, e⟩ | ⟨e, e'⟩ | ⟨p1, p2, p3⟩ | ⟨p1, p2⟩
    · subst e; cases e3
    · rcases get k s2 e2 with ⟨_, g⟩ | ⟨g, _⟩ | ⟨q1, q2, q3⟩ | ⟨q1, q2⟩
      · subst g; cases e4
      · rw [e, g]
      · rw [e, fl, fs k q2] at ef; exact absurd ef.symm q1
      · rw [e, fl, fb k q1] at ef; omega
    · rcases get k s2 e2 with ⟨_, g⟩ | ⟨g, _⟩ | ⟨q1, q2, q3⟩ | ⟨q1, q2⟩
      · subst g; cases e4
      · rw [g, fl, fs j p2] at ef; exact absurd ef p1
      · rw [fs j p2, fs k q2] at ef; exact ef
      · rw [fs j p2, fb k q1] at ef; omega
    · rcases get k s2 e2 with ⟨_, g⟩ | ⟨g, _⟩ | ⟨q1, q2, q3⟩ | ⟨q1, q2⟩
      · subst g; cases e4
      · rw [g, fl, fb j p1] at ef; omega
      · rw [fb j p1, fs k q2] at ef; omega
      · rw [fb j p1, fb k q1] at ef; omega
  · cases j with
    | zero => cases hj
    | succ j => exact R.nio j c' (by rw [List.getElem?_cons_succ] at hj; exact hj)
end

open PySem L2

section
variable {X : Cx} {W : Ent} {e o a b : Expr} {es : List Expr} {de db dA : DE} {da : DA} {pos p p2 apos cpos : Pos} {x y name : Str} {id : String} {i : Nat}
theorem xn_here {F H : Hp} {σ τ : L2.St} {ρ ε : Rho} {s : Slot} {gs rest : List Int} (R : At W F H σ τ ρ ε) (hs : ρ[i]? = some s) (hc : s.cell = some (.nl gs rest)) : ∃ q r, σ[i]? = some (some (.ref q)) ∧ q ≠ r ∧ H q = some (.lst (.ref r :: rest.map V.int)) ∧ H r = some (.lst (gs.map V.int)) ∧ F r = none ∧
    (∀ ks, At W F (upd H q (.lst (.ref r :: ks.map V.int))) σ τ (ρ.set i (s.put (.nl gs ks))) ε) ∧ (∀ ks, At W F (upd H r (.lst (ks.map V.int))) σ τ (ρ.set i (s.put (.nl ks rest))) ε) := by
  obtain ⟨v, fp, g1, ⟨q, r, rfl, e2, e3, h1, h2⟩, g3, mk⟩ := R.cell hs hc
  have mq : q ∈ fp := by rw [e2]; exact List.mem_cons_self
  have mr : r ∈ fp := by rw [e2]; exact List.mem_cons_of_mem _ List.mem_cons_self
  refine ⟨q, r, g1, e3, h1, h2, g3 r mr, fun ks => ?_, fun ks => ?_⟩
  · refine mk _ _ fp (fun a o n h => by rw [upd_ne fun z => n (by rw [z]; exact mq)]; exact h) (fun a ha => .inl ha) (fun a ha => ?_) ⟨q, r, rfl, e2, e3, upd_same, by rw [upd_ne (Ne.symm e3)]; exact h2⟩
    rw [e2] at ha
    rcases List.mem_cons.mp ha with z | z
    · rw [z]; exact ⟨_, upd_same⟩
    · rw [List.mem_singleton.mp z, upd_ne (Ne.symm e3)]; exact ⟨_, h2⟩
  · refine mk _ _ fp (fun a o n h => by rw [upd_ne fun z => n (by rw [z]; exact mr)]; exact h) (fun a ha => .inl ha) (fun a ha => ?_) ⟨q, r, rfl, e2, e3, by rw [upd_ne e3]; exact h1, upd_same⟩
    rw [e2] at ha
    rcases List.mem_cons.mp ha with z | z
    · rw [z, upd_ne e3]; exact ⟨_, h1⟩
    · rw [List.mem_singleton.mp z]; exact ⟨_, upd_same⟩
theorem atI_nat {α : Type} {xs : List α} {k : Nat} {v : α} (h : xs[k]? = some v) : L2.atI xs (k : Int) = some v := by
  have hk := lt_of_get h
  unfold L2.atI L2.ixN
  rw [if_pos (Int.natCast_nonneg k), if_pos (by omega), Int.toNat_natCast]
  exact h
theorem ixN_nat {n k : Nat} (h : k < n) : L2.ixN n (k : Int) = some k := by
  unfold L2.ixN
  rw [if_pos (Int.natCast_nonneg k), if_pos (by omega), Int.toNat_natCast]
/-- x[k + 1], an int of it -/
def dXG (i k : Nat) : DE := fun ρ Q => ∃ s gs rest z, ρ[i]? = some s ∧ s.cell = some (.nl gs rest) ∧ rest[k]? = some z ∧ Q (.int z) ρ
theorem de_xg {j} (k : Nat) {z : Int} (ha : PE X a (tVar i)) (hz : z = ((k + 1 : Nat) : Int) := by rfl) : PDE X W (.Subscript a (.Constant (.int z) j p2) pos) (dXG i k) := by
  refine ⟨_, pe_ix ix_list ha pe_int (by intro _ _; rfl), fun F H σ τ ρ ε Q kk R h q => ?_⟩
  obtain ⟨s, gs, rest, n, hs, hc, hn, h⟩ := h
  obtain ⟨p0, r0, g1, g2, g3, g4, g5, _⟩ := xn_here R hs hc
  refine ⟨_, g1, p0, _, z, .int n, rfl, rfl, SqL.of g3, ?_, q F H ρ _ _ R (Same.refl _) (.int n) h⟩
  rw [hz]
  exact atI_nat (by rw [List.getElem?_cons_succ, List.getElem?_map, hn]; rfl)
/-- x[k + 1] = e -/
def dXS (i k : Nat) (de : DE) : DS := fun D ρ => de ρ fun d ρ1 => ∃ s gs rest, ρ1[i]? = some s ∧ s.cell = some (.nl gs rest) ∧ k < rest.length ∧ (match d with
  | .int z => D.nx (ρ1.set i (s.put (.nl gs (rest.set k z))))
  | _ => False)
theorem ds_xs {j} (k : Nat) {z : Int} {py : Pos} (hy : PE X (.Name y py) (tVar i)) (hv : PDE X W e de) (hz : z = ((k + 1 : Nat) : Int) := by rfl)
    (ha : ∀ v, assign (.Subscript (.Name y py) (.Constant (.int z) j p2) pos) X.env v = (do
      let ov ← holding [v] (eval (.Name y py) X.env)
      let iv ← holding [v, ov] (eval (.Constant (.int z) j p2) X.env)
      standAt pos
      holding [v, ov, iv] (setItem ov iv v)
      release [v, ov, iv] []) := by intro _; rfl) (hs : swapsWithSole [.Subscript (.Name y py) (.Constant (.int z) j p2) pos] e p.line X.env = pure false := by rfl) (hw : swappedStores [.Subscript (.Name y py) (.Constant (.int z) j p2) pos] e X.env = pure none := by rfl)
    (h1 : (assignEach [.Subscript (.Name y py) (.Constant (.int z) j p2) pos] X.env).map (·.2) = [assign (.Subscript (.Name y py) (.Constant (.int z) j p2) pos) X.env] := by rfl) : PDS X W (.Assign [.Subscript (.Name y py) (.Constant (.int z) j p2) pos] e p) (dXS i k de) := by
  obtain ⟨tv, b1, b2⟩ := hv.ex
  refine ⟨_, ps_asg b1 (pg_sub hy pe_int set_list ha) hs hw h1, fun F H σ ρ D DD R L h => b2 F H σ [] ρ [] _ _ R h fun F1 H1 ρ1 v d R1 s1 r1 h1 => ?_⟩
  obtain ⟨s, gs, rest, hs, hc, hk, h1⟩ := h1
  obtain ⟨p0, r0, g1, g2, g3, g4, g5, mk1, _⟩ := xn_here R1 hs hc
  split at h1
  · next w =>
    cases r1.int_of
    refine ⟨_, g1, p0, _, z, k + 1, rfl, rfl, g3, ?_, ?_⟩
    · rw [hz]
      exact ixN_nat (by rw [List.length_cons, List.length_map]; omega)
    · rw [List.set_cons_succ, ← List.map_set]
      exact L.nx F1 _ σ _ (mk1 _) s1 h1
  · exact h1.elim
/-- x[0] != [] -/
def dXE (i : Nat) : DT := fun ρ Q => ∃ s gs rest, ρ[i]? = some s ∧ s.cell = some (.nl gs rest) ∧ Q (decide (gs ≠ [])) ρ
theorem depth_ints : ∀ gs : List Int, PyData.plainAll (gs.map PyData.int) = true ∧ PyData.depthAll (gs.map PyData.int) ≤ 1
  | [] => ⟨rfl, by simp [PyData.depthAll]⟩
  | g :: gs => by
    have := depth_ints gs
    refine ⟨?_, ?_⟩
    · rw [List.map_cons, PyData.plainAll, this.1]; rfl
    · rw [List.map_cons, PyData.depthAll]
      have h1 : (PyData.int g).depth ≤ 1 := by simp [PyData.depth]
      omega
end

open PySem L2
section
variable {X : Cx} {W : Ent} {e o a b : Expr} {es : List Expr} {de db dA : DE} {da : DA} {pos p p1 p2 p3 apos cpos : Pos} {x y name : Str} {id : String} {i : Nat}
theorem okD_ints (gs : List Int) : okD (.list (gs.map PyData.int)) = true := by
  unfold okD
  rw [Bool.and_eq_true]
  have h := depth_ints gs
  exact ⟨by rw [PyData.plain]; exact h.1, decide_eq_true (by rw [PyData.depth]; omega)⟩
theorem eqv_ints_nil (gs : List Int) : PyData.eqv (.list (gs.map PyData.int)) (.list []) = decide (gs = []) := by
  cases gs with
  | nil => rfl
  | cons g gs => rfl
theorem at0 {α : Type} {x : α} {xs : List α} : L2.atI (x :: xs) 0 = some x := atI_nat (k := 0) rfl
theorem dt_xe {j} (hu : X.A.units + 64 < cLine) (ha : PE X a (tVar i)) : PDT X W (.Compare (.Subscript a (.Constant (.int 0) j p2) p1) [.NotEq] [.List [] p3] pos) (dXE i) := by
  refine ⟨_, pt_cmpR (or_ne hu) (pe_ix ix_list ha pe_int (by intro _ _; rfl)) (pe_lst pa_nil) (nobehind _ (by decide) (by decide)), fun F H σ τ ρ ε Q kk R h q => ?_⟩
  obtain ⟨s, gs, rest, hs, hc, h⟩ := h
  obtain ⟨p0, r0, g1, g2, g3, g4, g5, _⟩ := xn_here R hs hc
  refine ⟨_, g1, p0, _, 0, .ref r0, rfl, rfl, SqL.of g3, at0, ?_⟩
  show [].length ≤ _ ∧ ∀ p, H p = none → _
  refine ⟨Nat.zero_le _, fun np hn => ?_⟩
  have nr : np ≠ r0 := fun z => by rw [z, g4] at hn; cases hn
  have ex : Same H (upd H np (.lst [])) := fun b u q => by rw [upd_ne (ne_of_none q hn)]; exact q
  have l1 : Rep (upd H np (.lst [])) (.ref r0) (.list (gs.map PyData.int)) := .lst (ex _ _ g4) (Reps.map_int gs)
  have l2 : Rep (upd H np (.lst [])) (.ref np) (.list []) := .lst upd_same .nil
  refine .inr ⟨_, _, Rep.dpP (Same.refl _) (okD_plain (okD_ints gs)) l1, Rep.dpP (Same.refl _) (by rfl) l2, okD_ints gs, by decide, ?_⟩
  have e1 : (!PyData.eqv (.list (gs.map PyData.int)) (.list [])) = decide (gs ≠ []) := by
    rw [eqv_ints_nil, decide_not]
  rw [e1]
  exact ⟨_, rfl, q F _ ρ _ (R.grow ex) (Same.refl _) h⟩
theorem seq0 {n : Nat} : seqIndex? 0 (n + 1) = some 0 := (ixN_seq (ixN_nat (n := n + 1) (k := 0) (by omega))).1
/-- x[0].pop(0) -/
def dXP (i : Nat) : DE := fun ρ Q => ∃ s g gs rest, ρ[i]? = some s ∧ s.cell = some (.nl (g :: gs) rest) ∧ Q (.int g) (ρ.set i (s.put (.nl gs rest)))
theorem de_xp {j j' : Nat} (ha : PE X a (tVar i))
    (hbase : attributeBase (.Subscript a (.Constant (.int 0) j p2) p1) "pop" X.env (eval (.Subscript a (.Constant (.int 0) j p2) p1) X.env) = eval (.Subscript a (.Constant (.int 0) j p2) p1) X.env := by rfl)
    (hfew : ((backTo cpos (starEach [.Constant (.int 0) j' p3] X.env)).all (fun x => !x.1) && (backToKw cpos (keywordEach [] X.env)).all (fun x => x.1.isSome)
      && decide (([.Constant (.int 0) j' p3] : List Expr).length + ([] : List Keyword).length + (if ([] : List Keyword).isEmpty then 0 else 1) < 30)) = true := by rfl)
    (hline : (apos.endLine == cpos.line) = true := by rfl) (hs : starEach [.Constant (.int 0) j' p3] X.env = (false, eval (.Constant (.int 0) j' p3) X.env) :: starEach [] X.env := by rfl) (hplain : (backTo cpos (starEach [] X.env)).any (·.1) = false := by rfl) :
    PDE X W (.Call (.Attribute (.Subscript a (.Constant (.int 0) j p2) p1) "pop" apos) [.Constant (.int 0) j' p3] [] cpos) (dXP i) := by
  refine ⟨_, pe_bm PySem.F.plainAttrs_list PySem.F.slot_list_pop PySem.F.type_list_pop mt_popAt (pe_ix ix_list ha pe_int (by intro _ _; rfl)) (pa_cons pe_int pa_nil hs) hbase hfew hline hs hplain, fun F H σ τ ρ ε Q kk R h q => ?_⟩
  obtain ⟨s, g, gs, rest, hs, hc, h⟩ := h
  obtain ⟨p0, r0, g1, g2, g3, g4, g5, _, mk⟩ := xn_here R hs hc
  refine ⟨_, g1, p0, _, 0, .ref r0, rfl, rfl, SqL.of g3, at0, .inl ⟨rfl, _, SqL.of g4⟩, ?_⟩
  exact ⟨r0, _, 0, 0, .int g, rfl, rfl, g4, by omega, by omega, seq0, rfl, q F _ _ _ _ (mk gs) (Same.refl _) (.int g) h⟩
/-- [x, e1, e2, ..], x a list of ints that a name holds: a nested one -/
def dXNew (i : Nat) (da : DA) : DN := fun ρ Q => (∃ gs : List Int, ρ[i]? = some (.ow (.l ((gs : List Int).map PyData.int)))) ∧ da ρ fun ds ρ1 => ∃ gs rest : List Int, ρ1[i]? = some (.ow (.l (gs.map PyData.int))) ∧ ds = rest.map PyData.int ∧ rest.length < 1000 ∧ Q (.nl gs rest) (ρ1.set i .no)
theorem dn_xn (ha : PE X e (tVar i)) (hes : PDA X W es da) (hs : starEach (e :: es) X.env = (false, eval e X.env) :: starEach es X.env := by rfl) : PDN X W (.List (e :: es) pos) (dXNew i da) := by
  obtain ⟨ta, a1, a2⟩ := hes.ex
  refine ⟨_, pe_lst (pa_cons ha a1 hs), fun F H σ τ ρ ε Q k R h q => ?_⟩
  obtain ⟨⟨gs0, hs0⟩, h⟩ := h
  obtain ⟨p0, xs0, g1, _⟩ := cell_upd R hs0 rfl
  refine ⟨_, g1, a2 F H σ τ ρ ε _ _ R h fun F1 H1 ρ1 vs ds R1 s1 r1 h1 => ?_⟩
  obtain ⟨gs, rest, hs1, rfl, hl, h1⟩ := h1
  obtain ⟨r0, xs1, k1, k2, k3, kf, mk⟩ := cell_upd R1 hs1 rfl
  rw [g1] at k1
  cases k1
  cases r1.ints_of
  cases k3.ints_of
  refine ⟨?_, fun np hn => ?_⟩
  · rw [List.length_cons, List.length_map]
    have : sizeLine = 16777216 := sizeLine_eq
    omega
  · have nr : np ≠ p0 := fun z => by rw [z, k2] at hn; cases hn
    have ex : Same H1 (upd H1 np (.lst (.ref p0 :: rest.map V.int))) := fun b u z => by rw [upd_ne (ne_of_none z hn)]; exact z
    have hi : i < ρ1.length := lt_of_get hs1
    have R2 := (R1.takeOut hs1 g1).toName
    have e0 : ρ1.set i Slot.no ++ [Slot.ow (.l (gs.map PyData.int))] = ρ1.set i Slot.no ++ [Slot.ow (.l (gs.map PyData.int))] := rfl
    have hlen : (ρ1.set i Slot.no).length = σ.length := by rw [List.length_set]; exact R1.len.symm
    have hat : (ρ1.set i Slot.no ++ [Slot.ow (.l (gs.map PyData.int))])[σ.length]? = some (Slot.ow (.l (gs.map PyData.int))) := by
      rw [List.getElem?_append_right (by rw [hlen]; exact Nat.le_refl _), hlen, Nat.sub_self]; rfl
    obtain ⟨v, fp, w1, ⟨q0, ys, rfl, w2, w3, w4⟩, w5, mk2⟩ := R2.cell hat rfl
    have w1' : q0 = p0 := by
      rw [List.getElem?_append_right (Nat.le_refl _), Nat.sub_self] at w1
      cases w1; rfl
    subst w1'
    -- the outer list
    have R3 := mk2 (.ext (XI np gs rest)) (upd H1 np (.lst (.ref q0 :: rest.map V.int))) [np, q0] (fun a o n z => ex a o z) (fun a ha => by
        rcases List.mem_cons.mp ha with z | z
        · rw [z]; exact .inr hn
        · rw [w2]; exact .inl z) (fun a ha => by
        rw [w2] at ha
        rw [List.mem_singleton.mp ha]
        exact ⟨_, ex _ _ k2⟩) ⟨q0, rfl, rfl, nr, upd_same, ex _ _ k2⟩
    have hset : ∀ t : Slot, (ρ1.set i Slot.no ++ [Slot.ow (.l (gs.map PyData.int))]).set σ.length t = ρ1.set i Slot.no ++ [t] := fun t => by
      rw [List.set_append_right _ _ (by rw [hlen]; exact Nat.le_refl _), hlen, Nat.sub_self]; rfl
    rw [hset] at R3
    have R4 := R3.revalue (i := σ.length) (c := .ext (XI np gs rest)) (c' := .nl gs rest) (v' := .ref np) (by
      rw [List.getElem?_append_right (by rw [hlen]; exact Nat.le_refl _), hlen, Nat.sub_self]; rfl) (fun v fp _ hc => by
      obtain ⟨q, e1, e2, e3, e4, e5⟩ := hc
      exact ⟨np, q, rfl, e2, e3, e4, e5⟩)
    have hσ : (σ ++ [some (V.ref q0)]).set σ.length (some (V.ref np)) = σ ++ [some (V.ref np)] := by
      rw [List.set_append_right _ _ (Nat.le_refl _), Nat.sub_self]; rfl
    have hρ : (ρ1.set i Slot.no ++ [(Slot.ow (.l (gs.map PyData.int))).put (.ext (XI np gs rest))]).set σ.length (.ow (.nl gs rest)) = ρ1.set i Slot.no ++ [.ow (.nl gs rest)] := by
      rw [List.set_append_right _ _ (by rw [hlen]; exact Nat.le_refl _), hlen, Nat.sub_self]; rfl
    rw [hσ, hρ] at R4
    exact q F1 _ _ _ _ (R4.ofName (fun c z => by cases z)) s1 h1
end

open PySem L2
/-! ### what is never come to -/
def dDead : DS := fun _ _ => False
def dDeadE : DE := fun _ _ => False
section
variable {X : Cx} {W : Ent} {e : Expr} {st : Stmt}
theorem ds_dead : PDS X W st dDead := ⟨_, (⟨fun _ _ _ _ _ _ h => False.elim h⟩ : PS X st fun _ _ _ => False), fun _ _ _ _ _ _ _ _ h => False.elim h⟩
theorem de_dead : PDE X W e dDeadE := ⟨_, (⟨fun _ _ _ _ _ _ h => False.elim h⟩ : PE X e fun _ _ _ => False), fun _ _ _ _ _ _ _ _ _ h _ => False.elim h⟩
end

/-! ### readings by steps -/
/-! ### loops by an invariant -/
theorem dLoop_ind {g : DG} {body : DS} {D : DEnds} (I : Nat → Rho → Prop) {xs : List PyData} {ρ : Rho} (h0 : I 0 ρ) (hend : ∀ ρ, I xs.length ρ → D.nx ρ)
    (hstep : ∀ k x ρ (N : Rho → Prop), xs[k]? = some x → I k ρ → (∀ ρ', I (k + 1) ρ' → N ρ') → g x ρ fun ρ' => body { D with nx := N, ct := N, bk := D.nx } ρ') : dLoop g body D xs ρ := by
  have key : ∀ (n k : Nat) (ρ : Rho), k + n = xs.length → I k ρ → dLoop g body D (xs.drop k) ρ := fun n => by
    induction n with
    | zero =>
      intro k ρ e h
      have e : k = xs.length := by omega
      subst e
      rw [List.drop_length]
      exact hend ρ h
    | succ n ih =>
      intro k ρ e h
      have hk : k < xs.length := by omega
      rw [List.drop_eq_getElem_cons hk]
      unfold dLoop
      exact hstep k _ ρ _ (List.getElem?_eq_getElem hk) h fun ρ' h' => ih (k + 1) ρ' (by omega) h'
  have := key xs.length 0 ρ (by omega) h0
  rw [List.drop_zero] at this
  exact this
theorem dWhile_ind {dt : DT} {body : DS} {D : DEnds} (I : Nat → Rho → Prop) {n : Nat} {ρ : Rho} (h0 : I n ρ)
    (hstep : ∀ n ρ (N : Rho → Prop), I n ρ → (∀ m ρ', m < n → I m ρ' → N ρ') → dt ρ fun k ρ1 => match k with
      | true => body { D with nx := N, ct := N, bk := D.nx } ρ1
      | false => D.nx ρ1) : dWhile dt body D ρ := by
  have key : ∀ (f n : Nat) (ρ : Rho), n < f → I n ρ → dWh dt body D f ρ := fun f => by
    induction f with
    | zero => intro n ρ h; omega
    | succ f ih =>
      intro n ρ h hi
      exact hstep n ρ _ hi fun m ρ' hm hi' => ih m ρ' (by omega) hi'
  exact ⟨n + 1, key (n + 1) n ρ (by omega) h0⟩
theorem okSet_eq {ρ : Rho} {i : Nat} : okSet ρ i = match ρ[i]? with
  | some s => !s.isIo
  | none => false := by
  unfold okSet
  cases e : ρ[i]? with
  | none => rfl
  | some s => cases s <;> rfl
theorem CPowX.nat {i : Int} {j : Nat} (h : (Builtin.Int.intBits i : Int) * j ≤ 134217728) : CPowX i (j : Int) := ⟨Int.natCast_nonneg _, h⟩
theorem isIo_fz {d : D} : (Slot.fz d).isIo = false := rfl
theorem isIo_ow {c : Cell} : (Slot.ow c).isIo = false := rfl
theorem isIo_io {c : Cell} : (Slot.io c).isIo = true := rfl
theorem isIo_no : Slot.no.isIo = false := rfl
theorem ioOnly_nil : ioOnly [] = [] := rfl
theorem ioOnly_io {c : Cell} {r : Rho} : ioOnly (.io c :: r) = .io c :: ioOnly r := rfl
theorem ioOnly_fz {d : D} {r : Rho} : ioOnly (.fz d :: r) = .no :: ioOnly r := rfl
theorem ioOnly_ow {c : Cell} {r : Rho} : ioOnly (.ow c :: r) = .no :: ioOnly r := rfl
theorem ioOnly_no {r : Rho} : ioOnly (.no :: r) = .no :: ioOnly r := rfl
theorem cpow_n {i : Int} {j n : Nat} (h0 : 0 ≤ i) (h : i < 2 ^ n) (hn : n * j ≤ 134217728) : CPowX i (j : Int) := powx_ok (by
  have e : ((2 ^ n : Nat) : Int) = 2 ^ n := by rw [Int.natCast_pow]; rfl
  omega) hn
local macro_rules
  | `(tactic| simp_arith [10]) => `(tactic| simp_arith [10, true_and])
  | `(tactic| simp_arith [10, $ls,*]) => `(tactic| ((try dsimp only); (try simp only [List.map_cons, List.map_nil, dSeq, dAsg, dOp, dUn, dVar, dC, dgName, dgNil, dgCons, dgTup, okSet_eq, isIo_fz, isIo_ow, isIo_io, isIo_no, gAdd, gI2, gInt2, gNeg, dCons, dNil, dCa, dTest, dAnd, dOr, dNot, dIf, dRet, dRetC, dRetN, dDrop, dNext, dSetN, dLstN, dFrz, dTup, dIfE,
      dCallR, dLenV, dIxV, dSlV, dSetIx, dOp1, dOp2, gIx, gLen, dSl, doNone, doSome, gSl, dXG, dXS, dXE, dXP, dXNew, fLt, fLe, fGt, fGe, gLt, gMax2, gMin2, gAbs, Slot.cell, Slot.put, Cell.d, diList, diTup, diStr, diR1, diR2, dFor, dLM, lAppend, lInsert, lReverse, lClear, gMulA, bodyEnv, bodyEnds,
      List.take_succ_cons, List.take_zero, List.drop_zero, ioOnly_nil, ioOnly_io, ioOnly_fz, ioOnly_ow, ioOnly_no, List.length_cons, List.length_nil, Nat.reduceAdd, Nat.reduceLeDiff, Nat.reduceLT, List.getElem?_cons_zero, List.getElem?_cons_succ, List.set_cons_zero, List.set_cons_succ, List.getElem?_nil, List.cons_append, List.nil_append, Bool.not_false, Bool.not_true,
      Option.some.injEq, Cell.l.injEq, Cell.nl.injEq, Slot.io.injEq, Slot.ow.injEq, PyData.int.injEq, PyData.bool.injEq, PyData.str.injEq, and_assoc, exists_and_left, exists_eq_left', exists_eq_left, exists_eq', true_and, and_true, decide_eq_true_eq, decide_true, decide_false, Slot.out, List.append_nil,
      Int.reduceToNat, Int.reducePow, Int.reduceSub, Int.reduceAdd, Nat.reduceSub, List.replicate_succ, List.replicate_zero, $ls,*]); (try dsimp only); (try simp only [List.map_cons, List.map_nil, dSeq, dAsg, dOp, dUn, dVar, dC, dgName, dgNil, dgCons, dgTup, okSet_eq, isIo_fz, isIo_ow, isIo_io, isIo_no, gAdd, gI2, gInt2, gNeg, dCons, dNil, dCa, dTest, dAnd, dOr, dNot, dIf, dRet, dRetC, dRetN, dDrop, dNext, dSetN, dLstN, dFrz, dTup, dIfE,
      dCallR, dLenV, dIxV, dSlV, dSetIx, dOp1, dOp2, gIx, gLen, dSl, doNone, doSome, gSl, dXG, dXS, dXE, dXP, dXNew, fLt, fLe, fGt, fGe, gLt, gMax2, gMin2, gAbs, Slot.cell, Slot.put, Cell.d, diList, diTup, diStr, diR1, diR2, dFor, dLM, lAppend, lInsert, lReverse, lClear, gMulA, bodyEnv, bodyEnds,
      List.take_succ_cons, List.take_zero, List.drop_zero, ioOnly_nil, ioOnly_io, ioOnly_fz, ioOnly_ow, ioOnly_no, List.length_cons, List.length_nil, Nat.reduceAdd, Nat.reduceLeDiff, Nat.reduceLT, List.getElem?_cons_zero, List.getElem?_cons_succ, List.set_cons_zero, List.set_cons_succ, List.getElem?_nil, List.cons_append, List.nil_append, Bool.not_false, Bool.not_true,
      Option.some.injEq, Cell.l.injEq, Cell.nl.injEq, Slot.io.injEq, Slot.ow.injEq, PyData.int.injEq, PyData.bool.injEq, PyData.str.injEq, and_assoc, exists_and_left, exists_eq_left', exists_eq_left, exists_eq', true_and, and_true, decide_eq_true_eq, decide_true, decide_false, Slot.out, List.append_nil,
      Int.reduceToNat, Int.reducePow, Int.reduceSub, Int.reduceAdd, Nat.reduceSub, List.replicate_succ, List.replicate_zero, $ls,*])))

open PySem L2
/-! ### texts by their signs -/
def mkS (l : List Nat) : Str := ⟨l.toArray⟩
theorem mkS_of (x : Str) : x = mkS x.cps.toList := by
  obtain ⟨⟨l⟩⟩ := x
  rfl
theorem mkS_list (l : List Nat) : (mkS l).cps.toList = l := rfl
theorem mkS_len (l : List Nat) : (mkS l).length = l.length := List.size_toArray
theorem mkS_app (l m : List Nat) : mkS l ++ mkS m = mkS (l ++ m) := by
  show Str.mk (l.toArray ++ m.toArray) = Str.mk (l ++ m).toArray
  rw [List.append_toArray]
theorem mkS_inj {l m : List Nat} : mkS l = mkS m ↔ l = m := ⟨fun h => by
  have := congrArg (fun x : Str => x.cps.toList) h
  exact this, fun h => by rw [h]⟩
theorem mkS_cut (l : List Nat) (lo hi : Option Int) : cutS (mkS l) lo hi = mkS ((l.drop (HT.sIx l.length 0 lo)).take (HT.sIx l.length l.length hi - HT.sIx l.length 0 lo)) := by
  unfold cutS
  rw [mkS_len, mkS_list]
  rfl
theorem sIx_pos {n d : Nat} {i : Int} (h : 0 ≤ i) : HT.sIx n d (some i) = min i.toNat n := by
  have := HT.sIx_nat n d i.toNat
  rw [Int.toNat_of_nonneg h] at this
  exact this
theorem sIx_no {n d : Nat} : HT.sIx n d none = d := rfl
theorem mkS_head {l : List Nat} {i : Int} (h : 0 ≤ i) : cutS (mkS l) none (some i) = mkS (l.take i.toNat) := by
  rw [mkS_cut, sIx_no, sIx_pos h, List.drop_zero, Nat.sub_zero, ← List.take_eq_take_min]
theorem mkS_tail {l : List Nat} {i : Int} (h : 0 ≤ i) : cutS (mkS l) (some i) none = mkS (l.drop i.toNat) := by
  rw [mkS_cut, sIx_no, sIx_pos h]
  congr 1
  by_cases z : i.toNat ≤ l.length
  · rw [Nat.min_eq_left z, List.take_of_length_le (by rw [List.length_drop]; omega)]
  · rw [Nat.min_eq_right (by omega), List.drop_length, List.drop_eq_nil_of_le (by omega), List.take_nil]
theorem mkS_rep (l : List Nat) (n : Nat) : repS (mkS l) n = mkS (List.replicate n l).flatten := rfl
theorem signs_mkS (l : List Nat) : signs (mkS l) = l.map fun c => .str (mkS [c]) := rfl
theorem s_abcdef : ("abcdef" : Str) = mkS [97, 98, 99, 100, 101, 102] := by decide +kernel
theorem s_none : ("" : Str) = mkS [] := by decide +kernel
theorem atI_pos {α : Type} {xs : List α} {i : Int} (h : 0 ≤ i) (h2 : i < xs.length) : L2.atI xs i = some (xs[i.toNat]'(by omega)) := by
  have := atI_nat (xs := xs) (k := i.toNat) (List.getElem?_eq_getElem (by omega))
  rw [Int.toNat_of_nonneg h] at this
  exact this
/-- an item of a known list: one of them -/
theorem atI_mem {α : Type} {xs : List α} {i : Int} (h : 0 ≤ i) (h2 : i < xs.length) : ∃ x, x ∈ xs ∧ L2.atI xs i = some x := ⟨_, List.getElem_mem _, atI_pos h h2⟩
theorem atI_ints {xs : List Int} {i : Int} (h : 0 ≤ i) (h2 : i < xs.length) : ∃ z, z ∈ xs ∧ L2.atI (xs.map PyData.int) i = some (.int z) := by
  refine ⟨xs[i.toNat]'(by omega), List.getElem_mem _, ?_⟩
  rw [atI_pos h (by rw [List.length_map]; exact h2), List.getElem_map]
theorem atI_strs {xs : List Str} {i : Int} (h : 0 ≤ i) (h2 : i < xs.length) : ∃ z, z ∈ xs ∧ L2.atI (xs.map PyData.str) i = some (.str z) := by
  refine ⟨xs[i.toNat]'(by omega), List.getElem_mem _, ?_⟩
  rw [atI_pos h (by rw [List.length_map]; exact h2), List.getElem_map]
theorem flat_len {α : Type} (n : Nat) (l : List α) : (List.replicate n l).flatten.length = n * l.length := by
  induction n with
  | zero => simp
  | succ n ih => rw [List.replicate_succ, List.flatten_cons, List.length_append, ih, Nat.succ_mul, Nat.add_comm]
theorem flat_mem {α : Type} {n : Nat} {l : List α} {x : α} (h : x ∈ (List.replicate n l).flatten) : x ∈ l := by
  obtain ⟨m, h1, h2⟩ := List.mem_flatten.mp h
  rw [List.mem_replicate] at h1
  rw [← h1.2]; exact h2

open PySem L2
/-- a def of the top, with what it promises -/
def Cal (P : Program) (w : World) (K : PySem.W.Frag) (mg : Str → Option Value) (base : Heap) (x : Str) (k : Nat) (ps : List Str) (g : GSp) : Prop := ∃ (f : Addr) (fd : FuncData), FnOk P w K mg base (L2N.CX P w) k f fd ps (spOf g) ∧ mg x = some (.ref f) ∧ PySem.W.keepIn K (.ref f) = true ∧ Binds K fd ps []
/-- the built-ins that the text names, not bound anew -/
structure Txt (mg : Str → Option Value) : Prop where
  len : mg "len" = none
  range : mg "range" = none
  max : mg "max" = none
  min : mg "min" = none
  abs : mg "abs" = none
  int : mg "int" = none
  str : mg "str" = none
  bool : mg "bool" = none
  list : mg "list" = none
  tuple : mg "tuple" = none
  dict : mg "dict" = none
  set : mg "set" = none
  sum : mg "sum" = none
  all : mg "all" = none
  any : mg "any" = none
  sorted : mg "sorted" = none
  isinstance : mg "isinstance" = none
  enumerate : mg "enumerate" = none
  zip : mg "zip" = none
theorem isub_NoneType_bool : isSub "NoneType" "bool" = false := by decide +kernel
theorem isub_NoneType_int : isSub "NoneType" "int" = false := by decide +kernel
theorem isub_NoneType_str : isSub "NoneType" "str" = false := by decide +kernel
theorem isub_NoneType_list : isSub "NoneType" "list" = false := by decide +kernel
theorem isub_NoneType_tuple : isSub "NoneType" "tuple" = false := by decide +kernel
theorem isub_bool_bool : isSub "bool" "bool" = true := by decide +kernel
theorem isub_bool_int : isSub "bool" "int" = true := by decide +kernel
theorem isub_bool_str : isSub "bool" "str" = false := by decide +kernel
theorem isub_bool_list : isSub "bool" "list" = false := by decide +kernel
theorem isub_bool_tuple : isSub "bool" "tuple" = false := by decide +kernel
theorem isub_int_bool : isSub "int" "bool" = false := by decide +kernel
theorem isub_int_int : isSub "int" "int" = true := by decide +kernel
theorem isub_int_str : isSub "int" "str" = false := by decide +kernel
theorem isub_int_list : isSub "int" "list" = false := by decide +kernel
theorem isub_int_tuple : isSub "int" "tuple" = false := by decide +kernel
theorem isub_str_bool : isSub "str" "bool" = false := by decide +kernel
theorem isub_str_int : isSub "str" "int" = false := by decide +kernel
theorem isub_str_str : isSub "str" "str" = true := by decide +kernel
theorem isub_str_list : isSub "str" "list" = false := by decide +kernel
theorem isub_str_tuple : isSub "str" "tuple" = false := by decide +kernel
theorem isub_list_bool : isSub "list" "bool" = false := by decide +kernel
theorem isub_list_int : isSub "list" "int" = false := by decide +kernel
theorem isub_list_str : isSub "list" "str" = false := by decide +kernel
theorem isub_list_list : isSub "list" "list" = true := by decide +kernel
theorem isub_list_tuple : isSub "list" "tuple" = false := by decide +kernel
theorem isub_tuple_bool : isSub "tuple" "bool" = false := by decide +kernel
theorem isub_tuple_int : isSub "tuple" "int" = false := by decide +kernel
theorem isub_tuple_str : isSub "tuple" "str" = false := by decide +kernel
theorem isub_tuple_list : isSub "tuple" "list" = false := by decide +kernel
theorem isub_tuple_tuple : isSub "tuple" "tuple" = true := by decide +kernel
theorem tyn_NoneType : tyName .none = some "NoneType" := rfl
theorem tyn_bool {b : Bool} : tyName (.bool b) = some "bool" := rfl
theorem tyn_int {i : Int} : tyName (.int i) = some "int" := rfl
theorem tyn_str {x : Str} : tyName (.str x) = some "str" := rfl
theorem tyn_list {xs : List D} : tyName (.list xs) = some "list" := rfl
theorem tyn_tuple {xs : List D} : tyName (.tuple xs) = some "tuple" := rfl
local macro_rules
  | `(tactic| simp_arith [11]) => `(tactic| simp_arith [11, true_and])
  | `(tactic| simp_arith [11, $ls,*]) => `(tactic| simp_arith [10, dIsi, gIsN, isNon, gEq, gNe, dAndV, dOrV, dNotV, dCall, isub_NoneType_bool, isub_NoneType_int, isub_NoneType_str, isub_NoneType_list, isub_NoneType_tuple, isub_bool_bool, isub_bool_int, isub_bool_str, isub_bool_list, isub_bool_tuple, isub_int_bool, isub_int_int, isub_int_str, isub_int_list, isub_int_tuple, isub_str_bool, isub_str_int, isub_str_str, isub_str_list, isub_str_tuple, isub_list_bool, isub_list_int, isub_list_str, isub_list_list, isub_list_tuple, isub_tuple_bool, isub_tuple_int, isub_tuple_str, isub_tuple_list, isub_tuple_tuple, tyn_NoneType, tyn_bool, tyn_int, tyn_str, tyn_list, tyn_tuple, $ls,*])

open PySem L2 PyProof.Rows
section
variable {X : Cx}
theorem pairs_ofT {pins : List (Addr × Obj)} {σ : L2.St} {H : Hp} {s : Shared} (I : Inv X pins σ H s) : ∀ {ps : List Addr} {kvs : List (List L2.Key × V)}, Paired (fun p kv => ∃ b, SqT X.K H p [.ref b, kv.2] ∧ H b = some (.tup (kv.1.map kV))) ps kvs →
    ∃ xs : List (List L2.Key × Addr × Value), KT H kvs xs ∧ xs.length = ps.length ∧ ∀ (j : Nat) (q : List L2.Key × Addr × Value), xs[j]? = some q → ∃ p, ps[j]? = some p ∧ IsTup s.heap p #[.ref q.2.1, q.2.2]
  | _, _, .nil => ⟨[], .nil, rfl, fun j q e => by simp at e⟩
  | _, _, .cons (a := p) (b := kv) ⟨b, h, hb⟩ t => by
    obtain ⟨xs, r, hl, hp⟩ := pairs_ofT I t
    obtain ⟨its, rv, ht, _⟩ := I.tuple h
    obtain ⟨u, y, ei, ru, ry⟩ := vals2 rv
    subst ei
    cases (show u = Value.ref b from ru)
    refine ⟨(kv.1, b, y) :: xs, .cons ⟨rfl, hb, ry⟩ r, by rw [List.length_cons, List.length_cons, hl], fun j q e => ?_⟩
    cases j with
    | zero =>
      have e' : (kv.1, b, y) = q := Option.some.inj e
      subst e'
      exact ⟨p, rfl, ht⟩
    | succ j =>
      obtain ⟨p', e1, e2⟩ := hp j q (by simpa using e)
      exact ⟨p', by simpa using e1, e2⟩
theorem stored_new {K : Type} [DecidableEq K] : ∀ (ps acc : List (K × Addr × Value)), ((acc ++ ps).map (·.1)).Nodup → storedAllH acc ps = acc ++ ps
  | [], acc, _ => by rw [List.append_nil]; rfl
  | p :: ps, acc, h => by
    have hn : atKey acc p.1 = none := by
      refine atKey_none_of_get fun j q e => ?_
      rw [List.map_append, List.nodup_append] at h
      exact h.2.2 p.1 (List.mem_map.mpr ⟨_, List.mem_of_getElem? e, rfl⟩) p.1 (List.mem_map.mpr ⟨p, List.mem_cons_self, rfl⟩) rfl
    show storedAllH (storedH acc p.1 p.2.1 p.2.2) ps = _
    rw [storedH_new hn, stored_new ps _ (by rw [List.append_assoc]; exact h), List.append_assoc]
    rfl
theorem call_dictT (hcalm : X.calm = true) (hu : X.A.units + 64 < cLine) : CallR X (.type "dict") (fun xs H Q => ∃ (a : Addr) (ps : List Addr) (kvs : List (List L2.Key × V)), xs = [.ref a] ∧ SqL X.K H a (ps.map V.ref) ∧
    Paired (fun p kv => ∃ b, SqT X.K H p [.ref b, kv.2] ∧ H b = some (.tup (kv.1.map kV))) ps kvs ∧ (kvs.map (·.1)).Nodup ∧ ∀ p, H p = none → Q (.ref p) (upd H p (.dT kvs))) := by
  intro pins s σ H xs us Q I r q
  obtain ⟨a, ps, kvs, ex, hq, hp, hnd, q⟩ := q
  subst ex
  obtain ⟨u, eu, rx⟩ := vals1 r
  subst eu
  cases rx
  obtain ⟨its, rv, pl, hz⟩ := I.list hq
  have ei := refs_at rv
  subst ei
  rw [List.length_map] at hz
  obtain ⟨xs, rel, hl, hpr⟩ := pairs_ofT I hp
  have hkeys : xs.map (·.1) = kvs.map (·.1) := by
    clear hpr hl hp hnd q
    induction rel with
    | nil => rfl
    | cons h t ih => rw [List.map_cons, List.map_cons, ih, h.1]
  have hll : kvs.length = xs.length := by have := congrArg List.length hkeys; rw [List.length_map, List.length_map] at this; exact this.symm
  have hnd2 : (xs.map (·.1)).Nodup := by rw [hkeys]; exact hnd
  have his : ∀ x ∈ xs, (tupleKind (mixKind X.prog X.w)).is s.heap x.1 x.2.1 := by
    clear hpr hl hp hnd q hkeys hll hnd2
    induction rel with
    | nil => intro x hx; exact nomatch hx
    | @cons p q ps qs hq t ih =>
      intro x hx
      rcases List.mem_cons.mp hx with e | hx
      · subst e
        exact key_of I.hok (by rw [← hq.1]; exact hq.2.1)
      · exact ih x hx
  let vps : List (Value × Value) := xs.map fun x => (.ref x.2.1, x.2.2)
  have hvl : vps.length = ps.length := by show (xs.map _).length = _; rw [List.length_map, hl]
  have getv : ∀ (j : Nat) k v, vps[j]? = some (k, v) → ∃ x, xs[j]? = some x ∧ k = .ref x.2.1 ∧ v = x.2.2 := fun j k v e => by
    rw [List.getElem?_map] at e
    cases z : xs[j]? with
    | none => rw [z] at e; cases e
    | some x => rw [z] at e; cases e; exact ⟨x, rfl, rfl, rfl⟩
  have P := PairArg.list (prog := X.prog) (w := X.w) a (ps.map Value.ref).toArray (fun j => ps.getD j 0) vps
  refine call_dict_pairsH (knd := tupleKind (mixKind X.prog X.w)) (ps := xs) P (I.ok.hd hcalm) ?_ ⟨pl, by rw [hvl]; simp, fun j k v e => ?_⟩ ⟨by rw [hvl, hl], fun i key v e => ?_⟩ (fun h' hk x hx => ?_) (by rw [hvl]; exact hz) fun h' tk hd' k => ?_
  · exact tupleKind_room_in1 (A := X.A.in1) (by show X.A.units + 1 + 1 < cLine; omega)
  · obtain ⟨x, e1, e2, e3⟩ := getv j k v e
    obtain ⟨p, e4, e5⟩ := hpr j x e1
    subst e2; subst e3
    have : ps.getD j 0 = p := by rw [List.getD_eq_getElem?_getD, e4]; rfl
    show (List.map Value.ref ps).toArray[j]? = some (Value.ref (ps.getD j 0)) ∧ PairAt s.heap (ps.getD j 0) (Value.ref x.2.1) x.2.2
    rw [this]
    exact ⟨by simp [e4], .inl e5⟩
  · obtain ⟨x, e1, e2, e3⟩ := getv i key v e
    subst e2; subst e3
    exact ⟨x.1, x.2.1, e1, rfl⟩
  · exact (tupleKind_stays (knd := mixKind X.prog X.w)).stays (fun b o vs n e _ => hk b o (Nat.ne_of_lt (Heap.lt_size e)) List.not_mem_nil e) (his x hx)
  · rw [stored_new xs [] (by simpa using hnd2), List.nil_append] at hd'
    have hm : (s.heap.objs.size == sysModules) = false := beq_eq_false_iff_ne.mpr (Nat.ne_of_gt I.big)
    obtain ⟨o, es, ep, d1, d2, d3, d4, d5, d6⟩ := hd'
    have hf : H s.heap.objs.size = none := I.hok.fresh (Nat.le_refl _)
    have relU : ∀ {l : List (List L2.Key × V)} {m : List (List L2.Key × Addr × Value)}, KT H l m → KT (upd H s.heap.objs.size (.dT kvs)) l m := by
      intro l m z
      induction z with
      | nil => exact .nil
      | cons h t ih => exact .cons ⟨h.1, by rw [upd_ne (ne_of_none h.2.1 hf)]; exact h.2.1, h.2.2⟩ ih
    refine ⟨.ref s.heap.objs.size, upd H s.heap.objs.size (.dT kvs), I.laid (t' := tk) (fun b u e => k b u List.not_mem_nil e) (Nat.le_refl _) (show ObjOk X.prog X.w _ _ _ (.dT kvs) from ⟨by rw [hll, hl]; exact hz, hm, xs, relU rel, o, es, ep, d1, d2, d3, d4, d6⟩), rfl, q _ hf⟩

/-- dict(xs) of a list of pairs, the keys tuples, none twice -/
def dDictT (da : DA) : DN := fun ρ Q => da ρ fun ds ρ1 => ∃ kvs : List (List L2.Key × D), ds = [.list (kvs.map fun p => .tuple [keysD p.1, p.2])] ∧ (kvs.map (·.1)).Nodup ∧ Q (.dt kvs) ρ1
theorem pairsT_of {K : PySem.W.Frag} {F H : Hp} (s : Same F H) : ∀ {kvs : List (List L2.Key × D)} {xs : List V}, Reps F xs (kvs.map fun p => .tuple [keysD p.1, p.2]) →
    ∃ (ps : List Addr) (kws : List (List L2.Key × V)), xs = ps.map V.ref ∧ Paired (fun p kv => ∃ b, SqT K H p [.ref b, kv.2] ∧ H b = some (.tup (kv.1.map kV))) ps kws ∧ kws.map (·.1) = kvs.map (·.1) ∧ Reps F (kws.map (·.2)) (kvs.map (·.2))
  | [], xs, r => ⟨[], [], r.nil_of, .nil, rfl, .nil⟩
  | p :: kvs, xs, r => by
    obtain ⟨v, ws, rfl, r1, r2⟩ := r.cons_of
    obtain ⟨ps, kws, rfl, h1, h2, h3⟩ := pairsT_of s r2
    obtain ⟨a, ys, rfl, g1, g2⟩ := r1.tup_of
    obtain ⟨k, zs, rfl, k1, k2⟩ := g2.cons_of
    obtain ⟨x, zs', rfl, k3, k4⟩ := k2.cons_of
    cases k4.nil_of
    obtain ⟨b, rfl, hb⟩ := k1.keysD_of
    exact ⟨a :: ps, (p.1, x) :: kws, rfl, .cons ⟨b, SqT.of (s _ _ g1), s _ _ hb⟩ h1, by rw [List.map_cons, List.map_cons, h2], .cons k3 h3⟩
variable {W : Ent} {e : Expr} {da : DA} {p pos : Pos}
theorem dn_dictT (hcalm : X.calm = true) (hu : X.A.units + 64 < cLine) (hg : Gl X "dict") (hm : X.mg "dict" = none) (ha : PDA X W [e] da) (he : starEach [e] X.env = (false, eval e X.env) :: starEach [] X.env := by rfl) : PDN X W (.Call (.Name "dict" p) [e] [] pos) (dDictT da) := by
  obtain ⟨ta, a1, a2⟩ := ha.ex
  refine ⟨_, pe_callTy (call_dictT hcalm hu) hg hm (by decide +kernel) a1 (by decide) (by decide) he (by rfl), fun F H σ τ ρ ε Q k R h q => a2 F H σ τ ρ ε _ _ R h fun F1 H1 ρ1 vs ds R1 s1 r1 h1 => ?_⟩
  obtain ⟨kvs, rfl, hnd, h1⟩ := h1
  obtain ⟨v, rfl, r2⟩ := reps1 r1
  obtain ⟨a, xs, rfl, h2, h3⟩ := rep_lstH R1.ex r2
  obtain ⟨ps, kws, rfl, g1, g2, g3⟩ := pairsT_of (K := X.K) R1.ex h3
  exact ⟨a, ps, kws, rfl, SqL.of h2, g1, by rw [g2]; exact hnd, fun np hn => q F1 _ ρ1 _ (.dt kvs) (R1.new hn ⟨np, kws, rfl, rfl, upd_same, g2, g3⟩) s1 h1⟩
end

/-! ### comprehensions by an invariant -/
theorem dLc_ind {g : DG} {dt : DT} {de : DE} {vs : List Nat} {Q : List D → Rho → Prop} (I : Nat → List D → Rho → Prop) {xs : List PyData} {ρ : Rho} (h0 : I 0 [] ρ) (hend : ∀ acc ρ, I xs.length acc ρ → Q acc ρ)
    (hstep : ∀ k x acc ρ (N : List D → Rho → Prop), xs[k]? = some x → I k acc ρ → (∀ acc' ρ', I (k + 1) acc' ρ' → N acc' ρ') → g x ρ fun ρ1 => dt ρ1 fun b ρ2 => match b with
      | true => de ρ2 fun z ρ3 => acc.length < sizeLine ∧ N (acc ++ [z]) (dwipe ρ3 vs)
      | false => N acc (dwipe ρ2 vs)) : dLcLoop g dt de vs Q [] xs ρ := by
  have key : ∀ (n k : Nat) (acc : List D) (ρ : Rho), k + n = xs.length → I k acc ρ → dLcLoop g dt de vs Q acc (xs.drop k) ρ := fun n => by
    induction n with
    | zero =>
      intro k acc ρ e h
      have e : k = xs.length := by omega
      subst e
      rw [List.drop_length]
      exact hend acc ρ h
    | succ n ih =>
      intro k acc ρ e h
      have hk : k < xs.length := by omega
      rw [List.drop_eq_getElem_cons hk]
      unfold dLcLoop
      exact hstep k _ acc ρ (fun acc' ρ' => dLcLoop g dt de vs Q acc' (xs.drop (k + 1)) ρ') (List.getElem?_eq_getElem hk) h fun acc' ρ' h' => ih (k + 1) acc' ρ' (by omega) h'
  have := key xs.length 0 [] ρ (by omega) h0
  rw [List.drop_zero] at this
  exact this
local macro_rules
  | `(tactic| simp_arith [12]) => `(tactic| simp_arith [12, true_and])
  | `(tactic| simp_arith [12, $ls,*]) => `(tactic| simp_arith [11, dLc, dYes, dwipe, dDictT, dDGet2, $ls,*])

open PySem L2
section
variable {X : Cx} {W : Ent} {e o a b : Expr} {es : List Expr} {de db dA : DE} {da : DA} {pos p p1 p2 p3 apos cpos : Pos} {x y name : Str} {id : String} {i : Nat}
theorem atI_last {α : Type} {xs : List α} {v : α} (h : xs.getLast? = some v) : L2.atI xs (-1) = some v := by
  have hn : xs ≠ [] := fun z => by rw [z] at h; cases h
  have hl : 0 < xs.length := List.length_pos_iff.mpr hn
  unfold L2.atI L2.ixN
  rw [if_neg (by omega), if_pos (by omega)]
  show xs[(-1 + (xs.length : Int)).toNat]? = _
  rw [show (-1 + (xs.length : Int)).toNat = xs.length - 1 by omega, ← List.getLast?_eq_getElem?]
  exact h
theorem ixN_last {n : Nat} (h : 0 < n) : L2.ixN n (-1) = some (n - 1) := by
  unfold L2.ixN
  rw [if_neg (by omega), if_pos (by omega)]
  congr 1
  omega
theorem last_map {gs : List Int} {g : Int} (h : gs.getLast? = some g) : (gs.map V.int).getLast? = some (.int g) := by rw [List.getLast?_map, h]; rfl
/-- x[0][-1] -/
def dXL (i : Nat) : DE := fun ρ Q => ∃ s gs rest g, ρ[i]? = some s ∧ s.cell = some (.nl gs rest) ∧ gs.getLast? = some g ∧ Q (.int g) ρ
theorem de_xl {j j'} (ha : PE X a (tVar i)) : PDE X W (.Subscript (.Subscript a (.Constant (.int 0) j p2) p1) (.UnaryOp .USub (.Constant (.int 1) j' p3) p) pos) (dXL i) := by
  refine ⟨_, pe_ix ix_list (pe_ix ix_list ha pe_int (by intro _ _; rfl)) (pe_un un_neg pe_int) (by intro _ _; rfl), fun F H σ τ ρ ε Q kk R h q => ?_⟩
  obtain ⟨s, gs, rest, g, hs, hc, hg, h⟩ := h
  obtain ⟨p0, r0, g1, g2, g3, g4, g5, _⟩ := xn_here R hs hc
  exact ⟨_, g1, p0, _, 0, .ref r0, rfl, rfl, SqL.of g3, at0, 1, rfl, r0, _, -1, .int g, rfl, rfl, SqL.of g4, atI_last (last_map hg), q F H ρ _ _ R (Same.refl _) (.int g) h⟩
/-- x[0][-1] = e -/
def dXLS (i : Nat) (de : DE) : DS := fun D ρ => de ρ fun d ρ1 => ∃ s gs rest, ρ1[i]? = some s ∧ s.cell = some (.nl gs rest) ∧ gs ≠ [] ∧ (match d with
  | .int z => D.nx (ρ1.set i (s.put (.nl (gs.set (gs.length - 1) z) rest)))
  | _ => False)
theorem ds_xls {j j'} {py : Pos} (hy : PE X (.Name y py) (tVar i)) (hv : PDE X W e de)
    (ha : ∀ v, assign (.Subscript (.Subscript (.Name y py) (.Constant (.int 0) j p2) p1) (.UnaryOp .USub (.Constant (.int 1) j' p3) apos) pos) X.env v = (do
      let ov ← holding [v] (eval (.Subscript (.Name y py) (.Constant (.int 0) j p2) p1) X.env)
      let iv ← holding [v, ov] (eval (.UnaryOp .USub (.Constant (.int 1) j' p3) apos) X.env)
      standAt pos
      holding [v, ov, iv] (setItem ov iv v)
      release [v, ov, iv] []) := by intro _; rfl) (hs : swapsWithSole [.Subscript (.Subscript (.Name y py) (.Constant (.int 0) j p2) p1) (.UnaryOp .USub (.Constant (.int 1) j' p3) apos) pos] e p.line X.env = pure false := by rfl)
    (hw : swappedStores [.Subscript (.Subscript (.Name y py) (.Constant (.int 0) j p2) p1) (.UnaryOp .USub (.Constant (.int 1) j' p3) apos) pos] e X.env = pure none := by rfl)
    (h1 : (assignEach [.Subscript (.Subscript (.Name y py) (.Constant (.int 0) j p2) p1) (.UnaryOp .USub (.Constant (.int 1) j' p3) apos) pos] X.env).map (·.2) = [assign (.Subscript (.Subscript (.Name y py) (.Constant (.int 0) j p2) p1) (.UnaryOp .USub (.Constant (.int 1) j' p3) apos) pos) X.env] := by rfl) :
    PDS X W (.Assign [.Subscript (.Subscript (.Name y py) (.Constant (.int 0) j p2) p1) (.UnaryOp .USub (.Constant (.int 1) j' p3) apos) pos] e p) (dXLS i de) := by
  obtain ⟨tv, b1, b2⟩ := hv.ex
  refine ⟨_, ps_asg b1 (pg_sub (pe_ix ix_list hy pe_int (by intro _ _; rfl)) (pe_un un_neg pe_int) set_list ha) hs hw h1, fun F H σ ρ D DD R L h => b2 F H σ [] ρ [] _ _ R h fun F1 H1 ρ1 v d R1 s1 r1 h1 => ?_⟩
  obtain ⟨s, gs, rest, hs, hc, hn, h1⟩ := h1
  obtain ⟨p0, r0, g1, g2, g3, g4, g5, _, mk⟩ := xn_here R1 hs hc
  split at h1
  · next w =>
    cases r1.int_of
    have hl : 0 < (gs.map V.int).length := by rw [List.length_map]; exact List.length_pos_iff.mpr hn
    refine ⟨_, g1, p0, _, 0, .ref r0, rfl, rfl, SqL.of g3, at0, 1, rfl, r0, _, -1, (gs.map V.int).length - 1, rfl, rfl, g4, ixN_last hl, ?_⟩
    rw [List.length_map, ← List.map_set]
    exact L.nx F1 _ σ _ (mk _) s1 h1
  · exact h1.elim
/-- x[0].pop() -/
def dXPL (i : Nat) : DE := fun ρ Q => ∃ s gs rest g, ρ[i]? = some s ∧ s.cell = some (.nl gs rest) ∧ gs.getLast? = some g ∧ Q (.int g) (ρ.set i (s.put (.nl gs.dropLast rest)))
theorem de_xpl {j : Nat} (ha : PE X a (tVar i))
    (hbase : attributeBase (.Subscript a (.Constant (.int 0) j p2) p1) "pop" X.env (eval (.Subscript a (.Constant (.int 0) j p2) p1) X.env) = eval (.Subscript a (.Constant (.int 0) j p2) p1) X.env := by rfl)
    (hline : (apos.endLine == cpos.line) = true := by rfl) :
    PDE X W (.Call (.Attribute (.Subscript a (.Constant (.int 0) j p2) p1) "pop" apos) [] [] cpos) (dXPL i) := by
  refine ⟨_, pe_bm0 PySem.F.plainAttrs_list PySem.F.slot_list_pop PySem.F.type_list_pop mt_pop (pe_ix ix_list ha pe_int (by intro _ _; rfl)) hbase hline, fun F H σ τ ρ ε Q kk R h q => ?_⟩
  obtain ⟨s, gs, rest, g, hs, hc, hg, h⟩ := h
  obtain ⟨p0, r0, g1, g2, g3, g4, g5, _, mk⟩ := xn_here R hs hc
  refine ⟨_, g1, p0, _, 0, .ref r0, rfl, rfl, SqL.of g3, at0, .inl ⟨rfl, _, SqL.of g4⟩, ?_⟩
  refine ⟨r0, _, .int g, rfl, rfl, g4, by rw [← List.getLast?_eq_getElem?]; exact last_map hg, ?_⟩
  rw [← List.map_dropLast]
  exact q F _ _ _ _ (mk _) (Same.refl _) (.int g) h
end
local macro_rules
  | `(tactic| simp_arith [13]) => `(tactic| simp_arith [13, true_and])
  | `(tactic| simp_arith [13, $ls,*]) => `(tactic| simp_arith [12, dXL, dXLS, dXPL, dMtT, tyD, gJoin, gSum, gAll, gCount, gIndex, gInt1, gTuple, dListN, dSortN, dAug, dChain, dCallN, $ls,*])

open PySem L2
/-! ### texts: partition, f-strings, str, int of a text -/
section
variable {X : Cx} {W : Ent} {e o a b : Expr} {es : List Expr} {de db dA : DE} {da : DA} {pos p apos cpos : Pos} {x y name : Str} {id : String} {i : Nat}
def gPartition : D → GA := fun d ds Q => match d with
  | .str a => match ds with
    | [.str b] => (b.length == 0) = false ∧ a.length ≤ sizeLine ∧ Q (.tuple [.str (Txt.partition a b).1, .str (Txt.partition a b).2.1, .str (Txt.partition a b).2.2])
    | _ => False
  | _ => False
theorem md_partition : MtD (fun x xs H Q => ∃ a b, x = .str a ∧ xs = [.str b] ∧ (b.length == 0) = false ∧ a.length ≤ sizeLine ∧
    ∀ p, H p = none → Q (.ref p) (upd H p (.tup [.str (Txt.partition a b).1, .str (Txt.partition a b).2.1, .str (Txt.partition a b).2.2]))) gPartition := by
  intro F H x d xs ds Q k s rx rxs h q
  unfold gPartition at h
  split at h
  · split at h
    · next a _ b =>
      cases rx.str_of
      obtain ⟨v, rfl, r1⟩ := reps1 rxs
      cases r1.str_of
      exact ⟨_, _, rfl, rfl, h.1, h.2.1, ext_tup s (.cons (.str _) (.cons (.str _) (.cons (.str _) .nil))) h.2.2 q⟩
    · exact h.elim
  · exact h.elim
theorem de_partition (ho : PDE X W o de) (ha : PDA X W [e] da)
    (hbase : attributeBase o "partition" X.env (eval o X.env) = eval o X.env := by rfl) (hline : (apos.endLine == cpos.line) = true := by rfl) (hs : starEach [e] X.env = (false, eval e X.env) :: starEach [] X.env := by rfl)
    (hfew : ((backTo cpos (starEach [e] X.env)).all (fun x => !x.1) && (backToKw cpos (keywordEach [] X.env)).all (fun x => x.1.isSome) && decide ([e].length + ([] : List Keyword).length + (if ([] : List Keyword).isEmpty then 0 else 1) < 30)) = true := by rfl) : PDE X W (.Call (.Attribute o "partition" apos) [e] [] cpos) (dMtT "str" gPartition de da) :=
  de_bm PySem.F.plainAttrs_str PySem.F.slot_str_partition PySem.F.type_str_partition mt_partition md_partition ho ha hbase hfew hline hs (by rfl)

/-- {x} -/
def dFmt (de : DE) : DE := fun ρ Q => de ρ fun d ρ1 => match d with
  | .str y => y.length ≤ sizeLine ∧ Q (.str y) ρ1
  | .int i => i.natAbs.log2 < 1920 ∧ Q (.str (toString i)) ρ1
  | _ => False
theorem de_fmt (h : PDE X W e de) : PDE X W (.FormattedValue e (-1) none pos) (dFmt de) := by
  obtain ⟨te, h1, h2⟩ := h.ex
  refine ⟨_, pe_fmt h1, fun F H σ τ ρ ε Q k R h q => h2 F H σ τ ρ ε _ _ R h fun F1 H1 ρ1 v d R1 s1 r1 h1 => ?_⟩
  split at h1
  · cases r1.str_of
    exact .inl ⟨_, rfl, h1.1, q F1 H1 ρ1 _ _ R1 s1 (.str _) h1.2⟩
  · cases r1.int_of
    exact .inr ⟨_, rfl, h1.1, q F1 H1 ρ1 _ _ R1 s1 (.str _) h1.2⟩
  · exact h1.elim
/-- the parts of an f-string, one behind another -/
def dJs : List DE → Str → Rho → (Str → Rho → Prop) → Prop
  | [], acc, ρ, Q => Q acc ρ
  | d :: ds, acc, ρ, Q => d ρ fun x ρ1 => match x with
    | .str y => (acc ++ y).length ≤ sizeLine ∧ dJs ds (acc ++ y) ρ1 Q
    | _ => False
def dJoined (ds : List DE) : DE := fun ρ Q => dJs ds Str.empty ρ fun z ρ1 => Q (.str z) ρ1
inductive PDJ (X : Cx) (W : Ent) : List Expr → List DE → Prop
  | nil : PDJ X W [] []
  | cons {e : Expr} {de : DE} {es : List Expr} {des : List DE} : PDE X W e de → PDJ X W es des → PDJ X W (e :: es) (de :: des)
def SndJ (W : Ent) (ts : List TE) (ds : List DE) : Prop := ∀ acc F H σ τ ρ ε (Q : Str → Rho → Prop) (k : Str → Hp → Prop), At W F H σ τ ρ ε → dJs ds acc ρ Q →
  (∀ F' H' ρ' z, At W F' H' σ τ ρ' ε → Same F F' → Q z ρ' → k z H') → tJs ts acc σ H k
theorem PDJ.ex {des : List DE} (h : PDJ X W es des) : ∃ ts, PJ X es ts ∧ SndJ W ts des := by
  induction h with
  | nil => exact ⟨[], .nil, fun acc F H σ τ ρ ε Q k R h q => q F H ρ acc R (Same.refl _) h⟩
  | cons h1 _ ih =>
    obtain ⟨te, a1, a2⟩ := h1.ex
    obtain ⟨ts, b1, b2⟩ := ih
    refine ⟨te :: ts, .cons a1 b1, fun acc F H σ τ ρ ε Q k R h q => a2 F H σ τ ρ ε _ _ R h fun F1 H1 ρ1 v d R1 s1 r1 h1 => ?_⟩
    split at h1
    · cases r1.str_of
      exact ⟨_, rfl, h1.1, b2 _ F1 H1 σ τ ρ1 ε Q k R1 h1.2 fun F2 H2 ρ2 z R2 s2 q2 => q F2 H2 ρ2 z R2 (s1.trans s2) q2⟩
    · exact h1.elim
theorem de_joined {v1 v2 : Expr} {rest : List Expr} {des : List DE} (h : PDJ X W (v1 :: v2 :: rest) des) : PDE X W (.JoinedStr (v1 :: v2 :: rest) pos) (dJoined des) := by
  obtain ⟨ts, h1, h2⟩ := h.ex
  exact ⟨_, pe_joined h1, fun F H σ τ ρ ε Q k R h q => h2 _ F H σ τ ρ ε _ _ R h fun F1 H1 ρ1 z R1 s1 q1 => q F1 H1 ρ1 _ _ R1 s1 (.str z) q1⟩

theorem CallR.or {f : Value} {r r' : List V → Hp → VK → Prop} (h : CallR X f r) (h' : CallR X f r') : CallR X f (fun xs H Q => r xs H Q ∨ r' xs H Q) := by
  intro pins s σ H xs us Q I rx q
  rcases q with q | q
  · exact h pins s σ H xs us Q I rx q
  · exact h' pins s σ H xs us Q I rx q
/-- str(x) of an int or a text -/
def gStr1 : GA := fun ds Q => match ds with
  | [.int i] => i.natAbs.log2 < 1920 ∧ Q (.str (toString i))
  | [.str a] => Q (.str a)
  | _ => False
theorem de_str1 (hg : Gl X "str") (hm : X.mg "str" = none) (ha : PDA X W [e] da) (he : starEach [e] X.env = (false, eval e X.env) :: starEach [] X.env := by rfl) (hpl : (backTo pos (starEach [] X.env)).any (·.1) = false := by rfl) : PDE X W (.Call (.Name "str" p) [e] [] pos) (dCa gStr1 da) :=
  de_caT (CallR.or call_str_int SkE.call_str_str) (by
    intro F H xs ds Q k s r h q
    unfold gStr1 at h
    split at h
    · obtain ⟨v, rfl, r1⟩ := reps1 r
      cases r1.int_of
      exact .inl ⟨_, rfl, h.1, ext_here s (.str _) h.2 q⟩
    · obtain ⟨v, rfl, r1⟩ := reps1 r
      cases r1.str_of
      exact .inr ⟨_, rfl, ext_here s (.str _) h q⟩
    · exact h.elim) hg hm (by decide +kernel) ha (by decide) (by decide) he hpl
/-- int(text) -/
def gIntS : GA := fun ds Q => match ds with
  | [.str a] => ∃ n, PySem.intText? a = some n ∧ a.length ≤ 640 ∧ Q (.int n)
  | _ => False
theorem de_intS (hg : Gl X "int") (hm : X.mg "int" = none) (ha : PDA X W [e] da) (he : starEach [e] X.env = (false, eval e X.env) :: starEach [] X.env := by rfl) (hpl : (backTo pos (starEach [] X.env)).any (·.1) = false := by rfl) : PDE X W (.Call (.Name "int" p) [e] [] pos) (dCa gIntS da) :=
  de_caT call_int_str (by
    intro F H xs ds Q k s r h q
    unfold gIntS at h
    split at h
    · obtain ⟨v, rfl, r1⟩ := reps1 r
      cases r1.str_of
      obtain ⟨n, h1, h2, h3⟩ := h
      exact ⟨_, _, rfl, h1, h2, ext_here s (.int _) h3 q⟩
    · exact h.elim) hg hm (by decide +kernel) ha (by decide) (by decide) he hpl
end

/-! ### calls by names alone -/
/-- keywords, as arguments -/
structure PDK (X : Cx) (W : Ent) (kws : List Keyword) (da : DA) : Prop where
  ex : ∃ ta, PK X kws ta ∧ SndA W ta da
section
variable {X : Cx} {W : Ent} {e o : Expr} {de : DE} {da : DA} {kws : List Keyword} {nm : Option Str} {kpos : Pos}
theorem dk_nil : PDK X W [] dNil := ⟨_, pk_nil, snd_nil⟩
theorem dk_cons (ha : PDE X W e de) (hr : PDK X W kws da) : PDK X W (⟨nm, e, kpos⟩ :: kws) (dCons de da) := by
  obtain ⟨ta, a1, a2⟩ := ha.ex
  obtain ⟨tb, b1, b2⟩ := hr.ex
  exact ⟨_, pk_cons a1 b1, snd_cons a2 b2⟩
end
def tCallK0 (m : Nat) (sp : Sp) (gV : List V → List V → List V) (E : XK) (tk : TA) : TE := fun σ H Q => tk σ H fun zs H2 => zs.length = m ∧ sp (gV [] zs) H2 Q E
/-- f(k = v, ..) -/
theorem pe_callK0 {X : Cx} {CX : CXT} {k : Nat} {f : Addr} {fd : FuncData} {ps ks : List Str} {sp : Sp} {E : XK} {x : Str} {p pos : Pos} {kws : List Keyword} {tk : TA} {g : List Value → List Value → List Value} {gV : List V → List V → List V}
    (F : FnOk X.prog X.w X.K X.mg X.base CX k f fd ps sp) (hr : Room k X.A) (hg : Gl X x) (hm : X.mg x = some (.ref f)) (hk : PySem.W.keepIn X.K (.ref f) = true) (hb : KBn X.K fd ps 0 ks g gV) (hx : Passes CX X E)
    (hkw : PK X kws tk) (hall : (backToKw pos (keywordEach kws X.env)).all (·.1.isSome) = true := by rfl) (hks : (backToKw pos (keywordEach kws X.env)).filterMap (·.1) = ks := by rfl)
    (hdb : (x == ("__debug__" : Str)) = false := by decide)
    (hpl : ((backTo pos (starEach [] X.env)).any (·.1) || (backToKw pos (keywordEach kws X.env)).any (·.1.isNone)) = false := by rfl) :
    PE X (.Call (.Name x p) [] kws pos) (tCallK0 ks.length sp gV E tk) := by
  refine ⟨fun pins s σ H Q I h => ?_⟩
  refine wpAny_Call_Name_kw (ld_glob I hg hm ?_ hdb)
  refine PySem.W.callWith_KW0 (h₀ := X.base) I.ok.mod.kin hk hall ?_ hpl
  refine thn (hkw.run pos pins s σ H _ I h) fun ws s2 ⟨zs, H2, I2, rz, l2, q2⟩ => ⟨I2.kIn, ?_⟩
  rw [hks]
  exact run_fnN F hr hb hx I2 .nil rz rfl l2 q2
/-- a call by names alone: pm puts the values in the parameters' order -/
def dCallK0 (g : GSp) (m : Nat) (pm : List D → List D) (dx : DX) (da : DA) : DE := fun ρ Q => da ρ fun ds ρ1 => ds.length = m ∧ g ((pm ds).map .fz) (fun r _ => r.out fun d => Q d ρ1) (fun C z _ => dx C z ρ1)
section
variable {W : Ent} {E : XK} {dx : DX} {g : GSp} {da : DA} {tk : TA}
theorem snd_callK0 {m : Nat} {pm : List D → List D} {gV : List V → List V → List V} (X0 : ExL W E dx) (hpm : ∀ F vs ds, vs.length = m → Reps F vs ds → Reps F (gV [] vs) (pm ds)) (ha : SndA W tk da) : SndE W (tCallK0 m (spOf g) gV E tk) (dCallK0 g m pm dx da) := by
  intro F H σ τ ρ ε Q k R h q
  refine ha F H σ τ ρ ε _ _ R h fun F1 H1 ρ1 vs ds R1 s1 r1 h1 => ?_
  have hl : vs.length = m := r1.length.trans h1.1
  refine ⟨hl, ?_⟩
  have h1 := h1.2
  refine ⟨F1, fun _ => [], _, _, _, Rel.enter0 R1.ex (hpm F1 vs ds hl r1), fun j c e => ?_, h1, ?_, ?_⟩
  · obtain ⟨d, z, _⟩ := fzs_get e
    cases z
  · intro r args' hr hio v F' H' A
    · have ex := A.out0
      cases r with
      | fz d => exact q F' H' ρ1 v d (R1.ext ex) (s1.trans ex.fF) A.outFz hr
      | ow c =>
        obtain ⟨fp, c1, c2⟩ := A.outOw
        have R2 := R1.extNew ex c1 c2
        cases e : c.d with
        | none =>
          have hr : (match c.d with | some d => Q d ρ1 | none => False) := hr
          rw [e] at hr
          exact hr.elim
        | some d =>
          have hr : (match c.d with | some d => Q d ρ1 | none => False) := hr
          rw [e] at hr
          obtain ⟨F2, r2, s2, R3⟩ := R2.freezeNew e
          exact q F2 H' ρ1 v d R3 ((s1.trans ex.fF).trans s2) r2 hr
      | no => exact (show False from hr).elim
      | io c => cases hio
  · intro C z args' hz x F' H' A
    obtain ⟨fpx, x1, x2⟩ := A.outOw
    exact X0 F' H' σ τ ρ1 ε x z C (R1.extNew A.out0 x1 x2) hz
end
section
variable {X : Cx} {W : Ent} {E : XK} {dx : DX} {g : GSp} {da : DA} {f : Addr} {k : Nat} {fd : FuncData} {ps : List Str} {x : Str} {p pos : Pos} {kws : List Keyword} {ks : List Str}
theorem de_callK0 {m : Nat} {pm : List D → List D} {gv : List Value → List Value → List Value} {gV : List V → List V → List V} (X0 : ExL W E dx) (tk : L2N.Takes X (fun cls d _ H => E cls d H)) (Fn : FnOk X.prog X.w X.K X.mg X.base (L2N.CX X.prog X.w) k f fd ps (spOf g)) (hr : Room k X.A) (hg : Gl X x) (hm : X.mg x = some (.ref f)) (hk : PySem.W.keepIn X.K (.ref f) = true)
    (hb : KBn X.K fd ps 0 ks gv gV) (hpm : ∀ F vs ds, vs.length = m → Reps F vs ds → Reps F (gV [] vs) (pm ds)) (ha : PDK X W kws da)
    (hall : (backToKw pos (keywordEach kws X.env)).all (·.1.isSome) = true := by rfl) (hks : (backToKw pos (keywordEach kws X.env)).filterMap (·.1) = ks := by rfl) (hdb : (x == ("__debug__" : Str)) = false := by decide)
    (hpl : ((backTo pos (starEach [] X.env)).any (·.1) || (backToKw pos (keywordEach kws X.env)).any (·.1.isNone)) = false := by rfl) (hml : ks.length = m := by rfl) :
    PDE X W (.Call (.Name x p) [] kws pos) (dCallK0 g m pm dx da) := by
  subst hml
  obtain ⟨ta, a1, a2⟩ := ha.ex
  exact ⟨_, pe_callK0 Fn hr hg hm hk hb (L2N.passes_call tk fun _ _ _ _ h => h) a1 hall hks hdb hpl, snd_callK0 X0 hpm a2⟩
end
/-- how names alone are bound: one after another as the parameters stand -/
theorem kbn_same {K : PySem.W.Frag} {fd : FuncData} {ps : List Str} (h : ∀ us : List Value, us.length = ps.length → bindArgs fd ⟨[], ps.zip us⟩ = pure (ps.zip us)) : KBn K fd ps 0 ps (fun _ ws => ws) (fun _ ws => ws) :=
  ⟨fun s us ws _ h0 hl => (by
    have e : us = [] := List.length_eq_zero_iff.mp h0
    subst e
    exact .of_eq (h ws hl)), fun _ r => r⟩
/-- a def of the top, called by its names -/
def CalK (P : Program) (w : World) (K : PySem.W.Frag) (mg : Str → Option Value) (base : Heap) (x : Str) (k : Nat) (ps : List Str) (g : GSp) : Prop := ∃ (f : Addr) (fd : FuncData), FnOk P w K mg base (L2N.CX P w) k f fd ps (spOf g) ∧ mg x = some (.ref f) ∧ PySem.W.keepIn K (.ref f) = true ∧ Binds K fd ps [] ∧ KBn K fd ps 0 ps (fun _ ws => ws) (fun _ ws => ws)
theorem CalK.cal {P : Program} {w : World} {K : PySem.W.Frag} {mg : Str → Option Value} {base : Heap} {x : Str} {k : Nat} {ps : List Str} {g : GSp} (h : CalK P w K mg base x k ps g) : Cal P w K mg base x k ps g := by
  obtain ⟨f, fd, h1, h2, h3, h4, _⟩ := h
  exact ⟨f, fd, h1, h2, h3, h4⟩
section
variable {α : Type} {x y z u : α} {l : List α}
theorem atI_0 : L2.atI (x :: l) 0 = some x := atI_nat (k := 0) rfl
theorem atI_1 : L2.atI (x :: y :: l) 1 = some y := atI_nat (k := 1) rfl
theorem atI_2 : L2.atI (x :: y :: z :: l) 2 = some z := atI_nat (k := 2) rfl
theorem atI_3 : L2.atI (x :: y :: z :: u :: l) 3 = some u := atI_nat (k := 3) rfl
theorem cutX_head {i : Int} (h : 0 ≤ i) : cutX l none (some i) = l.take i.toNat := by
  unfold cutX
  rw [sIx_no, sIx_pos h, List.drop_zero, Nat.sub_zero, ← List.take_eq_take_min]
end
local macro_rules
  | `(tactic| simp_arith [14]) => `(tactic| simp_arith [14, true_and])
  | `(tactic| simp_arith [14, $ls,*]) => `(tactic| simp_arith [13, dJoined, dJs, dFmt, gStr1, gIntS, gPartition, dCallK0, gIn, atI_0, atI_1, atI_2, atI_3, $ls,*])

open PySem L2
/-! ### the script: read, never changed, wherever it stands -/
def scrX (K : PySem.W.Frag) (ns : List Int) : XCell where
  rel := fun F _ v fp => ∃ a, v = .ref a ∧ fp = [] ∧ ∀ H', Same F H' → SqL K H' a (ns.map V.int)
  loc := by
    rintro F F' H H' v fp ⟨a, e1, e2, h⟩ s _
    exact ⟨a, e1, e2, fun H2 s2 => h H2 (s.trans s2)⟩
  there := by
    rintro F H v fp ⟨a, e1, e2, h⟩ b m
    rw [e2] at m
    cases m
abbrev scrC (K : PySem.W.Frag) (ns : List Int) : Cell := .ext (scrX K ns)
section
variable {X : Cx} {W : Ent} {F H : Hp} {σ τ : L2.St} {ρ ε : Rho} {i : Nat} {s : Slot} {ns : List Int} {K : PySem.W.Frag}
theorem At.scr (R : At W F H σ τ ρ ε) (hs : ρ[i]? = some s) (hc : s.cell = some (scrC K ns)) : ∃ a, σ[i]? = some (some (.ref a)) ∧ ∀ H', Same F H' → SqL K H' a (ns.map V.int) := by
  obtain ⟨v, fp, h1, h2, _⟩ := R.cellX hs hc
  obtain ⟨a, rfl, _, h⟩ := h2
  exact ⟨a, h1, h⟩
theorem walk_scr {a : Addr} (h : ∀ H', Same F H' → SqL K H' a (ns.map V.int)) : WalkD (Itl K a) F (ns.map PyData.int) := fun i F2 H s2 sH => by
  have hH := h H (s2.trans sH)
  refine ⟨fun d hd => ?_, fun hl => ⟨_, hH, by rw [List.length_map] at hl ⊢; exact hl⟩⟩
  rw [List.getElem?_map] at hd
  cases e : ns[i]? with
  | none => rw [e] at hd; cases hd
  | some n =>
    rw [e] at hd
    cases hd
    have hv : (ns.map V.int)[i]? = some (.int n) := by rw [List.getElem?_map, e]; rfl
    refine ⟨⟨_, _, hH, hv⟩, fun x H' y => ?_⟩
    obtain ⟨rfl, y⟩ := y
    have e := y _ hH
    rw [hv] at e
    cases e
    exact ⟨F2, Ext.refl sH, .int n⟩
def diScr (K : PySem.W.Frag) (i : Nat) : DI := fun ρ Q => ∃ s ns, ρ[i]? = some s ∧ s.cell = some (scrC K ns) ∧ Q (ns.map PyData.int) ρ
def dLenScr (K : PySem.W.Frag) (i : Nat) : DE := fun ρ Q => ∃ s ns, ρ[i]? = some s ∧ s.cell = some (scrC K ns) ∧ Q (.int ns.length) ρ
def dSlScr (K : PySem.W.Frag) (i : Nat) (dl dh : DO) : DE := fun ρ Q => (∃ s ns, ρ[i]? = some s ∧ s.cell = some (scrC K ns)) ∧ dl ρ fun lo ρ1 => dh ρ1 fun hi ρ2 => ∃ s ns, ρ2[i]? = some s ∧ s.cell = some (scrC K ns) ∧ Q (.list ((cutX ns lo hi).map PyData.int)) ρ2
def dIxScr (K : PySem.W.Frag) (i : Nat) (db : DE) : DE := fun ρ Q => (∃ s ns, ρ[i]? = some s ∧ s.cell = some (scrC K ns)) ∧ db ρ fun e ρ1 => match e with
  | .int j => ∃ s ns z, ρ1[i]? = some s ∧ s.cell = some (scrC K ns) ∧ L2.atI ns j = some z ∧ Q (.int z) ρ1
  | _ => False
variable {tg e b : Expr} {pos p p2 : Pos} {db : DE} {dl dh : DO} {lo hi : Option Expr}
theorem di_scr (h : PE X e (tVar i)) : PDI X W tg e (diScr X.K i) := by
  refine ⟨_, pi_list h, fun F H σ τ ρ ε Q R At0 h q => ?_⟩
  obtain ⟨s, ns, hs, hc, h⟩ := h
  obtain ⟨a, h1, h2⟩ := At0.scr hs hc
  exact ⟨_, h1, a, rfl, ⟨_, h2 H At0.ex⟩, q F H ρ _ _ At0 (Same.refl _) (walk_scr h2) h⟩
theorem de_lenScr (hg : Gl X "len") (hm : X.mg "len" = none) (hy : PE X e (tVar i)) (he : starEach [e] X.env = (false, eval e X.env) :: starEach [] X.env := by rfl) (hpl : (backTo pos (starEach [] X.env)).any (·.1) = false := by rfl) : PDE X W (.Call (.Name "len" p) [e] [] pos) (dLenScr X.K i) := by
  refine ⟨_, pe_callB call_len_seq hg hm PySem.boot_len (pa_cons hy pa_nil he) (by decide) (by decide) he hpl, fun F H σ τ ρ ε Q k R h q => ?_⟩
  obtain ⟨s, ns, hs, hc, h⟩ := h
  obtain ⟨a, h1, h2⟩ := R.scr hs hc
  refine ⟨_, h1, a, _, rfl, .inl (h2 H R.ex), ?_⟩
  rw [List.length_map]
  exact q F H ρ _ _ R (Same.refl _) (.int _) h
theorem de_slScr (ha : PE X e (tVar i)) (hl : PDO X W lo dl) (hh : PDO X W hi dh) : PDE X W (.Subscript e (.Slice lo hi none p2) pos) (dSlScr X.K i dl dh) := by
  obtain ⟨tl, b1, b2⟩ := hl.ex
  obtain ⟨th, c1, c2⟩ := hh.ex
  refine ⟨_, pe_slice sl_list ha b1 c1, fun F H σ τ ρ ε Q k R h q => ?_⟩
  obtain ⟨⟨s, ns, hs, hc⟩, h⟩ := h
  obtain ⟨a, g1, _⟩ := R.scr hs hc
  refine ⟨_, g1, b2 F H σ τ ρ ε _ _ R h fun F1 H1 ρ1 lo R1 s1 h1 => c2 F1 H1 σ τ ρ1 ε _ _ R1 h1 fun F2 H2 ρ2 hi R2 s2 h2 => ?_⟩
  obtain ⟨s, ns, hs, hc, h2⟩ := h2
  obtain ⟨a', g2, k2⟩ := R2.scr hs hc
  rw [g1] at g2
  cases g2
  refine ⟨a, _, rfl, k2 H2 R2.ex, fun np hn => ?_⟩
  have e : cutV (ns.map V.int) lo hi = (cutX ns lo hi).map V.int := by
    unfold cutV cutX
    rw [List.length_map, List.map_take, List.map_drop]
  rw [e]
  have ex := Ext.new (o := .lst ((cutX ns lo hi).map V.int)) R2.ex hn
  exact q _ _ ρ2 _ _ (R2.ext ex) ((s1.trans s2).trans ex.fF) (.lst upd_same (Reps.map_int _)) h2
theorem de_ixScr (ha : PE X e (tVar i)) (hb : PDE X W b db) (hs : PlainIx b := by intro _ _; rfl) : PDE X W (.Subscript e b pos) (dIxScr X.K i db) := by
  obtain ⟨tb, b1, b2⟩ := hb.ex
  refine ⟨_, pe_ix ix_list ha b1 hs, fun F H σ τ ρ ε Q k R h q => ?_⟩
  obtain ⟨⟨s, ns, hs, hc⟩, h⟩ := h
  obtain ⟨a, g1, _⟩ := R.scr hs hc
  refine ⟨_, g1, b2 F H σ τ ρ ε _ _ R h fun F1 H1 ρ1 v d R1 s1 r1 h1 => ?_⟩
  split at h1
  · obtain ⟨s, ns, z, hs, hc, hz, h1⟩ := h1
    obtain ⟨a', g2, k2⟩ := R1.scr hs hc
    rw [g1] at g2
    cases g2
    cases r1.int_of
    refine ⟨a, _, _, .int z, rfl, rfl, k2 H1 R1.ex, ?_, q F1 H1 ρ1 _ _ R1 s1 (.int z) h1⟩
    have hz' := hz
    unfold L2.atI at hz' ⊢
    rw [List.length_map]
    cases e : L2.ixN ns.length _ with
    | none => rw [e] at hz'; cases hz'
    | some m => rw [e] at hz'; show (ns.map V.int)[m]? = _; rw [List.getElem?_map, show ns[m]? = _ from hz']; rfl
  · exact h1.elim
end
/-! a call that hands a cell in first and brings a new thing, to be held -/
def dCallRN (g : GSp) (i : Nat) (dx : DX) (da : DA) : DN := fun ρ Q => (∃ s c, ρ[i]? = some s ∧ s.cell = some c) ∧ da ρ fun ds ρ1 => ∃ s c, ρ1[i]? = some s ∧ s.cell = some c ∧
  g (.io c :: ds.map .fz) (fun r args' => match args' with
    | .io c' :: _ => match r with
      | .ow cn => Q cn (ρ1.set i (s.put c'))
      | _ => False
    | _ => False) (fun C z args' => match args' with
    | .io c' :: _ => dx C z (ρ1.set i (s.put c'))
    | _ => False)
section
variable {W : Ent} {E : XK} {dx : DX} {g : GSp} {ta : TA} {da : DA}
theorem snd_callRN {i : Nat} (X0 : ExL W E dx) (ha : SndA W ta da) : SndN W (tCall (spOf g) [] E (tCons (tVar i) ta)) (dCallRN g i dx da) := by
  intro F H σ τ ρ ε Q k R h q
  obtain ⟨⟨s, c, hs, hc⟩, h⟩ := h
  obtain ⟨v0, _, g1, _⟩ := R.cellX hs hc
  refine ⟨v0, g1, ha F H σ τ ρ ε _ _ R h fun F1 H1 ρ1 vs ds R1 s1 r1 h1 => ?_⟩
  obtain ⟨s, c, hs, hc, h1⟩ := h1
  obtain ⟨v1, fp, g2, c1, c2, c3, mk⟩ := R1.cellX hs hc
  rw [g1] at g2
  cases g2
  have e0 : (v0 :: vs) ++ [] = v0 :: vs := List.append_nil _
  show spOf g ((v0 :: vs) ++ []) H1 k E
  rw [e0]
  refine ⟨F1, fun _ => fp, _, _, _, Rel.enter1 R1.ex c1 c2 r1, fun j c' e => ?_, h1, ?_, ?_⟩
  · cases j with
    | zero => cases e
    | succ j =>
      obtain ⟨d, z, _⟩ := fzs_get (by rw [List.getElem?_cons_succ] at e; exact e)
      cases z
  · intro r args' hr hio v F' H' A
    split at hr
    · split at hr
      · next c' _ _ cn =>
        obtain ⟨fq, d1, d2, d3⟩ := outOwX A
        obtain ⟨fj, b1, b2, b3⟩ := d3 0 c' rfl v0 rfl
        -- first as if what is new were not there
        let H2 : Hp := fun a => if a ∈ fq then none else H' a
        have out2 : ∀ a, a ∉ fq → H2 a = H' a := fun a m => if_neg m
        have in2 : ∀ a, a ∈ fq → H2 a = none := fun a m => if_pos m
        have nq : ∀ a o, H1 a = some o → a ∉ fq := fun a o e m => by rw [(d2 a m).2] at e; cases e
        have sF2 : Same F' H2 := fun a o e => by
          rw [out2 a fun m => by rw [(d2 a m).1] at e; cases e]
          exact A.ex a o e
        have R2 := mk c' F' H2 fj A.rel.f0 sF2 A.rel.gr (fun a o n e => by rw [out2 a (nq a o e)]; exact A.rel.fr a o e fun _ => n) b2 (fun a ha => by
          obtain ⟨o, e⟩ := c3 a ha
          rw [out2 a (nq a o e)]
          exact A.rel.st a o e) (b1.mono (Same.refl _) fun a ha => out2 a (b3 a ha))
        have ex : Ext F' H2 F' H' := ⟨Same.refl _, fun a o e => by
          by_cases m : a ∈ fq
          · rw [in2 a m] at e; cases e
          · rw [out2 a m] at e; exact e, A.ex, fun a o e => .inl e⟩
        exact q F' H' _ v cn (R2.extNew ex d1 fun a ha => ⟨(d2 a ha).1, in2 a ha⟩) (s1.trans A.rel.f0) hr
      · exact hr.elim
    · exact hr.elim
  · intro C z args' hz x F' H' A
    split at hz
    · exact X0 F' H' σ τ _ ε x z C (backOw c3 mk A) hz
    · exact hz.elim
end
section
variable {X : Cx} {W : Ent} {E : XK} {dx : DX} {g : GSp} {da : DA} {f : Addr} {k : Nat} {fd : FuncData} {ps : List Str} {x : Str} {p pos : Pos} {es : List Expr}
theorem dn_callRN {i : Nat} {y : Str} {py : Pos} (X0 : ExL W E dx) (tk : L2N.Takes X (fun cls d _ H => E cls d H)) (Fn : FnOk X.prog X.w X.K X.mg X.base (L2N.CX X.prog X.w) k f fd ps (spOf g)) (hr : Room k X.A) (hg : Gl X x) (hm : X.mg x = some (.ref f)) (hk : PySem.W.keepIn X.K (.ref f) = true) (hb : Binds X.K fd ps [])
    (hy : PE X (.Name y py) (tVar i)) (ha : PDA X W es da) (hst : starEach (.Name y py :: es) X.env = (false, eval (.Name y py) X.env) :: starEach es X.env := by rfl) (hdb : (x == ("__debug__" : Str)) = false := by decide) (hpl : (backTo pos (starEach es X.env)).any (·.1) = false := by rfl) :
    PDN X W (.Call (.Name x p) (.Name y py :: es) [] pos) (dCallRN g i dx da) := by
  obtain ⟨ta, a1, a2⟩ := ha.ex
  exact ⟨_, pe_call Fn hr hg hm hk hb .nil (L2N.passes_call tk fun _ _ _ _ h => h) (pa_cons hy a1 hst) hdb hst hpl, snd_callRN X0 a2⟩
end

open PySem L2
/-! ### the end of a law -/
section
variable {P : Program} {w : World} {K : PySem.W.Frag} {mg : Str → Option Value} {base : Heap}
/-- what is never called -/
theorem fn_never {CX : CXT} {k : Nat} {f : Addr} {fd : FuncData} {ps : List Str} {g : GSp} (h : ∀ args Q E, ¬ g args Q E) : FnOk P w K mg base CX k f fd ps (spOf g) :=
  ⟨fun vs H Q E q => by
    obtain ⟨F, fp, args, Q0, E0, _, _, z, _⟩ := q
    exact (h _ _ _ z).elim, fun A outer s H args us vs Q E hr he hb hv q => by
    obtain ⟨F, fp, args, Q0, E0, _, _, z, _⟩ := q
    exact (h _ _ _ z).elim⟩
theorem law_in {H : Hp} {a : Addr} {ns : List Int} (g : GSp) (hS : SqL K H a (ns.map V.int)) (h : g [.io (scrC K ns)] (fun r _ => r = .fz (.bool true)) (fun _ _ _ => False)) : spOf g [.ref a] H (fun v _ => v = .bl true) (fun _ _ _ => False) := by
  refine ⟨H, fun _ => [], _, _, _, Rel.enter1 (Same.refl _) (c := scrC K ns) ⟨a, rfl, rfl, fun H' s => s.seq hS⟩ (by simp) .nil, fun j c e => ?_, h, fun r args' hr _ v F' H' A => ?_, fun C z args' hz => hz.elim⟩
  · cases j with
    | zero => cases e
    | succ j => cases e
  · subst hr
    exact A.outFz.bl_of
end
theorem walk_law {l : PySem.W.OpenLaw} {k : Nat} {q : Program} {loose : List Str} {XP : (Str → Option Value) → Heap → Prop} {YP : World → Heap → Prop} {d : DefRec} {K : Params → PySem.W.Frag} (g : PySem.W.Frag → GSp) (hn : l.most = some 63) (hdf : d.params.defaults = []) (hr : Room k callerA)
    (hY : ∀ (w : World) (h : Heap), YP w h → (K w.params).In h)
    (hg : ∀ (K : PySem.W.Frag) (ns : List Int), ns.length ≤ 63 → (∀ n ∈ ns, Builtin.Int.intBits n ≤ 1048576) → g K [.io (scrC K ns)] (fun r _ => r = .fz (.bool true)) (fun _ _ _ => False))
    (F : ∀ (w : World) (mg : Str → Option Value) (fa : Addr) (h : Heap), (K w.params).In h → h.Ns mainGlobals mg → mg d.name = some (.ref fa) →
      ∃ fd : FuncData, (∀ (s : Shared) (u : Value), BindsTo s fd ⟨[u], []⟩ [("script", u)]) ∧ ∀ base : Heap, (K w.params).In base → base.Ns mainGlobals mg → FnOk l.prog w (K w.params) mg base (L2N.CX l.prog w) k fa fd ["script"] (spOf (g (K w.params)))) :
    PySem.W.WalkO q loose XP YP l.row.toRowW d [] (fun f vs => PySem.call f vs) :=
  L2.walk_ofB (n := 63) (k := k) (x := "script") (CX := fun w => L2N.CX l.prog w) (sp := fun w => spOf (g (K w.params))) hn (by decide) hdf hr hY F (fun w H a ns hl hb _ hS => law_in (g (K w.params)) hS (hg _ ns hl hb)) fun w H s e s' z => by
    obtain ⟨a, B, H', cls, d, _, _, _, _, _, _, _, z⟩ := z
    exact z
/-- a def by its place in the top -/
theorem cal_mk {P : Program} {w : World} {K : PySem.W.Frag} {mg : Str → Option Value} {base : Heap} {x qual : Str} {st : Stmt} {f : Addr} {fd : FuncData} {k : Nat} {ps : List Str} {g : GSp} (F : FnOk P w K mg base (L2N.CX P w) k f fd ps (spOf g)) (Fn : Fun K x qual st f fd) (hm : mg x = some (.ref f)) (hb : Binds K fd ps []) : Cal P w K mg base x k ps g :=
  ⟨f, fd, F, hm, Fn.kp, hb⟩
theorem calK_mk {P : Program} {w : World} {K : PySem.W.Frag} {mg : Str → Option Value} {base : Heap} {x qual : Str} {st : Stmt} {f : Addr} {fd : FuncData} {k : Nat} {ps : List Str} {g : GSp} (F : FnOk P w K mg base (L2N.CX P w) k f fd ps (spOf g)) (Fn : Fun K x qual st f fd) (hm : mg x = some (.ref f)) (hb : Binds K fd ps []) (hk : KBn K fd ps 0 ps (fun _ ws => ws) (fun _ ws => ws)) : CalK P w K mg base x k ps g :=
  ⟨f, fd, F, hm, Fn.kp, hb, hk⟩
theorem fun_kbn {K : PySem.W.Frag} {x qual : Str} {st : Stmt} {f : Addr} {fd : FuncData} {ps : List Str} (F : Fun K x qual st f fd)
    (h : ∀ (kV doc pm : Value) (an : Option Addr) (cdv ct : Value) (us : List Value), us.length = ps.length → bindArgs (PySem.W.fnOf x qual (defArgs st) (defBody st) (defScope st) .none kV doc pm an cdv ct) ⟨[], ps.zip us⟩ = pure (ps.zip us)) : KBn K fd ps 0 ps (fun _ ws => ws) (fun _ ws => ws) := by
  obtain ⟨oc, od, kV, doc, pm, an, cdv, ct, osl, rfl, lk, hcd⟩ := F.ex
  exact kbn_same fun us hu => h kV doc pm an cdv ct us hu

open PySem L2
/-! ### calls that hand several cells in, at any places -/
abbrev AL := List (D ⊕ Nat)
inductive ArgsR (F : Hp) (σ : L2.St) (ρ : Rho) : AL → List V → List Slot → Prop
  | nil : ArgsR F σ ρ [] [] []
  | d {v : V} {d : D} {l : AL} {vs : List V} {as : List Slot} : Rep F v d → ArgsR F σ ρ l vs as → ArgsR F σ ρ (.inl d :: l) (v :: vs) (.fz d :: as)
  | c {i : Nat} {v : V} {s : Slot} {c : Cell} {l : AL} {vs : List V} {as : List Slot} : σ[i]? = some (some v) → ρ[i]? = some s → s.cell = some c → ArgsR F σ ρ l vs as → ArgsR F σ ρ (.inr i :: l) (v :: vs) (.io c :: as)
/-- no cell twice -/
def NdA (l : AL) : Prop := ∀ (j k : Nat) i, l[j]? = some (.inr i) → l[k]? = some (.inr i) → j = k
def putCell (ρ : Rho) (i : Nat) (c : Cell) : Rho := match ρ[i]? with
  | some s => ρ.set i (s.put c)
  | none => ρ
theorem putCell_len (ρ : Rho) (i : Nat) (c : Cell) : (putCell ρ i c).length = ρ.length := by
  unfold putCell
  split
  · rw [List.length_set]
  · rfl
def putBack : AL → List Slot → Rho → Rho
  | [], _, ρ => ρ
  | .inl _ :: l, as, ρ => putBack l as.tail ρ
  | .inr i :: l, as, ρ => putBack l as.tail (match as.head? with
    | some (.io c) => putCell ρ i c
    | _ => ρ)
/-- the cells come back where they were handed in -/
def shpA : AL → List Slot → Prop
  | [], _ => True
  | .inl _ :: l, as => shpA l as.tail
  | .inr _ :: l, as => (∃ c, as.head? = some (.io c)) ∧ shpA l as.tail
theorem tail_get {α : Type} : ∀ (as : List α) (j : Nat), as.tail[j]? = as[j + 1]?
  | [], j => rfl
  | a :: as, j => rfl
theorem head_get {α : Type} : ∀ (as : List α), as.head? = as[0]?
  | [] => rfl
  | a :: as => rfl
theorem shpA.at : ∀ {l : AL} {as : List Slot}, shpA l as → ∀ (j : Nat) (i : Nat), l[j]? = some (Sum.inr i) → ∃ c', as[j]? = some (Slot.io c')
  | [], _, _, j, i, e => by cases e
  | .inl d :: l, as, h, j, i, e => by
    cases j with
    | zero => cases e
    | succ j => rw [← tail_get]; exact shpA.at (l := l) h j i e
  | .inr k :: l, as, h, j, i, e => by
    cases j with
    | zero =>
      obtain ⟨⟨c, hc⟩, _⟩ := h
      exact ⟨c, by rw [← head_get]; exact hc⟩
    | succ j => rw [← tail_get]; exact shpA.at (l := l) h.2 j i e
theorem putBack_len : ∀ (l : AL) (as : List Slot) (ρ : Rho), (putBack l as ρ).length = ρ.length
  | [], _, _ => rfl
  | .inl _ :: l, as, ρ => putBack_len l as.tail ρ
  | .inr i :: l, as, ρ => by
    show (putBack l as.tail _).length = _
    rw [putBack_len]
    split
    · exact putCell_len _ _ _
    · rfl
theorem NdA.tail {x : D ⊕ Nat} {l : AL} (h : NdA (x :: l)) : NdA l := fun j k i h1 h2 => by
  have := h (j + 1) (k + 1) i h1 h2
  omega
/-- what stands at a place behind the call -/
theorem putBack_get : ∀ (l : AL) (as : List Slot) (ρ : Rho), NdA l → (∀ (j : Nat) (i : Nat), l[j]? = some (Sum.inr i) → ∃ c', as[j]? = some (Slot.io c')) → ∀ (k : Nat) s, (putBack l as ρ)[k]? = some s →
    (∃ (j : Nat) (c' : Cell) (s0 : Slot), l[j]? = some (.inr k) ∧ as[j]? = some (.io c') ∧ ρ[k]? = some s0 ∧ s = s0.put c') ∨ (ρ[k]? = some s ∧ ∀ j : Nat, l[j]? ≠ some (.inr k))
  | [], as, ρ, nd, sh, k, s, h => .inr ⟨h, fun j e => by cases e⟩
  | .inl d :: l, as, ρ, nd, sh, k, s, h => by
    rcases putBack_get l as.tail ρ nd.tail (fun j i e => by rw [tail_get]; exact sh (j + 1) i e) k s h with ⟨j, c', s0, e1, e2, e3, e4⟩ | ⟨e1, e2⟩
    · exact .inl ⟨j + 1, c', s0, e1, by rw [← tail_get]; exact e2, e3, e4⟩
    · refine .inr ⟨e1, fun j e => ?_⟩
      cases j with
      | zero => cases e
      | succ j => exact e2 j e
  | .inr i :: l, as, ρ, nd, sh, k, s, h => by
    obtain ⟨c, ec⟩ := sh 0 i rfl
    have h : (putBack l as.tail (match as.head? with
      | some (.io c) => putCell ρ i c
      | _ => ρ))[k]? = some s := h
    rw [head_get, ec] at h
    have h : (putBack l as.tail (putCell ρ i c))[k]? = some s := h
    unfold putCell at h
    have no : ∀ j : Nat, l[j]? ≠ some (.inr i) := fun j e => by
      have := nd 0 (j + 1) i rfl e
      omega
    rcases putBack_get l as.tail _ nd.tail (fun j i e => by rw [tail_get]; exact sh (j + 1) i e) k s h with ⟨j, c', s0, e1, e2, e3, e4⟩ | ⟨e1, e2⟩
    · have hk : i ≠ k := fun z => no j (z ▸ e1)
      refine .inl ⟨j + 1, c', s0, e1, by rw [← tail_get]; exact e2, ?_, e4⟩
      split at e3
      · rw [List.getElem?_set_ne hk] at e3; exact e3
      · exact e3
    · by_cases hk : i = k
      · subst hk
        split at e1
        · next s1 es =>
          rw [List.getElem?_set_self (lt_of_get es)] at e1
          exact .inl ⟨0, c, s1, rfl, ec, es, (Option.some.inj e1).symm⟩
        · next es => rw [es] at e1; cases e1
      · refine .inr ⟨?_, fun j e => ?_⟩
        · split at e1
          · rw [List.getElem?_set_ne hk] at e1; exact e1
          · exact e1
        · cases j with
          | zero => exact hk (Sum.inr.inj (Option.some.inj e))
          | succ j => exact e2 j e
theorem ArgsR.at {F : Hp} {σ : L2.St} {ρ : Rho} {l : AL} {vs : List V} {as : List Slot} (h : ArgsR F σ ρ l vs as) : vs.length = as.length ∧ l.length = as.length ∧ ∀ (j : Nat) s, as[j]? = some s →
    (∃ d v, s = .fz d ∧ l[j]? = some (.inl d) ∧ vs[j]? = some v ∧ Rep F v d) ∨ ∃ i v s0 c, s = .io c ∧ l[j]? = some (.inr i) ∧ vs[j]? = some v ∧ σ[i]? = some (some v) ∧ ρ[i]? = some s0 ∧ s0.cell = some c := by
  induction h with
  | nil => exact ⟨rfl, rfl, fun j s e => by cases e⟩
  | d r t ih =>
    refine ⟨by rw [List.length_cons, List.length_cons, ih.1], by rw [List.length_cons, List.length_cons, ih.2.1], fun j s e => ?_⟩
    cases j with
    | zero => cases e; exact .inl ⟨_, _, rfl, rfl, rfl, r⟩
    | succ j => exact ih.2.2 j s e
  | c h1 h2 h3 t ih =>
    refine ⟨by rw [List.length_cons, List.length_cons, ih.1], by rw [List.length_cons, List.length_cons, ih.2.1], fun j s e => ?_⟩
    cases j with
    | zero => cases e; exact .inr ⟨_, _, _, _, rfl, rfl, rfl, h1, h2, h3⟩
    | succ j => exact ih.2.2 j s e
theorem put_cell {s : Slot} {c c' : Cell} (h : s.cell = some c) : (s.put c').cell = some c' := by cases s <;> first | rfl | cases h
/-- into a call with cells, and back -/
theorem At.enterG {W : Ent} {F H : Hp} {σ τ : L2.St} {ρ ε : Rho} {l : AL} {vs : List V} {as : List Slot} (R : At W F H σ τ ρ ε) (h : ArgsR F σ ρ l vs as) (nd : NdA l) :
    ∃ own : Nat → List Addr, (∀ j, ∀ a ∈ own j, ∃ o, H a = some o) ∧ Rel (entOf H F own vs) F H (vs.map some) as ∧
      ∀ (F' H2 : Hp) (as' : List Slot) (fq : Nat → List Addr), Same F F' → Same F' H2 → (∀ a o, F' a = some o → F a = some o ∨ H a = none) → (∀ a o, H a = some o → (∀ j, a ∉ own j) → H2 a = some o) → (∀ a o, H a = some o → ∃ o', H2 a = some o') →
        (∀ (j : Nat) i, l[j]? = some (.inr i) → ∃ c', as'[j]? = some (.io c')) →
        (∀ (j : Nat) c' v, as'[j]? = some (.io c') → vs[j]? = some v → CellAt F' H2 v (fq j) c' ∧ ∀ a ∈ fq j, F' a = none ∧ (H a = none ∨ a ∈ own j)) →
        (∀ (j k : Nat) c c', j ≠ k → as'[j]? = some (.io c) → as'[k]? = some (.io c') → ∀ a ∈ fq j, a ∉ fq k) → At W F' H2 σ τ (putBack l as' ρ) ε := by
  obtain ⟨fp, o1, o2⟩ := R.rel.ow
  obtain ⟨lv, la, hat⟩ := h.at
  let own : Nat → List Addr := fun j => match l[j]? with
    | some (.inr i) => fp i
    | _ => []
  have own_eq : ∀ {j i : Nat}, l[j]? = some (.inr i) → own j = fp i := fun {j i} e => by show (match l[j]? with | some (.inr i) => fp i | _ => []) = _; rw [e]
  have own_no : ∀ {j : Nat} {a}, a ∈ own j → ∃ i, l[j]? = some (.inr i) ∧ a ∈ fp i := fun {j a} m => by
    have m : a ∈ (match l[j]? with | some (.inr i) => fp i | _ => []) := m
    split at m
    · next i e => exact ⟨i, e, m⟩
    · cases m
  -- a cell of the walk's, handed in
  have cel : ∀ {j i : Nat}, l[j]? = some (.inr i) → ∃ v s0 c, as[j]? = some (.io c) ∧ vs[j]? = some v ∧ σ[i]? = some (some v) ∧ ρ[i]? = some s0 ∧ s0.cell = some c ∧ CellAt F H v (fp i) c ∧ ∀ a ∈ fp i, F a = none ∧ (W.H0 a = none ∨ (a ∈ W.own0 i ∧ ∃ c', s0 = .io c')) := fun {j i} e => by
    have hj : j < as.length := by have := lt_of_get e; omega
    rcases hat j _ (List.getElem?_eq_getElem hj) with ⟨d, v, _, q, _⟩ | ⟨i', v, s0, c, q1, q2, q3, q4, q5, q6⟩
    · rw [e] at q; cases q
    · rw [e] at q2
      cases q2
      obtain ⟨⟨v', g1, g2⟩, g3⟩ := o1 i s0 c (getApp1 q5) q6
      rw [get_app (lt_of_get q4), q4] at g1
      cases g1
      exact ⟨v, s0, c, by rw [List.getElem?_eq_getElem hj, q1], q3, q4, q5, q6, g2, g3⟩
  have there : ∀ j, ∀ a ∈ own j, ∃ o, H a = some o := fun j a m => by
    obtain ⟨i, e, m⟩ := own_no m
    obtain ⟨v, s0, c, _, _, _, _, _, g2, _⟩ := cel e
    exact g2.there a m
  refine ⟨own, there, ⟨R.ex, by rw [List.length_map, lv], fun j d e => ?_, fun j c e => rfl, ⟨own, fun j s c e ec => ?_, fun j k s s' c c' hjk e ec e' ec' a ha hb => ?_⟩, fun a o e _ => e, fun a o e => ⟨o, e⟩, fun a o e => .inl e, Same.refl _⟩, fun F' H2 as' fq sF sX gr fr st sh cl dj => ?_⟩
  · rcases hat j _ e with ⟨d', v, q1, _, q3, q4⟩ | ⟨i, v, s0, c, q1, _⟩
    · cases q1
      exact ⟨v, by rw [List.getElem?_map, q3]; rfl, q4⟩
    · cases q1
  · rcases hat j _ e with ⟨d', v, q1, _⟩ | ⟨i, v, s0, c0, q1, q2, q3, q4, q5, q6⟩
    · subst q1; cases ec
    · subst q1
      cases ec
      obtain ⟨v', s1, c1, g1, g2, _, _, _, g5, g6⟩ := cel q2
      rw [e] at g1
      cases g1
      refine ⟨⟨v', by rw [List.getElem?_map, g2]; rfl, by rw [own_eq q2]; exact g5⟩, fun a ha => ?_⟩
      have ha' := ha
      rw [own_eq q2] at ha'
      exact ⟨(g6 a ha').1, .inr ⟨ha, _, rfl⟩⟩
  · obtain ⟨i, ei, ma⟩ := own_no ha
    obtain ⟨i', ei', mb⟩ := own_no hb
    obtain ⟨v, s0, c0, _, _, _, h1, h2, _⟩ := cel ei
    obtain ⟨v', s0', c0', _, _, _, h1', h2', _⟩ := cel ei'
    refine o2 i i' s0 s0' c0 c0' (fun z => hjk (nd j k i ei (z ▸ ei'))) (getApp1 h1) h2 (getApp1 h1') h2' a ma mb
  · -- back
    classical
    have pl : (putBack l as' ρ).length = ρ.length := putBack_len l as' ρ
    have get : ∀ (k : Nat) s, (putBack l as' ρ ++ ε)[k]? = some s → (∃ (j : Nat) (c' : Cell) (s0 : Slot), l[j]? = some (.inr k) ∧ as'[j]? = some (.io c') ∧ ρ[k]? = some s0 ∧ s = s0.put c') ∨ ((ρ ++ ε)[k]? = some s ∧ (∀ j : Nat, l[j]? ≠ some (.inr k))) := fun k s e => by
      by_cases z : k < ρ.length
      · rw [get_app (by rw [pl]; exact z)] at e
        rcases putBack_get l as' ρ nd sh k s e with q | ⟨q1, q2⟩
        · exact .inl q
        · exact .inr ⟨by rw [get_app z]; exact q1, q2⟩
      · refine .inr ⟨?_, fun j ej => ?_⟩
        · rw [List.getElem?_append_right (by rw [pl]; omega), pl] at e
          rw [List.getElem?_append_right (by omega)]; exact e
        · obtain ⟨_, _, _, _, _, _, h1, _⟩ := cel ej
          exact z (lt_of_get h1)
    have notin : ∀ {k : Nat} {s c}, (ρ ++ ε)[k]? = some s → s.cell = some c → (∀ j : Nat, l[j]? ≠ some (.inr k)) → ∀ a ∈ fp k, ∀ j, a ∉ own j := fun {k s c} e ec hn a ha j m => by
      obtain ⟨i, ei, ma⟩ := own_no m
      obtain ⟨v, s0, c0, _, _, _, h1, h2, _⟩ := cel ei
      exact o2 k i s s0 c c0 (fun z => hn j (z ▸ ei)) e ec (getApp1 h1) h2 a ha ma
    let fpn : Nat → List Addr := fun k => if hk : ∃ j : Nat, l[j]? = some (.inr k) then fq (Classical.choose hk) else fp k
    have fpn_in : ∀ {j k : Nat}, l[j]? = some (.inr k) → fpn k = fq j := fun {j k} e => by
      have hk : ∃ j : Nat, l[j]? = some (.inr k) := ⟨j, e⟩
      show (if hk : ∃ j : Nat, l[j]? = some (.inr k) then fq (Classical.choose hk) else fp k) = _
      rw [dif_pos hk, nd _ _ k (Classical.choose_spec hk) e]
    have fpn_out : ∀ {k : Nat}, (∀ j : Nat, l[j]? ≠ some (.inr k)) → fpn k = fp k := fun {k} hn => dif_neg fun ⟨j, e⟩ => hn j e
    refine ⟨by rw [pl]; exact R.len, ⟨sX, by rw [List.length_append, List.length_append, pl]; have := R.rel.len; rw [List.length_append, List.length_append] at this; exact this, fun k d e => ?_, fun k c e => ?_, ⟨fpn, fun k s c e ec => ?_, fun k m s s' c c' hkm e ec e' ec' a ha => ?_⟩, fun a o e hn => ?_, fun a o e => ?_, fun a o e => ?_, R.rel.f0.trans sF⟩, R.nio⟩
    · rcases get k _ e with ⟨j, c', s0, e1, e2, e3, e4⟩ | ⟨e1, _⟩
      · obtain ⟨_, s1, c1, _, _, _, h1, h2, _⟩ := cel e1
        rw [h1] at e3
        cases e3
        have := put_cell (c' := c') h2
        rw [← e4] at this
        cases this
      · obtain ⟨v, h1, h2⟩ := R.rel.fz k d e1
        exact ⟨v, h1, h2.mono sF⟩
    · rcases get k _ e with ⟨j, c', s0, e1, e2, e3, e4⟩ | ⟨e1, _⟩
      · cases s0 with
        | io c0 => exact R.rel.io k c0 (getApp1 e3)
        | _ => cases e4
      · exact R.rel.io k c e1
    · rcases get k _ e with ⟨j, c', s0, e1, e2, e3, e4⟩ | ⟨e1, hn⟩
      · obtain ⟨v, s1, c1, _, h0, h00, h1, h2, h3, h4⟩ := cel e1
        rw [h1] at e3
        cases e3
        have ec2 := put_cell (c' := c') h2
        rw [← e4, ec] at ec2
        cases ec2
        obtain ⟨g1, g2⟩ := cl j c v e2 h0
        rw [fpn_in e1]
        refine ⟨⟨v, by rw [get_app (lt_of_get h00)]; exact h00, g1⟩, fun a ha => ⟨(g2 a ha).1, ?_⟩⟩
        rcases (g2 a ha).2 with z | z
        · cases y : W.H0 a with
          | none => exact .inl rfl
          | some o =>
            obtain ⟨o', q⟩ := R.rel.st a o y
            rw [z] at q; cases q
        · rw [own_eq e1] at z
          rcases (h4 a z).2 with q | ⟨q, c2, q2⟩
          · exact .inl q
          · subst q2; subst e4
            exact .inr ⟨q, c, rfl⟩
      · obtain ⟨⟨v, g1, g2⟩, g3⟩ := o1 k s c e1 ec
        rw [fpn_out hn]
        refine ⟨⟨v, g1, g2.mono sF fun a ha => ?_⟩, fun a ha => ⟨?_, (g3 a ha).2⟩⟩
        · obtain ⟨o, q⟩ := g2.there a ha
          rw [q, fr a o q (notin e1 ec hn a ha)]
        · cases z : F' a with
          | none => rfl
          | some o =>
            obtain ⟨u, q⟩ := g2.there a ha
            rcases gr a o z with y | y
            · rw [(g3 a ha).1] at y; cases y
            · rw [q] at y; cases y
    · -- apart
      have one : ∀ {k : Nat} {s c}, (putBack l as' ρ ++ ε)[k]? = some s → s.cell = some c → ∀ a ∈ fpn k, (∃ (j : Nat) (c' : Cell), l[j]? = some (.inr k) ∧ as'[j]? = some (.io c') ∧ a ∈ fq j ∧ (H a = none ∨ a ∈ fp k)) ∨ ((ρ ++ ε)[k]? = some s ∧ (∀ j : Nat, l[j]? ≠ some (.inr k)) ∧ a ∈ fp k ∧ ∃ o, H a = some o) := fun {k s c} e ec a ha => by
        rcases get k _ e with ⟨j, c', s0, e1, e2, e3, e4⟩ | ⟨e1, hn⟩
        · obtain ⟨v, s1, c1, _, h0, _⟩ := cel e1
          rw [fpn_in e1] at ha
          have := (cl j c' v e2 h0).2 a ha
          rw [own_eq e1] at this
          exact .inl ⟨j, c', e1, e2, ha, this.2⟩
        · rw [fpn_out hn] at ha
          obtain ⟨⟨v, g1, g2⟩, g3⟩ := o1 k s c e1 ec
          exact .inr ⟨e1, hn, ha, g2.there a ha⟩
      intro hb
      have cellOf : ∀ {j k : Nat}, l[j]? = some (.inr k) → ∃ s0 c0, (ρ ++ ε)[k]? = some s0 ∧ s0.cell = some c0 := fun {j k} ej => by
        obtain ⟨v, s0, c0, _, _, _, h1, h2, _⟩ := cel ej
        exact ⟨s0, c0, getApp1 h1, h2⟩
      rcases one e ec a ha with ⟨j, c1, e1, e2, ma, oa⟩ | ⟨e1, hn, ma, u, hu⟩
      · rcases one e' ec' a hb with ⟨j', c2, f1, f2, mb, ob⟩ | ⟨f1, fn, mb, u, hu⟩
        · refine dj j j' c1 c2 (fun z => hkm ?_) e2 f2 a ma mb
          subst z
          rw [e1] at f1
          exact Sum.inr.inj (Option.some.inj f1)
        · rcases oa with oa | oa
          · rw [oa] at hu; cases hu
          · obtain ⟨s0, c0, h1, h2⟩ := cellOf e1
            exact o2 k m s0 s' c0 c' hkm h1 h2 f1 ec' a oa mb
      · rcases one e' ec' a hb with ⟨j', c2, f1, f2, mb, ob⟩ | ⟨f1, fn, mb, _⟩
        · rcases ob with ob | ob
          · rw [ob] at hu; cases hu
          · obtain ⟨s0, c0, h1, h2⟩ := cellOf f1
            exact o2 k m s s0 c c0 hkm e1 ec h1 h2 a ma ob
        · exact o2 k m s s' c c' hkm e1 ec f1 ec' a ma mb
    · by_cases z : ∃ j, a ∈ own j
      · exfalso
        obtain ⟨j, m⟩ := z
        obtain ⟨i, ei, ma⟩ := own_no m
        obtain ⟨v, s0, c0, _, _, _, h1, h2, _, g3⟩ := cel ei
        rcases (g3 a ma).2 with q | ⟨q, _⟩
        · rw [q] at e; cases e
        · exact hn i q
      · exact fr a o (R.rel.fr a o e hn) fun j m => z ⟨j, m⟩
    · obtain ⟨o', q⟩ := R.rel.st a o e
      exact st a o' q
    · rcases gr a o e with z | z
      · exact R.rel.gr a o z
      · cases y : W.H0 a with
        | none => exact .inr rfl
        | some u =>
          obtain ⟨o', q⟩ := R.rel.st a u y
          rw [q] at z; cases z

/-! ### the readings -/
inductive AG where
  | d (de : DE)
  | c (i : Nat)
def dAG : List AG → Rho → (AL → Rho → Prop) → Prop
  | [], ρ, Q => Q [] ρ
  | .d de :: r, ρ, Q => de ρ fun x ρ1 => dAG r ρ1 fun l ρ2 => Q (.inl x :: l) ρ2
  | .c i :: r, ρ, Q => (∃ s c, ρ[i]? = some s ∧ s.cell = some c) ∧ dAG r ρ fun l ρ2 => Q (.inr i :: l) ρ2
def argsOf (ρ : Rho) : AL → (List Slot → Prop) → Prop
  | [], Q => Q []
  | .inl d :: l, Q => argsOf ρ l fun a => Q (.fz d :: a)
  | .inr i :: l, Q => ∃ s c, ρ[i]? = some s ∧ s.cell = some c ∧ argsOf ρ l fun a => Q (.io c :: a)
def idxA : AL → List Nat
  | [] => []
  | .inl _ :: l => idxA l
  | .inr i :: l => i :: idxA l
def ndB (l : AL) : Bool := decide (idxA l).Nodup
theorem idxA_mem : ∀ {l : AL} {j i : Nat}, l[j]? = some (.inr i) → i ∈ idxA l
  | [], j, i, e => by cases e
  | .inl d :: l, j, i, e => by
    cases j with
    | zero => cases e
    | succ j => exact idxA_mem (l := l) e
  | .inr k :: l, j, i, e => by
    cases j with
    | zero => cases e; exact List.mem_cons_self
    | succ j => exact List.mem_cons_of_mem _ (idxA_mem (l := l) e)
theorem ndB_ok : ∀ {l : AL}, ndB l = true → NdA l
  | [], _ => fun j k i e => by cases e
  | .inl d :: l, h => fun j k i e1 e2 => by
    cases j with
    | zero => cases e1
    | succ j =>
      cases k with
      | zero => cases e2
      | succ k => rw [ndB_ok (l := l) h j k i e1 e2]
  | .inr m :: l, h => fun j k i e1 e2 => by
    have h : (m :: idxA l).Nodup := of_decide_eq_true h
    rw [List.nodup_cons] at h
    have h' : ndB l = true := decide_eq_true h.2
    cases j with
    | zero =>
      cases e1
      cases k with
      | zero => rfl
      | succ k => exact absurd (idxA_mem (l := l) e2) h.1
    | succ j =>
      cases k with
      | zero => cases e2; exact absurd (idxA_mem (l := l) e1) h.1
      | succ k => rw [ndB_ok (l := l) h' j k i e1 e2]
/-- the values of arguments as they stand -/
inductive VaG (F : Hp) (σ : L2.St) : AL → List V → Prop
  | nil : VaG F σ [] []
  | d {v : V} {d : D} {l : AL} {vs : List V} : Rep F v d → VaG F σ l vs → VaG F σ (.inl d :: l) (v :: vs)
  | c {i : Nat} {v : V} {l : AL} {vs : List V} : σ[i]? = some (some v) → VaG F σ l vs → VaG F σ (.inr i :: l) (v :: vs)
theorem VaG.mono {F F' : Hp} {σ : L2.St} {l : AL} {vs : List V} (s : Same F F') (h : VaG F σ l vs) : VaG F' σ l vs := by
  induction h with
  | nil => exact .nil
  | d r _ ih => exact .d (r.mono s) ih
  | c e _ ih => exact .c e ih
theorem args_of {F : Hp} {σ : L2.St} {ρ : Rho} : ∀ {l : AL} {vs : List V} {Q : List Slot → Prop}, VaG F σ l vs → argsOf ρ l Q → ∃ as, ArgsR F σ ρ l vs as ∧ Q as
  | _, _, _, .nil, h => ⟨[], .nil, h⟩
  | _, _, _, .d r t, h => by
    obtain ⟨as, h1, h2⟩ := args_of t h
    exact ⟨_, .d r h1, h2⟩
  | _, _, _, .c e t, h => by
    obtain ⟨s, c, hs, hc, h⟩ := h
    obtain ⟨as, h1, h2⟩ := args_of t h
    exact ⟨_, .c e hs hc h1, h2⟩
def SndAG (W : Ent) (ta : TA) (ags : List AG) : Prop := ∀ F H σ τ ρ ε (Q : AL → Rho → Prop) (k : List V → Hp → Prop), At W F H σ τ ρ ε → dAG ags ρ Q →
  (∀ F' H' ρ' vs l, At W F' H' σ τ ρ' ε → Same F F' → VaG F' σ l vs → Q l ρ' → k vs H') → ta σ H k
theorem sg_nil {W : Ent} : SndAG W tNil [] := fun F H σ τ ρ ε Q k R h q => q F H ρ [] [] R (Same.refl _) .nil h
theorem sg_d {W : Ent} {te : TE} {ta : TA} {de : DE} {ags : List AG} (h1 : SndE W te de) (h2 : SndAG W ta ags) : SndAG W (tCons te ta) (.d de :: ags) := fun F H σ τ ρ ε Q k R h q =>
  h1 F H σ τ ρ ε _ _ R h fun F1 H1 ρ1 v d R1 s1 r1 h1 => h2 F1 H1 σ τ ρ1 ε _ _ R1 h1 fun F2 H2 ρ2 vs l R2 s2 r2 h2 => q F2 H2 ρ2 _ _ R2 (s1.trans s2) (.d (r1.mono s2) r2) h2
theorem sg_c {W : Ent} {i : Nat} {ta : TA} {ags : List AG} (h2 : SndAG W ta ags) : SndAG W (tCons (tVar i) ta) (.c i :: ags) := fun F H σ τ ρ ε Q k R h q => by
  obtain ⟨⟨s, c, hs, hc⟩, h⟩ := h
  obtain ⟨v, fp, g1, _⟩ := R.cellX hs hc
  exact ⟨v, g1, h2 F H σ τ ρ ε _ _ R h fun F2 H2 ρ2 vs l R2 s2 r2 h2 => q F2 H2 ρ2 _ _ R2 s2 (.c g1 r2) h2⟩
structure PDAG (X : Cx) (W : Ent) (es : List Expr) (ags : List AG) : Prop where
  ex : ∃ ta, PA X es ta ∧ SndAG W ta ags
structure PDGK (X : Cx) (W : Ent) (kws : List Keyword) (ags : List AG) : Prop where
  ex : ∃ ta, PK X kws ta ∧ SndAG W ta ags
section
variable {X : Cx} {W : Ent} {e : Expr} {es : List Expr} {de : DE} {ags : List AG} {kws : List Keyword} {nm : Option Str} {kpos : Pos}
theorem ag_nil : PDAG X W [] [] := ⟨_, pa_nil, sg_nil⟩
theorem ag_d (ha : PDE X W e de) (hr : PDAG X W es ags) (hs : starEach (e :: es) X.env = (false, eval e X.env) :: starEach es X.env := by rfl) : PDAG X W (e :: es) (.d de :: ags) := by
  obtain ⟨ta, a1, a2⟩ := ha.ex
  obtain ⟨tb, b1, b2⟩ := hr.ex
  exact ⟨_, pa_cons a1 b1 hs, sg_d a2 b2⟩
theorem ag_c {i : Nat} (ha : PE X e (tVar i)) (hr : PDAG X W es ags) (hs : starEach (e :: es) X.env = (false, eval e X.env) :: starEach es X.env := by rfl) : PDAG X W (e :: es) (.c i :: ags) := by
  obtain ⟨tb, b1, b2⟩ := hr.ex
  exact ⟨_, pa_cons ha b1 hs, sg_c b2⟩
theorem kg_nil : PDGK X W [] [] := ⟨_, pk_nil, sg_nil⟩
theorem kg_d (ha : PDE X W e de) (hr : PDGK X W kws ags) : PDGK X W (⟨nm, e, kpos⟩ :: kws) (.d de :: ags) := by
  obtain ⟨ta, a1, a2⟩ := ha.ex
  obtain ⟨tb, b1, b2⟩ := hr.ex
  exact ⟨_, pk_cons a1 b1, sg_d a2 b2⟩
theorem kg_c {i : Nat} (ha : PE X e (tVar i)) (hr : PDGK X W kws ags) : PDGK X W (⟨nm, e, kpos⟩ :: kws) (.c i :: ags) := by
  obtain ⟨tb, b1, b2⟩ := hr.ex
  exact ⟨_, pk_cons ha b1, sg_c b2⟩
end
/-! #### the callee's contract, from within -/
/-- as ExL, at these slots and with this waiting -/
def ExA (W : Ent) (σ τ : L2.St) (ε : Rho) (E : XK) (dx : DX) : Prop := ∀ F H ρ x z C, At W F H σ (some (.ref x) :: τ) ρ (.ow (errC z) :: ε) → dx C z ρ → E (.ref C) (some x) H
theorem ExL.at {W : Ent} {σ τ : L2.St} {ε : Rho} {E : XK} {dx : DX} (h : ExL W E dx) : ExA W σ τ ε E dx := fun F H ρ x z C => h F H σ τ ρ ε x z C
/-- what follows a call: g told of the arguments l -/
def gCall (g : GSp) (l : AL) (dx : DX) (ρ : Rho) (Q : Slot → Rho → Prop) : Prop := ndB l = true ∧ argsOf ρ l fun as => g as (fun r as' => shpA l as' ∧ Q r (putBack l as' ρ)) (fun C z as' => shpA l as' ∧ dx C z (putBack l as' ρ))
def QE (Q : D → Rho → Prop) : Slot → Rho → Prop := fun r ρ => match r with
  | .fz d => Q d ρ
  | .ow c => (match c.d with
    | some d => Q d ρ
    | none => False)
  | _ => False
def QN (Q : Cell → Rho → Prop) : Slot → Rho → Prop := fun r ρ => match r with
  | .ow c => Q c ρ
  | _ => False
section
variable {W : Ent} {E : XK} {dx : DX} {g : GSp} {F H : Hp} {σ τ : L2.St} {ρ ε : Rho} {l : AL} {vs : List V} {k : VK}
theorem sp_callA {Q : Slot → Rho → Prop} (X0 : ExA W σ τ ε E dx) (R : At W F H σ τ ρ ε) (hv : VaG F σ l vs) (h : gCall g l dx ρ Q)
    (q1 : ∀ F' H' ρ' v d, At W F' H' σ τ ρ' ε → Same F F' → Rep F' v d → Q (.fz d) ρ' → k v H')
    (q2 : ∀ F' H' ρ' v c, At W F' H' σ (some v :: τ) ρ' (.ow c :: ε) → Same F F' → Q (.ow c) ρ' → k v H') (q3 : ∀ ρ, ¬ Q .no ρ) : spOf g vs H k E := by
  obtain ⟨nd, h⟩ := h
  have nd := ndB_ok nd
  obtain ⟨as, ha, h⟩ := args_of hv h
  obtain ⟨own, there, ent, back⟩ := R.enterG ha nd
  obtain ⟨lv, la, hat⟩ := ha.at
  have noOw : ∀ (j : Nat) c, as[j]? ≠ some (Slot.ow c) := fun j c e => by
    rcases hat j _ e with ⟨d, v, z, _⟩ | ⟨i, v, s0, c0, z, _⟩ <;> cases z
  -- behind the call
  have land : ∀ {F' H' : Hp} {as' : List Slot} {τ' : L2.St} {ε' : Rho}, At (entOf H F own vs) F' H' (vs.map some) τ' as' ε' → shpA l as' → At W F' H' σ τ (putBack l as' ρ) ε := fun {F' H' as' τ' ε'} A sh => by
    obtain ⟨fq, o1, o2⟩ := A.rel.ow
    refine back F' H' as' fq A.rel.f0 A.ex A.rel.gr (fun a o e n => A.rel.fr a o e n) A.rel.st sh.at (fun j c' v hj hv' => ?_) (fun j m c c' hjm e e' => o2 j m _ _ c c' hjm (getApp1 e) rfl (getApp1 e') rfl)
    obtain ⟨⟨v', g1, g2⟩, g3⟩ := o1 j _ c' (getApp1 hj) rfl
    rw [get_app (by rw [A.len]; exact lt_of_get hj), List.getElem?_map, hv'] at g1
    cases g1
    refine ⟨g2, fun a ha => ⟨(g3 a ha).1, ?_⟩⟩
    rcases (g3 a ha).2 with z | ⟨z, _⟩
    · exact .inl z
    · exact .inr z
  have landOw : ∀ {F' H' : Hp} {as' : List Slot} {v : V} {c : Cell}, At (entOf H F own vs) F' H' (vs.map some) [some v] as' [.ow c] → shpA l as' → At W F' H' σ (some v :: τ) (putBack l as' ρ) (.ow c :: ε) := fun {F' H' as' v c} A sh => by
    -- what is new stands apart: first as if it were not there
    obtain ⟨fq, o1, o2⟩ := A.rel.ow
    have el := A.len
    have e1 : (as' ++ [Slot.ow c])[as'.length]? = some (Slot.ow c) := by rw [List.getElem?_append_right (Nat.le_refl _), Nat.sub_self]; rfl
    obtain ⟨⟨v', h1, h2⟩, h3⟩ := o1 as'.length _ c e1 rfl
    rw [List.getElem?_append_right (by omega), ← el, Nat.sub_self] at h1
    cases h1
    have new : ∀ a ∈ fq as'.length, F' a = none ∧ H a = none := fun a ha => ⟨(h3 a ha).1, by
      rcases (h3 a ha).2 with z | ⟨_, _, z⟩
      · exact z
      · cases z⟩
    let H2 : Hp := fun a => if a ∈ fq as'.length then none else H' a
    have out2 : ∀ a, a ∉ fq as'.length → H2 a = H' a := fun a m => if_neg m
    have in2 : ∀ a, a ∈ fq as'.length → H2 a = none := fun a m => if_pos m
    have nq : ∀ a o, H a = some o → a ∉ fq as'.length := fun a o e m => by rw [(new a m).2] at e; cases e
    have sF2 : Same F' H2 := fun a o e => by
      rw [out2 a fun m => by rw [(new a m).1] at e; cases e]
      exact A.ex a o e
    have R2 : At W F' H2 σ τ (putBack l as' ρ) ε := by
      refine back F' H2 as' fq A.rel.f0 sF2 A.rel.gr (fun a o e n => by rw [out2 a (nq a o e)]; exact A.rel.fr a o e n) (fun a o e => by rw [out2 a (nq a o e)]; exact A.rel.st a o e) sh.at (fun j c' v2 hj hv' => ?_) (fun j m c c' hjm e e' => o2 j m _ _ c c' hjm (getApp1 e) rfl (getApp1 e') rfl)
      have hjl := lt_of_get hj
      obtain ⟨⟨v', g1, g2⟩, g3⟩ := o1 j _ c' (getApp1 hj) rfl
      rw [get_app (by rw [el]; exact hjl), List.getElem?_map, hv'] at g1
      cases g1
      refine ⟨g2.mono (Same.refl _) fun a ha => out2 a (o2 j as'.length _ _ c' c (by omega) (getApp1 hj) rfl e1 rfl a ha), fun a ha => ⟨(g3 a ha).1, ?_⟩⟩
      rcases (g3 a ha).2 with z | ⟨z, _⟩
      · exact .inl z
      · exact .inr z
    have ex : Ext F' H2 F' H' := ⟨Same.refl _, fun a o e => by
      by_cases m : a ∈ fq as'.length
      · rw [in2 a m] at e; cases e
      · rw [out2 a m] at e; exact e, A.ex, fun a o e => .inl e⟩
    exact R2.extNew ex h2 fun a ha => ⟨(new a ha).1, in2 a ha⟩
  refine ⟨F, own, as, _, _, ent, noOw, h, fun r as' hr hio v F' H' A => ?_, fun C z as' hz x F' H' A => ?_⟩
  · cases r with
    | fz d => exact q1 F' H' _ v d (land A hr.1) A.rel.f0 A.outFz hr.2
    | ow c => exact q2 F' H' _ v c (landOw A hr.1) A.rel.f0 hr.2
    | no => exact (q3 _ hr.2).elim
    | io c => cases hio
  · exact X0 F' H' _ x z C (landOw A hz.1) hz.2
theorem sp_callEA {Q : D → Rho → Prop} (X0 : ExA W σ τ ε E dx) (R : At W F H σ τ ρ ε) (hv : VaG F σ l vs) (h : gCall g l dx ρ (QE Q))
    (q : ∀ F' H' ρ' v d, At W F' H' σ τ ρ' ε → Same F F' → Rep F' v d → Q d ρ' → k v H') : spOf g vs H k E := by
  refine sp_callA X0 R hv h q (fun F' H' ρ' v c A s hq => ?_) fun ρ z => z
  have hq : (match c.d with
    | some d => Q d ρ'
    | none => False) := hq
  cases e : c.d with
  | none => rw [e] at hq; exact hq.elim
  | some d =>
    rw [e] at hq
    obtain ⟨F2, r2, s2, R3⟩ := A.freezeNew e
    exact q F2 H' ρ' v d R3 (s.trans s2) r2 hq
theorem sp_callNA {Q : Cell → Rho → Prop} (X0 : ExA W σ τ ε E dx) (R : At W F H σ τ ρ ε) (hv : VaG F σ l vs) (h : gCall g l dx ρ (QN Q))
    (q : ∀ F' H' ρ' v c, At W F' H' σ (some v :: τ) ρ' (.ow c :: ε) → Same F F' → Q c ρ' → k v H') : spOf g vs H k E :=
  sp_callA X0 R hv h (fun F' H' ρ' v d _ _ _ z => (show False from z).elim) q fun ρ z => z
theorem sp_call {Q : Slot → Rho → Prop} (X0 : ExL W E dx) (R : At W F H σ τ ρ ε) (hv : VaG F σ l vs) (h : gCall g l dx ρ Q)
    (q1 : ∀ F' H' ρ' v d, At W F' H' σ τ ρ' ε → Same F F' → Rep F' v d → Q (.fz d) ρ' → k v H')
    (q2 : ∀ F' H' ρ' v c, At W F' H' σ (some v :: τ) ρ' (.ow c :: ε) → Same F F' → Q (.ow c) ρ' → k v H') (q3 : ∀ ρ, ¬ Q .no ρ) : spOf g vs H k E := sp_callA X0.at R hv h q1 q2 q3
theorem sp_callE {Q : D → Rho → Prop} (X0 : ExL W E dx) (R : At W F H σ τ ρ ε) (hv : VaG F σ l vs) (h : gCall g l dx ρ (QE Q))
    (q : ∀ F' H' ρ' v d, At W F' H' σ τ ρ' ε → Same F F' → Rep F' v d → Q d ρ' → k v H') : spOf g vs H k E := sp_callEA X0.at R hv h q
theorem sp_callN {Q : Cell → Rho → Prop} (X0 : ExL W E dx) (R : At W F H σ τ ρ ε) (hv : VaG F σ l vs) (h : gCall g l dx ρ (QN Q))
    (q : ∀ F' H' ρ' v c, At W F' H' σ (some v :: τ) ρ' (.ow c :: ε) → Same F F' → Q c ρ' → k v H') : spOf g vs H k E := sp_callNA X0.at R hv h q
end

open PySem L2
/-! ### calls by any arguments: of a def, of a method of a cell -/
def dCallG (g : GSp) (ags : List AG) (dx : DX) : DE := fun ρ Q => dAG ags ρ fun l ρ1 => gCall g l dx ρ1 (QE Q)
def dCallGN (g : GSp) (ags : List AG) (dx : DX) : DN := fun ρ Q => dAG ags ρ fun l ρ1 => gCall g l dx ρ1 (QN Q)
/-- by names alone: pm puts the arguments in the parameters' order -/
def dCallGK (g : GSp) (m : Nat) (pm : AL → AL) (ags : List AG) (dx : DX) : DE := fun ρ Q => dAG ags ρ fun l ρ1 => l.length = m ∧ gCall g (pm l) dx ρ1 (QE Q)
/-- the cell is an instance of the class at C, without an attribute m -/
def InstC (C : Addr) (m : Str) (c : Cell) : Prop := ∀ F H v fp, CellAt F H v fp c → ∃ a dx fs, v = .ref a ∧ H a = some (.ins C dx fs) ∧ fs.lookup m = none
def dMethG (C : Addr) (m : Str) (g : GSp) (i : Nat) (ags : List AG) (dx : DX) : DE := fun ρ Q => (∃ s c, ρ[i]? = some s ∧ s.cell = some c ∧ InstC C m c) ∧ dAG ags ρ fun l ρ1 => gCall g (.inr i :: l) dx ρ1 (QE Q)
def dMethGN (C : Addr) (m : Str) (g : GSp) (i : Nat) (ags : List AG) (dx : DX) : DN := fun ρ Q => (∃ s c, ρ[i]? = some s ∧ s.cell = some c ∧ InstC C m c) ∧ dAG ags ρ fun l ρ1 => gCall g (.inr i :: l) dx ρ1 (QN Q)
def dMethGK (C : Addr) (m : Str) (g : GSp) (i : Nat) (n : Nat) (pm : AL → AL) (ags : List AG) (dx : DX) : DE := fun ρ Q => (∃ s c, ρ[i]? = some s ∧ s.cell = some c ∧ InstC C m c) ∧ dAG ags ρ fun l ρ1 => l.length = n ∧ gCall g (.inr i :: pm l) dx ρ1 (QE Q)
theorem VaG.length {F : Hp} {σ : L2.St} : ∀ {l : AL} {vs : List V}, VaG F σ l vs → vs.length = l.length
  | _, _, .nil => rfl
  | _, _, .d _ t => by rw [List.length_cons, List.length_cons, VaG.length t]
  | _, _, .c _ t => by rw [List.length_cons, List.length_cons, VaG.length t]
def tMethK (C : Addr) (m : Str) (n : Nat) (sp : Sp) (gV : List V → List V → List V) (E : XK) (ta : TE) (tk : TA) : TE := fun σ H Q => ta σ H fun x H1 => ∃ a dx fs, x = .ref a ∧ H1 a = some (.ins C dx fs) ∧ fs.lookup m = none ∧ tk σ H1 fun zs H2 => zs.length = n ∧ sp (gV [x] zs) H2 Q E
/-- o.m(k = v, ..) -/
theorem pe_methK {X : Cx} {CX : CXT} {k : Nat} {f C : Addr} {fd : FuncData} {ps ks : List Str} {sp : Sp} {E : XK} {m : Str} {pos apos : Pos} {o : Expr} {kws : List Keyword} {ta : TE} {tk : TA} {g : List Value → List Value → List Value} {gV : List V → List V → List V} {pl : Sem Bool}
    (he : PE X o ta) (c : Cls X.K C) (hm : Meth X.K C m f) (F : FnOk X.prog X.w X.K X.mg X.base CX k f fd ps sp) (hr : Room k X.A) (hb : KBn X.K fd ps 1 ks g gV) (hx : Passes CX X E)
    (hkw : PK X kws tk) (hall : (backToKw pos (keywordEach kws X.env)).all (·.1.isSome) = true := by rfl) (hks : (backToKw pos (keywordEach kws X.env)).filterMap (·.1) = ks := by rfl)
    (hpl : ((backTo pos (starEach [] X.env)).any (·.1) || (backToKw pos (keywordEach kws X.env)).any (·.1.isNone)) = false := by rfl)
    (ht : eval (.Call (.Attribute o m apos) [] kws pos) X.env = (do
      let ov ← eval o X.env
      standAt apos.atName
      let (f, first) ← holding [ov] (getMethod ov m pl)
      callWith pos f first (backTo pos (starEach [] X.env)) (backToKw pos (keywordEach kws X.env))) := by rfl) :
    PE X (.Call (.Attribute o m apos) [] kws pos) (tMethK C m ks.length sp gV E ta tk) := by
  refine ⟨fun pins s σ H Q I h => ?_⟩
  refine PySem.W.methodCall_KW (pl := pl) (thn (he.run pins s σ H _ I h) fun u s1 ⟨x, H1, I1, rx, a, dx, fs, ex, ea, l, q⟩ => ?_) ht
  subst ex
  obtain rfl : u = Value.ref a := rx
  refine getmeth_ok I1 ea c hm l ?_
  refine PySem.W.callWith_KW0 (first := [.ref a]) (h₀ := X.base) I.ok.mod.kin hm.kp hall ?_ hpl
  refine thn (hkw.run pos pins s1 σ H1 _ I1 q) fun ws s2 ⟨zs, H2, I2, rz, l2, q2⟩ => ⟨I2.kIn, ?_⟩
  rw [hks]
  have rv : Vals [V.ref a] [Value.ref a] := .cons rfl .nil
  exact run_fnN (us := [.ref a]) (vs := [.ref a]) F hr hb hx I2 rv rz rfl l2 q2
section
variable {X : Cx} {W : Ent} {E : XK} {dx : DX} {g : GSp} {f C : Addr} {k i : Nat} {fd : FuncData} {ps ks : List Str} {x m : Str} {p pos apos : Pos} {e o : Expr} {es : List Expr} {ags : List AG} {kws : List Keyword}
theorem de_callG (X0 : ExL W E dx) (tk : L2N.Takes X (fun cls d _ H => E cls d H)) (Fn : FnOk X.prog X.w X.K X.mg X.base (L2N.CX X.prog X.w) k f fd ps (spOf g)) (hr : Room k X.A) (hg : Gl X x) (hm : X.mg x = some (.ref f)) (hk : PySem.W.keepIn X.K (.ref f) = true) (hb : Binds X.K fd ps [])
    (ha : PDAG X W (e :: es) ags) (hdb : (x == ("__debug__" : Str)) = false := by decide) (he : starEach (e :: es) X.env = (false, eval e X.env) :: starEach es X.env := by rfl) (hpl : (backTo pos (starEach es X.env)).any (·.1) = false := by rfl) :
    PDE X W (.Call (.Name x p) (e :: es) [] pos) (dCallG g ags dx) := by
  obtain ⟨ta, a1, a2⟩ := ha.ex
  refine ⟨_, pe_call Fn hr hg hm hk hb .nil (L2N.passes_call tk fun _ _ _ _ h => h) a1 hdb he hpl, fun F H σ τ ρ ε Q k' R h q => a2 F H σ τ ρ ε _ _ R h fun F1 H1 ρ1 vs l R1 s1 r1 h1 => ?_⟩
  show spOf g (vs ++ []) H1 k' E
  rw [List.append_nil]
  exact sp_callE X0 R1 r1 h1 fun F' H' ρ' v d A s => q F' H' ρ' v d A (s1.trans s)
theorem dn_callG (X0 : ExL W E dx) (tk : L2N.Takes X (fun cls d _ H => E cls d H)) (Fn : FnOk X.prog X.w X.K X.mg X.base (L2N.CX X.prog X.w) k f fd ps (spOf g)) (hr : Room k X.A) (hg : Gl X x) (hm : X.mg x = some (.ref f)) (hk : PySem.W.keepIn X.K (.ref f) = true) (hb : Binds X.K fd ps [])
    (ha : PDAG X W (e :: es) ags) (hdb : (x == ("__debug__" : Str)) = false := by decide) (he : starEach (e :: es) X.env = (false, eval e X.env) :: starEach es X.env := by rfl) (hpl : (backTo pos (starEach es X.env)).any (·.1) = false := by rfl) :
    PDN X W (.Call (.Name x p) (e :: es) [] pos) (dCallGN g ags dx) := by
  obtain ⟨ta, a1, a2⟩ := ha.ex
  refine ⟨_, pe_call Fn hr hg hm hk hb .nil (L2N.passes_call tk fun _ _ _ _ h => h) a1 hdb he hpl, fun F H σ τ ρ ε Q k' R h q => a2 F H σ τ ρ ε _ _ R h fun F1 H1 ρ1 vs l R1 s1 r1 h1 => ?_⟩
  show spOf g (vs ++ []) H1 k' E
  rw [List.append_nil]
  exact sp_callN X0 R1 r1 h1 fun F' H' ρ' v d A s => q F' H' ρ' v d A (s1.trans s)
theorem de_callG0 (X0 : ExL W E dx) (tk : L2N.Takes X (fun cls d _ H => E cls d H)) (Fn : FnOk X.prog X.w X.K X.mg X.base (L2N.CX X.prog X.w) k f fd ps (spOf g)) (hr : Room k X.A) (hg : Gl X x) (hm : X.mg x = some (.ref f)) (hk : PySem.W.keepIn X.K (.ref f) = true) (hb : Binds X.K fd ps [])
    (hdb : (x == ("__debug__" : Str)) = false := by decide) : PDE X W (.Call (.Name x p) [] [] pos) (dCallG g [] dx) :=
  ⟨_, pe_call0 Fn hr hg hm hk hb .nil (L2N.passes_call tk fun _ _ _ _ h => h) hdb, fun F H σ τ ρ ε Q k' R h q => sp_callE X0 R .nil h q⟩
theorem de_callGK {n : Nat} {pm : AL → AL} {gv : List Value → List Value → List Value} {gV : List V → List V → List V} (X0 : ExL W E dx) (tk : L2N.Takes X (fun cls d _ H => E cls d H)) (Fn : FnOk X.prog X.w X.K X.mg X.base (L2N.CX X.prog X.w) k f fd ps (spOf g)) (hr : Room k X.A) (hg : Gl X x) (hm : X.mg x = some (.ref f)) (hk : PySem.W.keepIn X.K (.ref f) = true)
    (hb : KBn X.K fd ps 0 ks gv gV) (hpm : ∀ F σ l vs, l.length = n → VaG F σ l vs → VaG F σ (pm l) (gV [] vs)) (ha : PDGK X W kws ags)
    (hall : (backToKw pos (keywordEach kws X.env)).all (·.1.isSome) = true := by rfl) (hks : (backToKw pos (keywordEach kws X.env)).filterMap (·.1) = ks := by rfl) (hdb : (x == ("__debug__" : Str)) = false := by decide)
    (hpl : ((backTo pos (starEach [] X.env)).any (·.1) || (backToKw pos (keywordEach kws X.env)).any (·.1.isNone)) = false := by rfl) (hml : ks.length = n := by rfl) :
    PDE X W (.Call (.Name x p) [] kws pos) (dCallGK g n pm ags dx) := by
  subst hml
  obtain ⟨ta, a1, a2⟩ := ha.ex
  refine ⟨_, pe_callK0 Fn hr hg hm hk hb (L2N.passes_call tk fun _ _ _ _ h => h) a1 hall hks hdb hpl, fun F H σ τ ρ ε Q k' R h q => a2 F H σ τ ρ ε _ _ R h fun F1 H1 ρ1 vs l R1 s1 r1 h1 => ?_⟩
  refine ⟨r1.length.trans h1.1, ?_⟩
  exact sp_callE X0 R1 (hpm _ _ _ _ h1.1 r1) h1.2 fun F' H' ρ' v d A s => q F' H' ρ' v d A (s1.trans s)
theorem inst_of {F H : Hp} {σ τ : L2.St} {ρ ε : Rho} {s : Slot} {c : Cell} (R : At W F H σ τ ρ ε) (hs : ρ[i]? = some s) (hc : s.cell = some c) (hi : InstC C m c) : ∃ a dx fs, σ[i]? = some (some (.ref a)) ∧ H a = some (.ins C dx fs) ∧ fs.lookup m = none := by
  obtain ⟨v, fp, h1, h2, _⟩ := R.cellX hs hc
  obtain ⟨a, dx, fs, rfl, h3, h4⟩ := hi F H v fp h2
  exact ⟨a, dx, fs, h1, h3, h4⟩
theorem de_methG {pl : Sem Bool} (X0 : ExL W E dx) (tk : L2N.Takes X (fun cls d _ H => E cls d H)) (ho : PE X o (tVar i)) (c : Cls X.K C) (hm : Meth X.K C m f) (Fn : FnOk X.prog X.w X.K X.mg X.base (L2N.CX X.prog X.w) k f fd ps (spOf g)) (hr : Room k X.A) (hb : Binds X.K fd ps []) (ha : PDAG X W (e :: es) ags)
    (hst : starEach (e :: es) X.env = (false, eval e X.env) :: starEach es X.env := by rfl) (hpl : (backTo pos (starEach es X.env)).any (·.1) = false := by rfl)
    (ht : eval (.Call (.Attribute o m apos) (e :: es) [] pos) X.env = (do
      let ov ← eval o X.env
      standAt apos.atName
      let (f, first) ← holding [ov] (getMethod ov m pl)
      callWith pos f first (backTo pos (starEach (e :: es) X.env)) (backToKw pos (keywordEach [] X.env))) := by rfl) :
    PDE X W (.Call (.Attribute o m apos) (e :: es) [] pos) (dMethG C m g i ags dx) := by
  obtain ⟨ta, a1, a2⟩ := ha.ex
  refine ⟨_, pe_meth ho c hm Fn hr hb .nil (L2N.passes_call tk fun _ _ _ _ h => h) a1 hst hpl ht, fun F H σ τ ρ ε Q k' R h q => ?_⟩
  obtain ⟨⟨s, c, hs, hc, hi⟩, h⟩ := h
  obtain ⟨a, dxa, fs, g1, g2, g3⟩ := inst_of R hs hc hi
  refine ⟨_, g1, a, dxa, fs, rfl, g2, g3, a2 F H σ τ ρ ε _ _ R h fun F1 H1 ρ1 vs l R1 s1 r1 h1 => ?_⟩
  show spOf g (.ref a :: (vs ++ [])) H1 k' E
  rw [List.append_nil]
  exact sp_callE X0 R1 (.c g1 r1) h1 fun F' H' ρ' v d A s => q F' H' ρ' v d A (s1.trans s)
theorem dn_methG {pl : Sem Bool} (X0 : ExL W E dx) (tk : L2N.Takes X (fun cls d _ H => E cls d H)) (ho : PE X o (tVar i)) (c : Cls X.K C) (hm : Meth X.K C m f) (Fn : FnOk X.prog X.w X.K X.mg X.base (L2N.CX X.prog X.w) k f fd ps (spOf g)) (hr : Room k X.A) (hb : Binds X.K fd ps []) (ha : PDAG X W (e :: es) ags)
    (hst : starEach (e :: es) X.env = (false, eval e X.env) :: starEach es X.env := by rfl) (hpl : (backTo pos (starEach es X.env)).any (·.1) = false := by rfl)
    (ht : eval (.Call (.Attribute o m apos) (e :: es) [] pos) X.env = (do
      let ov ← eval o X.env
      standAt apos.atName
      let (f, first) ← holding [ov] (getMethod ov m pl)
      callWith pos f first (backTo pos (starEach (e :: es) X.env)) (backToKw pos (keywordEach [] X.env))) := by rfl) :
    PDN X W (.Call (.Attribute o m apos) (e :: es) [] pos) (dMethGN C m g i ags dx) := by
  obtain ⟨ta, a1, a2⟩ := ha.ex
  refine ⟨_, pe_meth ho c hm Fn hr hb .nil (L2N.passes_call tk fun _ _ _ _ h => h) a1 hst hpl ht, fun F H σ τ ρ ε Q k' R h q => ?_⟩
  obtain ⟨⟨s, c, hs, hc, hi⟩, h⟩ := h
  obtain ⟨a, dxa, fs, g1, g2, g3⟩ := inst_of R hs hc hi
  refine ⟨_, g1, a, dxa, fs, rfl, g2, g3, a2 F H σ τ ρ ε _ _ R h fun F1 H1 ρ1 vs l R1 s1 r1 h1 => ?_⟩
  show spOf g (.ref a :: (vs ++ [])) H1 k' E
  rw [List.append_nil]
  exact sp_callN X0 R1 (.c g1 r1) h1 fun F' H' ρ' v d A s => q F' H' ρ' v d A (s1.trans s)
theorem de_methG0 {pl : Sem Bool} (X0 : ExL W E dx) (tk : L2N.Takes X (fun cls d _ H => E cls d H)) (ho : PE X o (tVar i)) (c : Cls X.K C) (hm : Meth X.K C m f) (Fn : FnOk X.prog X.w X.K X.mg X.base (L2N.CX X.prog X.w) k f fd ps (spOf g)) (hr : Room k X.A) (hb : Binds X.K fd ps [])
    (ht : eval (.Call (.Attribute o m apos) [] [] pos) X.env = (do
      let ov ← eval o X.env
      standAt apos.atName
      let (f, first) ← holding [ov] (getMethod ov m pl)
      callWith pos f first (backTo pos (starEach [] X.env)) (backToKw pos (keywordEach [] X.env))) := by rfl) :
    PDE X W (.Call (.Attribute o m apos) [] [] pos) (dMethG C m g i [] dx) := by
  refine ⟨_, pe_meth0 ho c hm Fn hr hb .nil (L2N.passes_call tk fun _ _ _ _ h => h) ht, fun F H σ τ ρ ε Q k' R h q => ?_⟩
  obtain ⟨⟨s, c, hs, hc, hi⟩, h⟩ := h
  obtain ⟨a, dxa, fs, g1, g2, g3⟩ := inst_of R hs hc hi
  exact ⟨_, g1, a, dxa, fs, rfl, g2, g3, sp_callE X0 R (.c g1 .nil) h q⟩
theorem de_methGK {n : Nat} {pm : AL → AL} {gv : List Value → List Value → List Value} {gV : List V → List V → List V} {pl : Sem Bool} (X0 : ExL W E dx) (tk : L2N.Takes X (fun cls d _ H => E cls d H)) (ho : PE X o (tVar i)) (c : Cls X.K C) (hm : Meth X.K C m f) (Fn : FnOk X.prog X.w X.K X.mg X.base (L2N.CX X.prog X.w) k f fd ps (spOf g)) (hr : Room k X.A)
    (hb : KBn X.K fd ps 1 ks gv gV) (hpm : ∀ F σ v l vs, l.length = n → σ[i]? = some (some v) → VaG F σ l vs → VaG F σ (.inr i :: pm l) (gV [v] vs)) (ha : PDGK X W kws ags)
    (hall : (backToKw pos (keywordEach kws X.env)).all (·.1.isSome) = true := by rfl) (hks : (backToKw pos (keywordEach kws X.env)).filterMap (·.1) = ks := by rfl)
    (hpl : ((backTo pos (starEach [] X.env)).any (·.1) || (backToKw pos (keywordEach kws X.env)).any (·.1.isNone)) = false := by rfl)
    (ht : eval (.Call (.Attribute o m apos) [] kws pos) X.env = (do
      let ov ← eval o X.env
      standAt apos.atName
      let (f, first) ← holding [ov] (getMethod ov m pl)
      callWith pos f first (backTo pos (starEach [] X.env)) (backToKw pos (keywordEach kws X.env))) := by rfl) (hml : ks.length = n := by rfl) :
    PDE X W (.Call (.Attribute o m apos) [] kws pos) (dMethGK C m g i n pm ags dx) := by
  subst hml
  obtain ⟨ta, a1, a2⟩ := ha.ex
  refine ⟨_, pe_methK ho c hm Fn hr hb (L2N.passes_call tk fun _ _ _ _ h => h) a1 hall hks hpl ht, fun F H σ τ ρ ε Q k' R h q => ?_⟩
  obtain ⟨⟨s, c, hs, hc, hi⟩, h⟩ := h
  obtain ⟨a, dxa, fs, g1, g2, g3⟩ := inst_of R hs hc hi
  refine ⟨_, g1, a, dxa, fs, rfl, g2, g3, a2 F H σ τ ρ ε _ _ R h fun F1 H1 ρ1 vs l R1 s1 r1 h1 => ?_⟩
  refine ⟨r1.length.trans h1.1, ?_⟩
  exact sp_callE X0 R1 (hpm _ _ _ _ _ h1.1 g1 r1) h1.2 fun F' H' ρ' v d A s => q F' H' ρ' v d A (s1.trans s)
end

open PySem L2
/-! ### records: an instance by its fields, each frozen data or a cell of its own -/
inductive FV where
  | d (x : D)
  | c (c : Cell)
def FVAt (F H : Hp) (v : V) (fp : List Addr) : FV → Prop
  | .d x => fp = [] ∧ Rep F v x
  | .c c => CellAt F H v fp c
theorem FVAt.mono {F F' H H' : Hp} {v : V} {fp : List Addr} (s : Same F F') (k : ∀ a ∈ fp, H' a = H a) : ∀ {x : FV}, FVAt F H v fp x → FVAt F' H' v fp x
  | .d x, h => ⟨h.1, h.2.mono s⟩
  | .c c, h => CellAt.mono s k h
theorem FVAt.there {F H : Hp} {v : V} {fp : List Addr} : ∀ {x : FV}, FVAt F H v fp x → ∀ a ∈ fp, ∃ o, H a = some o
  | .d x, h => by rw [h.1]; exact fun a m => absurd m List.not_mem_nil
  | .c c, h => CellAt.there h
inductive FsAt (F H : Hp) : List (Str × V) → List Addr → List (Str × FV) → Prop
  | nil : FsAt F H [] [] []
  | cons {n : Str} {v : V} {fp : List Addr} {x : FV} {fs : List (Str × V)} {fq : List Addr} {xs : List (Str × FV)} : FVAt F H v fp x → (∀ a ∈ fp, a ∉ fq) → FsAt F H fs fq xs → FsAt F H ((n, v) :: fs) (fp ++ fq) ((n, x) :: xs)
theorem FsAt.mono {F F' H H' : Hp} {fs : List (Str × V)} {fq : List Addr} {xs : List (Str × FV)} (s : Same F F') (h : FsAt F H fs fq xs) : (∀ a ∈ fq, H' a = H a) → FsAt F' H' fs fq xs := by
  induction h with
  | nil => exact fun _ => .nil
  | cons h1 h2 _ ih => exact fun k => .cons (h1.mono s fun a ha => k a (List.mem_append_left _ ha)) h2 (ih fun a ha => k a (List.mem_append_right _ ha))
theorem FsAt.there {F H : Hp} {fs : List (Str × V)} {fq : List Addr} {xs : List (Str × FV)} (h : FsAt F H fs fq xs) : ∀ a ∈ fq, ∃ o, H a = some o := by
  induction h with
  | nil => exact fun a m => absurd m List.not_mem_nil
  | cons h1 _ _ ih => exact fun a m => (List.mem_append.mp m).elim (h1.there a) (ih a)
theorem FsAt.len {F H : Hp} {fs : List (Str × V)} {fq : List Addr} {xs : List (Str × FV)} (h : FsAt F H fs fq xs) : fs.length = xs.length := by
  induction h with
  | nil => rfl
  | cons _ _ _ ih => rw [List.length_cons, List.length_cons, ih]
def putFX (f : Str) (x : FV) : List (Str × FV) → List (Str × FV)
  | [] => [(f, x)]
  | (g, y) :: r => if g = f then (g, x) :: r else (g, y) :: putFX f x r
def lookX (f : Str) : List (Str × FV) → Option FV
  | [] => none
  | (g, y) :: r => if g = f then some y else lookX f r
theorem look_v {f g : Str} {y : V} {r : List (Str × V)} : ((g, y) :: r).lookup f = if g = f then some y else r.lookup f := by
  by_cases h : g = f
  · subst h; simp [List.lookup]
  · have e : (f == g) = false := by simpa using fun z => h z.symm
    simp [List.lookup, e, h]
theorem FsAt.no {F H : Hp} {fs : List (Str × V)} {fq : List Addr} {xs : List (Str × FV)} {f : Str} (h : FsAt F H fs fq xs) : lookX f xs = none → fs.lookup f = none := by
  induction h with
  | nil => exact fun _ => rfl
  | @cons n v fp x fs fq xs h1 h2 _ ih =>
    intro e
    have e : (if n = f then some x else lookX f xs) = none := e
    rw [look_v]
    by_cases z : n = f
    · rw [if_pos z] at e; cases e
    · rw [if_neg z] at e
      rw [if_neg z]; exact ih e
/-- a field, and another in its place -/
theorem FsAt.look {F H : Hp} {fs : List (Str × V)} {fq : List Addr} {xs : List (Str × FV)} {f : Str} {x : FV} (h : FsAt F H fs fq xs) : lookX f xs = some x → ∃ (v : V) (fp1 fp2 : List Addr), fs.lookup f = some v ∧ FVAt F H v fp1 x ∧ (∀ a, a ∈ fq ↔ (a ∈ fp1 ∨ a ∈ fp2)) ∧ (∀ a ∈ fp1, a ∉ fp2) ∧
    (putF f v fs = fs) ∧ ∀ (F' H' : Hp) (v' : V) (fp' : List Addr) (x' : FV), Same F F' → (∀ a ∈ fp2, H' a = H a) → (∀ a ∈ fp', a ∉ fp2) → FVAt F' H' v' fp' x' → ∃ fq' : List Addr, (∀ a, a ∈ fq' ↔ (a ∈ fp' ∨ a ∈ fp2)) ∧ FsAt F' H' (putF f v' fs) fq' (putFX f x' xs) := by
  induction h with
  | nil => exact fun e => by cases e
  | @cons n v fp y fs fq xs h1 h2 h3 ih =>
    intro e
    have e : (if n = f then some y else lookX f xs) = some x := e
    by_cases z : n = f
    · rw [if_pos z] at e
      cases e
      refine ⟨v, fp, fq, by rw [look_v]; exact if_pos z, h1, fun a => List.mem_append, h2, by show (if n = f then (n, v) :: fs else _) = _; rw [if_pos z], fun F' H' v' fp' x' s k d g => ⟨fp' ++ fq, fun a => List.mem_append, ?_⟩⟩
      show FsAt F' H' (if n = f then (n, v') :: fs else _) _ (if n = f then (n, x') :: xs else _)
      rw [if_pos z, if_pos z]
      exact .cons g d (h3.mono s k)
    · rw [if_neg z] at e
      obtain ⟨w, fp1, fp2, e1, e2, e3, e4, e5, e6⟩ := ih e
      refine ⟨w, fp1, fp ++ fp2, by rw [look_v, if_neg z]; exact e1, e2, fun a => ?_, fun a ha m => ?_, by show (if n = f then _ else (n, v) :: putF f w fs) = _; rw [if_neg z, e5], fun F' H' v' fp' x' s k d g => ?_⟩
      · rw [List.mem_append, List.mem_append, e3]
        constructor
        · rintro (q | q | q)
          · exact .inr (.inl q)
          · exact .inl q
          · exact .inr (.inr q)
        · rintro (q | q | q)
          · exact .inr (.inl q)
          · exact .inl q
          · exact .inr (.inr q)
      · rcases List.mem_append.mp m with q | q
        · exact h2 a q ((e3 a).mpr (.inl ha))
        · exact e4 a ha q
      · obtain ⟨fq', q1, q2⟩ := e6 F' H' v' fp' x' s (fun a ha => k a (List.mem_append_right _ ha)) (fun a ha m => d a ha (List.mem_append_right _ m)) g
        refine ⟨fp ++ fq', fun a => ?_, ?_⟩
        · rw [List.mem_append, q1, List.mem_append]
          constructor
          · rintro (q | q | q)
            · exact .inr (.inl q)
            · exact .inl q
            · exact .inr (.inr q)
          · rintro (q | q | q)
            · exact .inr (.inl q)
            · exact .inl q
            · exact .inr (.inr q)
        · show FsAt F' H' (if n = f then _ else (n, v) :: putF f v' fs) _ (if n = f then _ else (n, y) :: putFX f x' xs)
          rw [if_neg z, if_neg z]
          refine .cons (h1.mono s fun a ha => k a (List.mem_append_left _ ha)) (fun a ha m => ?_) q2
          rcases (q1 a).mp m with q | q
          · exact d a q (List.mem_append_left _ ha)
          · exact h2 a ha ((e3 a).mpr (.inr q))
/-- a further field -/
theorem FsAt.more {F H : Hp} {fs : List (Str × V)} {fq : List Addr} {xs : List (Str × FV)} {f : Str} (h : FsAt F H fs fq xs) : lookX f xs = none → ∀ (F' H' : Hp) (v' : V) (fp' : List Addr) (x' : FV), Same F F' → (∀ a ∈ fq, H' a = H a) → (∀ a ∈ fp', a ∉ fq) → FVAt F' H' v' fp' x' → ∃ fq' : List Addr, (∀ a, a ∈ fq' ↔ (a ∈ fp' ∨ a ∈ fq)) ∧ FsAt F' H' (putF f v' fs) fq' (putFX f x' xs) := by
  induction h with
  | nil => exact fun _ F' H' v' fp' x' s k d g => ⟨fp' ++ [], fun a => List.mem_append, .cons g (fun a _ => List.not_mem_nil) .nil⟩
  | @cons n v fp y fs fq xs h1 h2 h3 ih =>
    intro e F' H' v' fp' x' s k d g
    have e : (if n = f then some y else lookX f xs) = none := e
    by_cases z : n = f
    · rw [if_pos z] at e; cases e
    · rw [if_neg z] at e
      obtain ⟨fq', q1, q2⟩ := ih e F' H' v' fp' x' s (fun a ha => k a (List.mem_append_right _ ha)) (fun a ha m => d a ha (List.mem_append_right _ m)) g
      refine ⟨fp ++ fq', fun a => ?_, ?_⟩
      · rw [List.mem_append, q1, List.mem_append]
        constructor
        · rintro (q | q | q)
          · exact .inr (.inl q)
          · exact .inl q
          · exact .inr (.inr q)
        · rintro (q | q | q)
          · exact .inr (.inl q)
          · exact .inl q
          · exact .inr (.inr q)
      · show FsAt F' H' (if n = f then _ else (n, v) :: putF f v' fs) _ (if n = f then _ else (n, y) :: putFX f x' xs)
        rw [if_neg z, if_neg z]
        refine .cons (h1.mono s fun a ha => k a (List.mem_append_left _ ha)) (fun a ha m => ?_) q2
        rcases (q1 a).mp m with q | q
        · exact d a q (List.mem_append_left _ ha)
        · exact h2 a ha q
/-- the instance at p of the class at C -/
def recX (C p : Addr) (xs : List (Str × FV)) : XCell where
  rel := fun F H v fp => ∃ dx fs fq, v = .ref p ∧ (∀ a, a ∈ fp ↔ (a = p ∨ a = dx ∨ a ∈ fq)) ∧ p ≠ dx ∧ p ∉ fq ∧ dx ∉ fq ∧ H p = some (.ins C dx fs) ∧ H dx = some (.own p) ∧ FsAt F H fs fq xs
  loc := by
    rintro F F' H H' v fp ⟨dx, fs, fq, e1, e2, n0, n1, n2, h1, h2, h3⟩ s k
    exact ⟨dx, fs, fq, e1, e2, n0, n1, n2, by rw [k p ((e2 p).mpr (.inl rfl))]; exact h1, by rw [k dx ((e2 dx).mpr (.inr (.inl rfl)))]; exact h2, h3.mono s fun a ha => k a ((e2 a).mpr (.inr (.inr ha)))⟩
  there := by
    rintro F H v fp ⟨dx, fs, fq, e1, e2, n0, n1, n2, h1, h2, h3⟩ a m
    rcases (e2 a).mp m with e | e | e
    · rw [e]; exact ⟨_, h1⟩
    · rw [e]; exact ⟨_, h2⟩
    · exact h3.there a e
abbrev recC (C p : Addr) (xs : List (Str × FV)) : Cell := .ext (recX C p xs)
theorem rec_inst {C p : Addr} {xs : List (Str × FV)} {m : Str} (h : lookX m xs = none) : InstC C m (recC C p xs) := by
  rintro F H v fp ⟨dx, fs, fq, e1, e2, n0, n1, n2, h1, h2, h3⟩
  exact ⟨p, dx, fs, e1, h1, h3.no h⟩

/-! ### places: a cell that a name holds, or a part of one that it names by its address -/
/-- sub at q is a part of c; put tells c with another in its place -/
structure Foc (c : Cell) (q : Addr) (sub : Cell) (put : Cell → Cell) : Prop where
  loc : ∀ F H v fp, CellAt F H v fp c → ∃ fp1 fp2 : List Addr, (∀ a, a ∈ fp ↔ (a ∈ fp1 ∨ a ∈ fp2)) ∧ (∀ a ∈ fp1, a ∉ fp2) ∧ CellAt F H (.ref q) fp1 sub ∧
    ∀ (F' H' : Hp) (fp' : List Addr) (sub' : Cell), Same F F' → (∀ a ∈ fp2, H' a = H a) → (∀ a ∈ fp', a ∉ fp2) → CellAt F' H' (.ref q) fp' sub' → ∃ fpn : List Addr, (∀ a, a ∈ fpn ↔ (a ∈ fp' ∨ a ∈ fp2)) ∧ CellAt F' H' v fpn (put sub')
/-- sub is a part of c that the same value names -/
structure Inn (c : Cell) (sub : Cell) (put : Cell → Cell) : Prop where
  loc : ∀ F H v fp, CellAt F H v fp c → ∃ fp1 fp2 : List Addr, (∀ a, a ∈ fp ↔ (a ∈ fp1 ∨ a ∈ fp2)) ∧ (∀ a ∈ fp1, a ∉ fp2) ∧ CellAt F H v fp1 sub ∧
    ∀ (F' H' : Hp) (fp' : List Addr) (sub' : Cell), Same F F' → (∀ a ∈ fp2, H' a = H a) → (∀ a ∈ fp', a ∉ fp2) → CellAt F' H' v fp' sub' → ∃ fpn : List Addr, (∀ a, a ∈ fpn ↔ (a ∈ fp' ∨ a ∈ fp2)) ∧ CellAt F' H' v fpn (put sub')
inductive Plc (ρ : Rho) (y : Nat) (sub : Cell) : (Cell → Rho) → Prop
  | own {s : Slot} : ρ[y]? = some s → s.cell = some sub → Plc ρ y sub fun c' => ρ.set y (s.put c')
  | part {q : Addr} {i : Nat} {s : Slot} {c : Cell} {put : Cell → Cell} : ρ[y]? = some (.fz (adrD q)) → ρ[i]? = some s → s.cell = some c → Foc c q sub put → Plc ρ y sub fun c' => ρ.set i (s.put (put c'))
  | inn {s : Slot} {c : Cell} {put : Cell → Cell} : ρ[y]? = some s → s.cell = some c → Inn c sub put → Plc ρ y sub fun c' => ρ.set y (s.put (put c'))
/-- what may change at a place: nothing but its own addresses -/
def Upd (W : Ent) (F H : Hp) (σ τ : L2.St) (ε : Rho) (fp : List Addr) (v : V) (up : Cell → Rho) : Prop := ∀ (c' : Cell) (F' H' : Hp) (fp' : List Addr), Same F F' → Same F' H' → (∀ a o, F' a = some o → F a = some o ∨ H a = none) → (∀ a o, a ∉ fp → H a = some o → H' a = some o) →
  (∀ a ∈ fp', F' a = none ∧ (a ∈ fp ∨ H a = none)) → (∀ a ∈ fp, ∃ o, H' a = some o) → CellAt F' H' v fp' c' → At W F' H' σ τ (up c') ε
section
variable {W : Ent} {F H : Hp} {σ τ : L2.St} {ρ ε : Rho} {y : Nat} {sub : Cell} {up : Cell → Rho}
theorem At.foc {i : Nat} {s : Slot} {c : Cell} {q : Addr} {put : Cell → Cell} (R : At W F H σ τ ρ ε) (hs : ρ[i]? = some s) (hc : s.cell = some c) (f : Foc c q sub put) :
    ∃ fp, CellAt F H (.ref q) fp sub ∧ (∀ a ∈ fp, F a = none) ∧ (∀ a ∈ fp, ∃ o, H a = some o) ∧ Upd W F H σ τ ε fp (.ref q) fun c' => ρ.set i (s.put (put c')) := by
  obtain ⟨v, fp, h1, h2, h3, h4, mk⟩ := R.cellX hs hc
  obtain ⟨fp1, fp2, e1, e2, e3, e4⟩ := f.loc F H v fp h2
  refine ⟨fp1, e3, fun a ha => h3 a ((e1 a).mpr (.inl ha)), fun a ha => h4 a ((e1 a).mpr (.inl ha)), fun c' F' H' fp' sF sH gr fr new st cl => ?_⟩
  have same2 : ∀ a ∈ fp2, H' a = H a := fun a ha => by
    obtain ⟨o, q⟩ := h4 a ((e1 a).mpr (.inr ha))
    rw [q, fr a o (fun m => e2 a m ha) q]
  obtain ⟨fpn, n1, n2⟩ := e4 F' H' fp' c' sF same2 (fun a ha m => by
    rcases (new a ha).2 with z | z
    · exact e2 a z m
    · obtain ⟨o, q⟩ := h4 a ((e1 a).mpr (.inr m))
      rw [z] at q; cases q) cl
  refine mk _ F' H' fpn sF sH gr (fun a o n e => fr a o (fun m => n ((e1 a).mpr (.inl m))) e) (fun a ha => ?_) (fun a ha => ?_) n2
  · rcases (n1 a).mp ha with z | z
    · exact ⟨(new a z).1, (new a z).2.imp (fun m => (e1 a).mpr (.inl m)) fun m => m⟩
    · have m := (e1 a).mpr (.inr z)
      refine ⟨?_, .inl m⟩
      cases w : F' a with
      | none => rfl
      | some o =>
        rcases gr a o w with x | x
        · rw [h3 a m] at x; cases x
        · obtain ⟨o', q⟩ := h4 a m
          rw [x] at q; cases q
  · rcases (e1 a).mp ha with z | z
    · exact st a z
    · obtain ⟨o, q⟩ := h4 a ha
      exact ⟨o, by rw [same2 a z]; exact q⟩
theorem At.inn {i : Nat} {s : Slot} {c : Cell} {put : Cell → Cell} (R : At W F H σ τ ρ ε) (hs : ρ[i]? = some s) (hc : s.cell = some c) (f : Inn c sub put) :
    ∃ v fp, σ[i]? = some (some v) ∧ CellAt F H v fp sub ∧ (∀ a ∈ fp, F a = none) ∧ (∀ a ∈ fp, ∃ o, H a = some o) ∧ Upd W F H σ τ ε fp v fun c' => ρ.set i (s.put (put c')) := by
  obtain ⟨v, fp, h1, h2, h3, h4, mk⟩ := R.cellX hs hc
  obtain ⟨fp1, fp2, e1, e2, e3, e4⟩ := f.loc F H v fp h2
  refine ⟨v, fp1, h1, e3, fun a ha => h3 a ((e1 a).mpr (.inl ha)), fun a ha => h4 a ((e1 a).mpr (.inl ha)), fun c' F' H' fp' sF sH gr fr new st cl => ?_⟩
  have same2 : ∀ a ∈ fp2, H' a = H a := fun a ha => by
    obtain ⟨o, q⟩ := h4 a ((e1 a).mpr (.inr ha))
    rw [q, fr a o (fun m => e2 a m ha) q]
  obtain ⟨fpn, n1, n2⟩ := e4 F' H' fp' c' sF same2 (fun a ha m => by
    rcases (new a ha).2 with z | z
    · exact e2 a z m
    · obtain ⟨o, q⟩ := h4 a ((e1 a).mpr (.inr m))
      rw [z] at q; cases q) cl
  refine mk _ F' H' fpn sF sH gr (fun a o n e => fr a o (fun m => n ((e1 a).mpr (.inl m))) e) (fun a ha => ?_) (fun a ha => ?_) n2
  · rcases (n1 a).mp ha with z | z
    · exact ⟨(new a z).1, (new a z).2.imp (fun m => (e1 a).mpr (.inl m)) fun m => m⟩
    · have m := (e1 a).mpr (.inr z)
      refine ⟨?_, .inl m⟩
      cases w : F' a with
      | none => rfl
      | some o =>
        rcases gr a o w with x | x
        · rw [h3 a m] at x; cases x
        · obtain ⟨o', q⟩ := h4 a m
          rw [x] at q; cases q
  · rcases (e1 a).mp ha with z | z
    · exact st a z
    · obtain ⟨o, q⟩ := h4 a ha
      exact ⟨o, by rw [same2 a z]; exact q⟩
theorem At.plc (R : At W F H σ τ ρ ε) (h : Plc ρ y sub up) : ∃ v fp, σ[y]? = some (some v) ∧ CellAt F H v fp sub ∧ (∀ a ∈ fp, F a = none) ∧ (∀ a ∈ fp, ∃ o, H a = some o) ∧ Upd W F H σ τ ε fp v up := by
  cases h with
  | own hs hc =>
    obtain ⟨v, fp, h1, h2, h3, h4, mk⟩ := R.cellX hs hc
    exact ⟨v, fp, h1, h2, h3, h4, mk⟩
  | part hy hs hc f =>
    obtain ⟨v, g1, g2⟩ := R.var hy
    cases g2.adr_of
    obtain ⟨fp, h1, h2, h3, h4⟩ := R.foc hs hc f
    exact ⟨_, fp, g1, h1, h2, h3, h4⟩
  | inn hs hc f => exact R.inn hs hc f
/-- a field of a record that a place holds -/
theorem At.fld {C p : Addr} {xs : List (Str × FV)} {f : Str} {x : FV} (R : At W F H σ τ ρ ε) (h : Plc ρ y (recC C p xs) up) (hx : lookX f xs = some x) : ∃ (dx : Addr) (fs : List (Str × V)) (v : V) (fp : List Addr), σ[y]? = some (some (.ref p)) ∧ H p = some (.ins C dx fs) ∧ fs.length = xs.length ∧ fs.lookup f = some v ∧ FVAt F H v fp x ∧ (∀ a ∈ fp, F a = none) ∧ (∀ a ∈ fp, ∃ o, H a = some o) ∧ p ∉ fp ∧ F p = none ∧
    -- the field's own part changes
    (∀ (x' : FV) (F' H' : Hp) (fp' : List Addr), Same F F' → Same F' H' → (∀ a o, F' a = some o → F a = some o ∨ H a = none) → (∀ a o, a ∉ fp → H a = some o → H' a = some o) → (∀ a ∈ fp', F' a = none ∧ (a ∈ fp ∨ H a = none)) → (∀ a ∈ fp, ∃ o, H' a = some o) → FVAt F' H' v fp' x' → At W F' H' σ τ (up (recC C p (putFX f x' xs))) ε) ∧
    -- another value is stored
    (∀ (x' : FV) (v' : V) (F' H' : Hp) (fp' : List Addr), Same F F' → Same H H' → Same F' H' → (∀ a o, F' a = some o → F a = some o ∨ H a = none) → (∀ a ∈ fp', F' a = none ∧ H a = none) → FVAt F' H' v' fp' x' → At W F' (L2.upd H' p (.ins C dx (putF f v' fs))) σ τ (up (recC C p (putFX f x' xs))) ε) := by
  obtain ⟨v0, fp0, g1, ⟨dx, fs, fq, rfl, e2, n0, n1, n2, h1, h2, h3⟩, g3, g4, mk⟩ := R.plc h
  obtain ⟨v, fp1, fp2, l1, l2, l3, l4, l5, l6⟩ := h3.look hx
  have in1 : ∀ a, a ∈ fp1 → a ∈ fp0 := fun a m => (e2 a).mpr (.inr (.inr ((l3 a).mpr (.inl m))))
  have in2 : ∀ a, a ∈ fp2 → a ∈ fp0 := fun a m => (e2 a).mpr (.inr (.inr ((l3 a).mpr (.inr m))))
  have np1 : p ∉ fp1 := fun m => n1 ((l3 p).mpr (.inl m))
  have np2 : p ∉ fp2 := fun m => n1 ((l3 p).mpr (.inr m))
  have nd1 : dx ∉ fp1 := fun m => n2 ((l3 dx).mpr (.inl m))
  have pin : p ∈ fp0 := (e2 p).mpr (.inl rfl)
  have din : dx ∈ fp0 := (e2 dx).mpr (.inr (.inl rfl))
  refine ⟨dx, fs, v, fp1, g1, h1, h3.len, l1, l2, fun a m => g3 a (in1 a m), fun a m => g4 a (in1 a m), np1, g3 p pin, fun x' F' H' fp' sF sH gr fr new st at' => ?_, fun x' v' F' H' fp' sF sHH sFH gr new at' => ?_⟩
  · have keep : ∀ a, a ∈ fp0 → a ∉ fp1 → H' a = H a := fun a m n => by
      obtain ⟨o, q⟩ := g4 a m
      rw [q, fr a o n q]
    have nw : ∀ a ∈ fp', a ∉ fp0 ∨ a ∈ fp1 := fun a m => by
      rcases (new a m).2 with z | z
      · exact .inr z
      · refine .inl fun w => ?_
        obtain ⟨o, q⟩ := g4 a w
        rw [z] at q; cases q
    obtain ⟨fq', q1, q2⟩ := l6 F' H' v fp' x' sF (fun a m => keep a (in2 a m) fun w => l4 a w m) (fun a m w => by
      rcases nw a m with z | z
      · exact z (in2 a w)
      · exact l4 a z w) at'
    rw [l5] at q2
    have av : ∀ a, a ∈ fp0 → a ∉ fp1 → a ∉ fp' := fun a m n w => by
      rcases nw a w with z | z
      · exact z m
      · exact n z
    refine mk _ F' H' (p :: dx :: fq') sF sH gr (fun a o n e => fr a o (fun m => n (in1 a m)) e) (fun a m => ?_) (fun a m => ?_) ⟨dx, fs, fq', rfl, fun a => by rw [List.mem_cons, List.mem_cons], n0, fun m => ?_, fun m => ?_, by rw [keep p pin np1]; exact h1, by rw [keep dx din nd1]; exact h2, q2⟩
    · have old : ∀ a ∈ fp0, a ∉ fp1 → F' a = none := fun a m n => by
        cases z : F' a with
        | none => rfl
        | some o =>
          rcases gr a o z with w | w
          · rw [g3 a m] at w; cases w
          · obtain ⟨o', q⟩ := g4 a m
            rw [w] at q; cases q
      rcases List.mem_cons.mp m with e | m
      · rw [e]; exact ⟨old p pin np1, .inl pin⟩
      · rcases List.mem_cons.mp m with e | m
        · rw [e]; exact ⟨old dx din nd1, .inl din⟩
        · rcases (q1 a).mp m with z | z
          · exact ⟨(new a z).1, (new a z).2.imp (in1 a) fun w => w⟩
          · exact ⟨old a (in2 a z) fun w => l4 a w z, .inl (in2 a z)⟩
    · by_cases z : a ∈ fp1
      · exact st a z
      · obtain ⟨o, q⟩ := g4 a m
        exact ⟨o, by rw [keep a m z]; exact q⟩
    · rcases (q1 p).mp m with z | z
      · exact av p pin np1 z
      · exact np2 z
    · rcases (q1 dx).mp m with z | z
      · exact av dx din nd1 z
      · exact n2 ((l3 dx).mpr (.inr z))
  · have hH : ∀ a o, H a = some o → H' a = some o := sHH
    have upo : ∀ a, a ≠ p → L2.upd H' p (.ins C dx (putF f v' fs)) a = H' a := fun a n => upd_ne n
    have av : ∀ a ∈ fp', a ∉ fp0 := fun a m w => by
      obtain ⟨o, q⟩ := g4 a w
      rw [(new a m).2] at q; cases q
    have keep : ∀ a, a ∈ fp0 → a ≠ p → L2.upd H' p (.ins C dx (putF f v' fs)) a = H a := fun a m n => by
      obtain ⟨o, q⟩ := g4 a m
      rw [upo a n, q, hH a o q]
    have fpn : F' p = none := by
      cases z : F' p with
      | none => rfl
      | some o =>
        rcases gr p o z with w | w
        · rw [g3 p pin] at w; cases w
        · rw [h1] at w; cases w
    obtain ⟨fq', q1, q2⟩ := l6 F' (L2.upd H' p (.ins C dx (putF f v' fs))) v' fp' x' sF (fun a m => keep a (in2 a m) fun e => np2 (e ▸ m)) (fun a m w => av a m (in2 a w)) (at'.mono (Same.refl _) fun a m => upo a fun e => av p (e ▸ m) pin)
    refine mk _ F' _ (p :: dx :: fq') sF (fun a o e => ?_) gr (fun a o n e => ?_) (fun a m => ?_) (fun a m => ?_) ⟨dx, _, fq', rfl, fun a => by rw [List.mem_cons, List.mem_cons], n0, fun m => ?_, fun m => ?_, upd_same, by rw [keep dx din n0.symm]; exact h2, q2⟩
    · by_cases z : a = p
      · rw [z, fpn] at e; cases e
      · rw [upo a z]; exact sFH a o e
    · have z : a ≠ p := fun w => n (w ▸ pin)
      rw [upo a z]; exact hH a o e
    · have old : ∀ a ∈ fp0, F' a = none := fun a m => by
        cases z : F' a with
        | none => rfl
        | some o =>
          rcases gr a o z with w | w
          · rw [g3 a m] at w; cases w
          · obtain ⟨o', q⟩ := g4 a m
            rw [w] at q; cases q
      rcases List.mem_cons.mp m with e | m
      · rw [e]; exact ⟨old p pin, .inl pin⟩
      · rcases List.mem_cons.mp m with e | m
        · rw [e]; exact ⟨old dx din, .inl din⟩
        · rcases (q1 a).mp m with z | z
          · exact ⟨(new a z).1, .inr (new a z).2⟩
          · exact ⟨old a (in2 a z), .inl (in2 a z)⟩
    · by_cases z : a = p
      · rw [z]; exact ⟨_, upd_same⟩
      · obtain ⟨o, q⟩ := g4 a m
        exact ⟨o, by rw [keep a m z]; exact q⟩
    · rcases (q1 p).mp m with z | z
      · exact av p z pin
      · exact np2 z
    · rcases (q1 dx).mp m with z | z
      · exact av dx z din
      · exact n2 ((l3 dx).mpr (.inr z))
end

open PySem L2
/-! ### ints that are only read off -/
structure PPI (X : Cx) (W : Ent) (e : Expr) (pi : Rho → Int → Prop) : Prop where
  ex : ∃ te, PE X e te ∧ ∀ F H σ τ ρ ε i (k : VK), At W F H σ τ ρ ε → pi ρ i → k (.int i) H → te σ H k
def piC (j : Int) : Rho → Int → Prop := fun _ i => i = j
def piV (y : Nat) : Rho → Int → Prop := fun ρ i => ρ[y]? = some (.fz (.int i))
def piSub (pa pb : Rho → Int → Prop) : Rho → Int → Prop := fun ρ i => ∃ a b, pa ρ a ∧ pb ρ b ∧ i = a - b
/-- y.f, an int of a record -/
def piF (C : Addr) (y : Nat) (f : Str) : Rho → Int → Prop := fun ρ i => ∃ p xs up, Plc ρ y (recC C p xs) up ∧ lookX f xs = some (.d (.int i))
section
variable {X : Cx} {W : Ent} {e a b : Expr} {pa pb : Rho → Int → Prop} {C : Addr} {y : Nat} {f : Str} {pos : Pos}
theorem ppi_c {i : Int} {j} : PPI X W (.Constant (.int i) j pos) (piC i) := ⟨_, pe_int, fun F H σ τ ρ ε i k R h q => by cases h; exact q⟩
theorem ppi_v (h : PE X e (tVar y)) : PPI X W e (piV y) := ⟨_, h, fun F H σ τ ρ ε i k R h q => by
  obtain ⟨v, h1, h2⟩ := R.var h
  cases h2.int_of
  exact ⟨_, h1, q⟩⟩
theorem ppi_neg {i : Int} {j} {p : Pos} : PPI X W (.UnaryOp .USub (.Constant (.int i) j p) pos) (piC (-i)) := ⟨_, pe_un un_neg pe_int, fun F H σ τ ρ ε i k R h q => by cases h; exact ⟨_, rfl, q⟩⟩
theorem ppi_sub (ha : PPI X W a pa) (hb : PPI X W b pb) : PPI X W (.BinOp a .Sub b pos) (piSub pa pb) := by
  obtain ⟨ta, a1, a2⟩ := ha.ex
  obtain ⟨tb, b1, b2⟩ := hb.ex
  refine ⟨_, pe_op op_sub a1 b1, fun F H σ τ ρ ε i k R h q => ?_⟩
  obtain ⟨i, j, h1, h2, rfl⟩ := h
  exact a2 F H σ τ ρ ε i _ R h1 (b2 F H σ τ ρ ε j _ R h2 ⟨_, _, rfl, rfl, q⟩)
theorem ppi_f (hc : Cls X.K C) (hn : NoAttr X.K C f) (h : PE X e (tVar y)) (hb : attributeBase e f X.env (eval e X.env) = eval e X.env := by rfl) : PPI X W (.Attribute e f pos) (piF C y f) := by
  refine ⟨_, pe_fld h hb, fun F H σ τ ρ ε i k R h q => ?_⟩
  obtain ⟨p, xs, up, h1, h2⟩ := h
  obtain ⟨dx, fs, v, fp, g1, g2, _, g3, g4, _⟩ := R.fld h1 h2
  cases g4.2.int_of
  exact ⟨_, g1, p, C, dx, fs, _, rfl, g2, hc, hn, g3, q⟩
end
/-! ### a record's fields at a place -/
def dPF (C : Addr) (y : Nat) (f : Str) : DE := fun ρ Q => ∃ p xs up d, Plc ρ y (recC C p xs) up ∧ lookX f xs = some (.d d) ∧ Q d ρ
def dPLen (C : Addr) (y : Nat) (f : Str) : DE := fun ρ Q => ∃ p xs up ys, Plc ρ y (recC C p xs) up ∧ lookX f xs = some (.c (.l ys)) ∧ Q (.int ys.length) ρ
def dPIx (C : Addr) (y : Nat) (f : Str) (pb : Rho → Int → Prop) : DE := fun ρ Q => ∃ i p xs up ys z, pb ρ i ∧ Plc ρ y (recC C p xs) up ∧ lookX f xs = some (.c (.l ys)) ∧ L2.atI ys i = some z ∧ Q z ρ
def dPApp (C : Addr) (y : Nat) (f : Str) (pb : Rho → Int → Prop) : DE := fun ρ Q => ∃ i p xs up ys, pb ρ i ∧ Plc ρ y (recC C p xs) up ∧ lookX f xs = some (.c (.l ys)) ∧ ys.length < sizeLine ∧ Q .none (up (recC C p (putFX f (.c (.l (ys ++ [.int i]))) xs)))
def dPIn (g : Bool → Bool) (C : Addr) (dk : DE) (y : Nat) (f : Str) : DE := fun ρ Q => dk ρ fun d ρ1 => ∃ p xs up kvs k, Plc ρ1 y (recC C p xs) up ∧ lookX f xs = some (.c (.dt kvs)) ∧ d = keysD k ∧ Q (.bool (g (valX kvs k).isSome)) ρ1
/-- y.f[z], z a name -/
def dPGet (C : Addr) (y : Nat) (f : Str) (z : Nat) : DE := fun ρ Q => ∃ p xs up kvs k w, Plc ρ y (recC C p xs) up ∧ lookX f xs = some (.c (.dt kvs)) ∧ ρ[z]? = some (.fz (keysD k)) ∧ valX kvs k = some w ∧ Q w ρ
/-- y.f[z] = e -/
def dPPut (C : Addr) (y : Nat) (f : Str) (z : Nat) (dv : DE) : DS := fun D ρ => dv ρ fun d ρ1 => ∃ p xs up kvs k, Plc ρ1 y (recC C p xs) up ∧ lookX f xs = some (.c (.dt kvs)) ∧ ρ1[z]? = some (.fz (keysD k)) ∧ kvs.length < sizeLine ∧ D.nx (up (recC C p (putFX f (.c (.dt (putX kvs k d))) xs)))
/-- y.f = e, of a field that stands -/
def dPSet (C : Addr) (y : Nat) (f : Str) (dv : DE) : DS := fun D ρ => dv ρ fun d ρ1 => ∃ p xs up x, Plc ρ1 y (recC C p xs) up ∧ lookX f xs = some x ∧ xs.length < 1000 ∧ D.nx (up (recC C p (putFX f (.d d) xs)))
section
variable {X : Cx} {W : Ent} {e o b k : Expr} {de dv dk : DE} {pb : Rho → Int → Prop} {C : Addr} {y z : Nat} {f : Str} {pos pos' p p1 p2 apos cpos : Pos}
theorem de_pf (hc : Cls X.K C) (hn : NoAttr X.K C f) (h : PE X e (tVar y)) (hb : attributeBase e f X.env (eval e X.env) = eval e X.env := by rfl) : PDE X W (.Attribute e f pos) (dPF C y f) := by
  refine ⟨_, pe_fld h hb, fun F H σ τ ρ ε Q k R h q => ?_⟩
  obtain ⟨p, xs, up, d, h1, h2, h⟩ := h
  obtain ⟨dx, fs, v, fp, g1, g2, _, g3, g4, _⟩ := R.fld h1 h2
  exact ⟨_, g1, p, C, dx, fs, _, rfl, g2, hc, hn, g3, q F H ρ _ _ R (Same.refl _) g4.2 h⟩
theorem de_pfLen (hg : Gl X "len") (hm : X.mg "len" = none) (hc : Cls X.K C) (hn : NoAttr X.K C f) (h : PE X e (tVar y)) (hb : attributeBase e f X.env (eval e X.env) = eval e X.env := by rfl)
    (he : starEach [.Attribute e f p1] X.env = (false, eval (.Attribute e f p1) X.env) :: starEach [] X.env := by rfl) (hpl : (backTo pos (starEach [] X.env)).any (·.1) = false := by rfl) : PDE X W (.Call (.Name "len" p) [.Attribute e f p1] [] pos) (dPLen C y f) := by
  refine ⟨_, pe_callB call_len_seq hg hm PySem.boot_len (pa_cons (pe_fld h hb) pa_nil he) (by decide) (by decide) he hpl, fun F H σ τ ρ ε Q k R h q => ?_⟩
  obtain ⟨p, xs, up, ys, h1, h2, h⟩ := h
  obtain ⟨dx, fs, v, fp, g1, g2, _, g3, ⟨q1, vs, rfl, e2, hq, r⟩, _⟩ := R.fld h1 h2
  refine ⟨_, g1, p, C, dx, fs, _, rfl, g2, hc, hn, g3, q1, _, rfl, .inl (SqL.of hq), ?_⟩
  rw [r.length]
  exact q F H ρ _ _ R (Same.refl _) (.int _) h
theorem de_pfIx (hc : Cls X.K C) (hn : NoAttr X.K C f) (h : PE X e (tVar y)) (hb : PPI X W b pb) (hat : attributeBase e f X.env (eval e X.env) = eval e X.env := by rfl) (hs : PlainIx b := by intro _ _; rfl) : PDE X W (.Subscript (.Attribute e f p1) b pos) (dPIx C y f pb) := by
  obtain ⟨tb, b1, b2⟩ := hb.ex
  refine ⟨_, pe_ix ix_list (pe_fld h hat) b1 hs, fun F H σ τ ρ ε Q k R h q => ?_⟩
  obtain ⟨i, p, xs, up, ys, z, hi, h1, h2, hz, h⟩ := h
  obtain ⟨dx, fs, v, fp, g1, g2, _, g3, ⟨q1, vs, rfl, e2, hq, r⟩, _⟩ := R.fld h1 h2
  refine ⟨_, g1, p, C, dx, fs, _, rfl, g2, hc, hn, g3, b2 F H σ τ ρ ε i _ R hi ?_⟩
  obtain ⟨w, hw, rw_⟩ := r.atI hz
  exact ⟨q1, vs, i, w, rfl, rfl, SqL.of hq, hw, q F H ρ _ _ R (Same.refl _) rw_ h⟩
theorem de_pfApp (hc : Cls X.K C) (hn : NoAttr X.K C f) (h : PE X e (tVar y)) (hb : PPI X W b pb) (hat : attributeBase e f X.env (eval e X.env) = eval e X.env := by rfl)
    (hbase : attributeBase (.Attribute e f p1) "append" X.env (eval (.Attribute e f p1) X.env) = eval (.Attribute e f p1) X.env := by rfl)
    (hfew : ((backTo cpos (starEach [b] X.env)).all (fun x => !x.1) && (backToKw cpos (keywordEach [] X.env)).all (fun x => x.1.isSome)
      && decide ([b].length + ([] : List Keyword).length + (if ([] : List Keyword).isEmpty then 0 else 1) < 30)) = true := by rfl)
    (hline : (apos.endLine == cpos.line) = true := by rfl) (hs : starEach [b] X.env = (false, eval b X.env) :: starEach [] X.env := by rfl) (hplain : (backTo cpos (starEach [] X.env)).any (·.1) = false := by rfl) :
    PDE X W (.Call (.Attribute (.Attribute e f p1) "append" apos) [b] [] cpos) (dPApp C y f pb) := by
  obtain ⟨tb, b1, b2⟩ := hb.ex
  refine ⟨_, pe_bm PySem.F.plainAttrs_list PySem.F.slot_list_append PySem.F.type_list_append mt_append (pe_fld h hat) (pa_cons b1 pa_nil hs) hbase hfew hline hs hplain, fun F H σ τ ρ ε Q k R h q => ?_⟩
  obtain ⟨i, p, xs, up, ys, hi, h1, h2, hl, h⟩ := h
  obtain ⟨dx, fs, v, fp, g1, g2, _, g3, ⟨q1, vs, rfl, e2, hq, r⟩, n1, n2, n3, _, mk, _⟩ := R.fld h1 h2
  refine ⟨_, g1, p, C, dx, fs, _, rfl, g2, hc, hn, g3, .inl ⟨rfl, _, SqL.of hq⟩, b2 F H σ τ ρ ε i _ R hi ?_⟩
  have hf : F q1 = none := n1 q1 (by rw [e2]; exact List.mem_cons_self)
  refine ⟨q1, vs, _, rfl, rfl, hq, by rw [r.length]; exact hl, ?_⟩
  refine q F _ _ _ _ (mk (.c (.l (ys ++ [.int i]))) F (upd H q1 (.lst (vs ++ [.int i]))) fp (Same.refl _) (fun a o w => ?_) (fun a o w => .inl w) (fun a o n w => ?_) (fun a m => ⟨n1 a m, .inl m⟩) (fun a m => ?_) ⟨q1, _, rfl, e2, upd_same, r.append (.cons (.int i) .nil)⟩) (Same.refl _) .non h
  · rw [upd_ne fun z => by rw [z, hf] at w; cases w]; exact R.ex a o w
  · rw [upd_ne fun z => n (by rw [z, e2]; exact List.mem_cons_self)]; exact w
  · rw [e2] at m
    rw [List.mem_singleton.mp m]; exact ⟨_, upd_same⟩
theorem snd_pin {ty : TE} (hc : Cls X.K C) (hn : NoAttr X.K C f) (h2 : SndE W ty dk) : SndE W (tDIn ty (tFld X.K (tVar y) f)) (dPIn (fun k => k) C dk y f) ∧ SndE W (tDNotIn ty (tFld X.K (tVar y) f)) (dPIn (fun k => !k) C dk y f) := by
  refine ⟨fun F H σ τ ρ ε Q k R h q => h2 F H σ τ ρ ε _ _ R h fun F1 H1 ρ1 v d R1 s1 r1 h1 => ?_, fun F H σ τ ρ ε Q k R h q => h2 F H σ τ ρ ε _ _ R h fun F1 H1 ρ1 v d R1 s1 r1 h1 => ?_⟩
  all_goals
    obtain ⟨p, xs, up, kvs, kk, g, hx, rfl, h1⟩ := h1
    obtain ⟨b, rfl, hb⟩ := r1.keysD_of
    obtain ⟨dx, fs, v, fp, g1, g2, _, g3, ⟨q1, kw, rfl, e2, hq, e3, r⟩, _⟩ := R1.fld g hx
    obtain ⟨i1, i2⟩ := valX_rep (k := kk) e3 r
    have e : (valV kw kk).isSome = (valX kvs kk).isSome := by
      cases w : valX kvs kk with
      | none => rw [i1 w]; rfl
      | some z => obtain ⟨u, hu, _⟩ := i2 z w; rw [hu]; rfl
    refine ⟨_, g1, p, C, dx, fs, _, rfl, g2, hc, hn, g3, q1, _, rfl, DGet.t hq (R1.ex _ _ hb), ?_⟩
    rw [e]
    exact q F1 H1 ρ1 _ _ R1 s1 (.bl _) h1
theorem dt_pfNotIn (hu : X.A.units + 1 < cLine) (hc : Cls X.K C) (hn : NoAttr X.K C f) (hk : PDE X W k dk) (h : PE X e (tVar y)) (hat : attributeBase e f X.env (eval e X.env) = eval e X.env := by rfl) (hm : behindInMarks .NotIn (.Attribute e f p1) = false := by rfl) : PDT X W (.Compare k [.NotIn] [.Attribute e f p1] pos) (dTest (dPIn (fun k => !k) C dk y f)) := by
  obtain ⟨t2, b1, b2⟩ := hk.ex
  exact ⟨_, pt_cmp (pc_dnotin hu b1 (pe_fld h hat)) hm, snd_B (snd_pin hc hn b2).2⟩
theorem de_pfGet (hu : X.A.units + 1 < cLine) (hc : Cls X.K C) (hn : NoAttr X.K C f) (h : PE X e (tVar y)) (hk : PE X k (tVar z)) (hat : attributeBase e f X.env (eval e X.env) = eval e X.env := by rfl) (hs : NoSl k := by intro _ _; rfl) : PDE X W (.Subscript (.Attribute e f p1) k pos) (dPGet C y f z) := by
  refine ⟨_, pe_dget hu (pe_fld h hat) hk hs, fun F H σ τ ρ ε Q k R h q => ?_⟩
  obtain ⟨p, xs, up, kvs, kk, w, g, hx, hz, hw, h⟩ := h
  obtain ⟨dx, fs, v, fp, g1, g2, _, g3, ⟨q1, kw, rfl, e2, hq, e3, r⟩, _⟩ := R.fld g hx
  obtain ⟨u, k1, k2⟩ := R.var hz
  obtain ⟨b, rfl, hb⟩ := k2.keysD_of
  obtain ⟨i1, i2⟩ := valX_rep (k := kk) e3 r
  obtain ⟨u, hu2, ru⟩ := i2 w hw
  refine ⟨_, g1, p, C, dx, fs, _, rfl, g2, hc, hn, g3, _, k1, q1, u, rfl, ?_, q F H ρ u w R (Same.refl _) ru h⟩
  rw [← hu2]
  exact DGet.t hq (R.ex _ _ hb)
theorem ds_pfPut {value : Expr} (hu : X.A.units + 1 < cLine) (hc : Cls X.K C) (hn : NoAttr X.K C f) (h : PE X e (tVar y)) (hk : PE X k (tVar z)) (hv : PDE X W value dv) (hat : attributeBase e f X.env (eval e X.env) = eval e X.env := by rfl)
    (hs : swapsWith value (some (.Subscript (.Attribute e f p1) k pos')) pos.line X.env = pure false := by rfl) : PDS X W (.Assign [.Subscript (.Attribute e f p1) k pos'] value pos) (dPPut C y f z dv) := by
  obtain ⟨t1, a1, a2⟩ := hv.ex
  refine ⟨_, ps_dput hu (pe_fld h hat) hk a1 hs, fun F H σ ρ D DD R L h => a2 F H σ [] ρ [] _ _ R h fun F1 H1 ρ1 v d R1 s1 r1 h1 => ?_⟩
  obtain ⟨p, xs, up, kvs, kk, g, hx, hz, hl, h1⟩ := h1
  obtain ⟨dx, fs, v', fp, g1, g2, _, g3, ⟨q1, kw, rfl, e2, hq, e3, r⟩, n1, n2, n3, _, mk, _⟩ := R1.fld g hx
  obtain ⟨u, k1, k2⟩ := R1.var hz
  obtain ⟨b, rfl, hb⟩ := k2.keysD_of
  obtain ⟨i1, i2⟩ := put_rep (k := kk) e3 r r1
  have hlen : kw.length < sizeLine := by have := congrArg List.length e3; rw [List.length_map, List.length_map] at this; omega
  have hf : F1 q1 = none := n1 q1 (by rw [e2]; exact List.mem_cons_self)
  refine ⟨_, g1, p, C, dx, fs, _, rfl, g2, hc, hn, g3, _, k1, q1, _, rfl, DPut.t hq (R1.ex _ _ hb) hlen, ?_⟩
  refine L.nx F1 _ σ _ (mk (.c (.dt (putX kvs kk d))) F1 (upd H1 q1 (.dT (putK kw kk v))) fp (Same.refl _) (fun a o w => ?_) (fun a o w => .inl w) (fun a o n w => ?_) (fun a m => ⟨n1 a m, .inl m⟩) (fun a m => ?_) ⟨q1, _, rfl, e2, upd_same, i1, i2⟩) s1 h1
  · rw [upd_ne fun z => by rw [z, hf] at w; cases w]; exact R1.ex a o w
  · rw [upd_ne fun z => n (by rw [z, e2]; exact List.mem_cons_self)]; exact w
  · rw [e2] at m
    rw [List.mem_singleton.mp m]; exact ⟨_, upd_same⟩
theorem ds_pfSet {value : Expr} (hc : Cls X.K C) (hn : NoAttr X.K C f) (h : PE X o (tVar y)) (hv : PDE X W value dv) (hs : swapsWith value (some (.Attribute o f pos')) pos.line X.env = pure false := by rfl) : PDS X W (.Assign [.Attribute o f pos'] value pos) (dPSet C y f dv) := by
  obtain ⟨t1, a1, a2⟩ := hv.ex
  refine ⟨_, ps_fld h a1 hs, fun F H σ ρ D DD R L h => a2 F H σ [] ρ [] _ _ R h fun F1 H1 ρ1 v d R1 s1 r1 h1 => ?_⟩
  obtain ⟨p, xs, up, x, g, hx, hl, h1⟩ := h1
  obtain ⟨dx, fs, v', fp, g1, g2, gl, g3, g4, n1, n2, n3, _, _, mk⟩ := R1.fld g hx
  exact ⟨_, g1, p, C, dx, fs, rfl, g2, hc, hn, by rw [gl]; exact hl, L.nx F1 _ σ _ (mk (.d d) v F1 H1 [] (Same.refl _) (Same.refl _) R1.ex (fun a o w => .inl w) (fun a m => absurd m List.not_mem_nil) ⟨rfl, r1⟩) s1 h1⟩
end

open PySem L2
/-! ### what one name holds, taken away: the walk as if it were not there -/
def cutH (H : Hp) (fp : List Addr) : Hp := fun a => if a ∈ fp then none else H a
theorem cut_in {H : Hp} {fp : List Addr} {a : Addr} (h : a ∈ fp) : cutH H fp a = none := if_pos h
theorem cut_out {H : Hp} {fp : List Addr} {a : Addr} (h : a ∉ fp) : cutH H fp a = H a := if_neg h
theorem cut_same {H : Hp} {fp : List Addr} : Same (cutH H fp) H := fun a o e => by
  by_cases m : a ∈ fp
  · rw [cut_in m] at e; cases e
  · rw [cut_out m] at e; exact e
section
variable {W : Ent} {F H : Hp} {σ τ : L2.St} {ρ ε : Rho}
theorem At.cut {j : Nat} {c : Cell} (R : At W F H σ τ ρ ε) (hj : ρ[j]? = some (.ow c)) : ∃ v fp, σ[j]? = some (some v) ∧ CellAt F H v fp c ∧ (∀ a ∈ fp, F a = none) ∧ (∀ a ∈ fp, ∃ o, H a = some o) ∧ ∀ d, Rep F v d → At W F (cutH H fp) σ τ (ρ.set j (.fz d)) ε := by
  have hi := lt_of_get hj
  obtain ⟨fpo, o1, o2⟩ := R.rel.ow
  obtain ⟨⟨v, h1, h2⟩, h3⟩ := o1 j _ c (getApp1 hj) rfl
  rw [get_app (by rw [R.len]; exact hi)] at h1
  have hL := R.rel.len
  have get : ∀ (k : Nat) (s1 : Slot) d, (ρ.set j (.fz d) ++ ε)[k]? = some s1 → (k = j ∧ s1 = .fz d) ∨ (k ≠ j ∧ (ρ ++ ε)[k]? = some s1) := fun k s1 d h => by
    by_cases z : k = j
    · subst z
      rw [get_app (by rw [List.length_set]; exact hi), List.getElem?_set_self hi] at h
      exact .inl ⟨rfl, (Option.some.inj h).symm⟩
    · refine .inr ⟨z, ?_⟩
      rw [← List.set_append_left _ _ hi, List.getElem?_set_ne (fun e => z e.symm)] at h
      exact h
  have own0 : ∀ a ∈ fpo j, W.H0 a = none := fun a m => by
    rcases (h3 a m).2 with z | ⟨_, _, z⟩
    · exact z
    · cases z
  refine ⟨v, fpo j, h1, h2, fun a m => (h3 a m).1, h2.there, fun d hd => ⟨by rw [List.length_set]; exact R.len, ⟨fun a o e => ?_, by rw [List.length_append, List.length_append, List.length_set]; rw [List.length_append, List.length_append] at hL; exact hL, fun k d' e => ?_, fun k c' e => ?_, ⟨fpo, fun k s c' e ec => ?_, fun k m s s' c1 c2 hkm e ec e' ec' => ?_⟩, fun a o e n => ?_, fun a o e => ?_, R.rel.gr, R.rel.f0⟩, R.nio⟩⟩
  · rw [cut_out fun m => by rw [(h3 a m).1] at e; cases e]
    exact R.ex a o e
  · rcases get k _ d e with ⟨z, q⟩ | ⟨z, q⟩
    · cases q; subst z
      exact ⟨v, by rw [get_app (by rw [R.len]; exact hi)]; exact h1, hd⟩
    · exact R.rel.fz k d' q
  · rcases get k _ d e with ⟨z, q⟩ | ⟨z, q⟩
    · cases q
    · exact R.rel.io k c' q
  · rcases get k _ d e with ⟨z, q⟩ | ⟨z, q⟩
    · subst q; cases ec
    · obtain ⟨⟨v', g1, g2⟩, g3⟩ := o1 k s c' q ec
      exact ⟨⟨v', g1, g2.mono (Same.refl _) fun a ha => cut_out (o2 k j s _ c' c z q ec (getApp1 hj) rfl a ha)⟩, g3⟩
  · rcases get k _ d e with ⟨z, q⟩ | ⟨z, q⟩
    · subst q; cases ec
    · rcases get m _ d e' with ⟨z', q'⟩ | ⟨z', q'⟩
      · subst q'; cases ec'
      · exact o2 k m s s' c1 c2 hkm q ec q' ec'
  · rw [cut_out fun m => by rw [own0 a m] at e; cases e]
    exact R.rel.fr a o e n
  · obtain ⟨o', q⟩ := R.rel.st a o e
    exact ⟨o', by rw [cut_out fun m => by rw [own0 a m] at e; cases e]; exact q⟩
/-- the thing that waits, taken away -/
theorem At.popCut {c : Cell} {v : V} (R : At W F H σ (some v :: τ) ρ (.ow c :: ε)) : ∃ fp, CellAt F H v fp c ∧ (∀ a ∈ fp, F a = none) ∧ (∀ a ∈ fp, ∃ o, H a = some o) ∧ At W F (cutH H fp) σ τ ρ ε := by
  obtain ⟨fpo, o1, o2⟩ := R.rel.ow
  have hL := R.rel.len
  have hlt : τ.length = ε.length := by rw [List.length_append, List.length_append, R.len, List.length_cons, List.length_cons] at hL; omega
  have e0 : (ρ ++ (Slot.ow c :: ε))[ρ.length]? = some (.ow c) := by rw [List.getElem?_append_right (Nat.le_refl _), Nat.sub_self]; rfl
  have s0 : (σ ++ (some v :: τ))[ρ.length]? = some (some v) := by rw [← R.len, List.getElem?_append_right (Nat.le_refl _), Nat.sub_self]; rfl
  obtain ⟨⟨v', h1, h2⟩, h3⟩ := o1 ρ.length _ c e0 rfl
  rw [s0] at h1
  cases h1
  have own0 : ∀ a ∈ fpo ρ.length, W.H0 a = none := fun a m => by
    rcases (h3 a m).2 with z | ⟨_, _, z⟩
    · exact z
    · cases z
  let f : Nat → Nat := fun k => if k < ρ.length then k else k + 1
  have get : ∀ (k : Nat) (s : Slot), (ρ ++ ε)[k]? = some s → (ρ ++ (Slot.ow c :: ε))[f k]? = some s ∧ (σ ++ (some v :: τ))[f k]? = (σ ++ τ)[k]? ∧ f k ≠ ρ.length := fun k s e => by
    by_cases z : k < ρ.length
    · have ef : f k = k := if_pos z
      rw [ef, get_app z, get_app (by rw [R.len]; exact z), get_app (by rw [R.len]; exact z)]
      rw [get_app z] at e
      exact ⟨e, rfl, by omega⟩
    · have ef : f k = k + 1 := if_neg z
      rw [ef, List.getElem?_append_right (by omega), List.getElem?_append_right (by rw [R.len]; omega), List.getElem?_append_right (by rw [R.len]; omega), R.len]
      rw [List.getElem?_append_right (by omega)] at e
      rw [show k + 1 - ρ.length = (k - ρ.length) + 1 by omega, List.getElem?_cons_succ, List.getElem?_cons_succ]
      exact ⟨e, rfl, by omega⟩
  have inj : ∀ k m : Nat, f k = f m → k = m := fun k m e => by
    have e : (if k < ρ.length then k else k + 1) = (if m < ρ.length then m else m + 1) := e
    by_cases y1 : k < ρ.length
    · by_cases y2 : m < ρ.length
      · rw [if_pos y1, if_pos y2] at e; exact e
      · rw [if_pos y1, if_neg y2] at e; omega
    · by_cases y2 : m < ρ.length
      · rw [if_neg y1, if_pos y2] at e; omega
      · rw [if_neg y1, if_neg y2] at e; omega
  refine ⟨fpo ρ.length, h2, fun a m => (h3 a m).1, h2.there, R.len, ⟨fun a o e => ?_, by rw [List.length_append, List.length_append, R.len, hlt], fun k d' e => ?_, fun k c' e => ?_, ⟨fun k => fpo (f k), fun k s c' e ec => ?_, fun k m s s' c1 c2 hkm e ec e' ec' => ?_⟩, fun a o e n => ?_, fun a o e => ?_, R.rel.gr, R.rel.f0⟩, fun k c' e => R.nio (k + 1) c' e⟩
  · rw [cut_out fun m => by rw [(h3 a m).1] at e; cases e]
    exact R.ex a o e
  · obtain ⟨q1, q2, _⟩ := get k _ e
    rw [← q2]; exact R.rel.fz _ d' q1
  · obtain ⟨q1, q2, _⟩ := get k _ e
    have ek : f k = k := by
      by_cases z : k < ρ.length
      · exact if_pos z
      · exfalso
        have ef : f k = k + 1 := if_neg z
        rw [ef, List.getElem?_append_right (by omega)] at q1
        exact R.nio _ c' q1
    rw [← q2]
    have := R.rel.io _ c' q1
    rw [ek] at this ⊢
    exact this
  · obtain ⟨q1, q2, q3⟩ := get k _ e
    obtain ⟨⟨v', g1, g2⟩, g3⟩ := o1 _ s c' q1 ec
    refine ⟨⟨v', by rw [← q2]; exact g1, g2.mono (Same.refl _) fun a ha => cut_out (o2 _ _ s _ c' c q3 q1 ec e0 rfl a ha)⟩, fun a ha => ⟨(g3 a ha).1, ?_⟩⟩
    rcases (g3 a ha).2 with z | ⟨z, c2, z2⟩
    · exact .inl z
    · subst z2
      have ek : f k = k := by
        by_cases y : k < ρ.length
        · exact if_pos y
        · exfalso
          have ef : f k = k + 1 := if_neg y
          rw [ef, List.getElem?_append_right (by omega)] at q1
          exact R.nio _ c2 q1
      rw [ek] at z
      exact .inr ⟨z, c2, rfl⟩
  · exact o2 _ _ s s' c1 c2 (fun z => hkm (inj k m z)) (get k _ e).1 ec (get m _ e').1 ec'
  · rw [cut_out fun m => by rw [own0 a m] at e; cases e]
    exact R.rel.fr a o e n
  · obtain ⟨o', q⟩ := R.rel.st a o e
    exact ⟨o', by rw [cut_out fun m => by rw [own0 a m] at e; cases e]; exact q⟩
end
/-! ### stores of any field -/
theorem FsAt.store {F H : Hp} {fs : List (Str × V)} {fq : List Addr} {xs : List (Str × FV)} (f : Str) (h : FsAt F H fs fq xs) (F' H' : Hp) (v' : V) (fp' : List Addr) (x' : FV) (s : Same F F') (k : ∀ a ∈ fq, H' a = H a) (d : ∀ a ∈ fp', a ∉ fq) (g : FVAt F' H' v' fp' x') :
    ∃ fq' : List Addr, (∀ a, a ∈ fq' → (a ∈ fp' ∨ a ∈ fq)) ∧ FsAt F' H' (putF f v' fs) fq' (putFX f x' xs) := by
  cases e : lookX f xs with
  | none =>
    obtain ⟨fq', q1, q2⟩ := h.more e F' H' v' fp' x' s k d g
    exact ⟨fq', fun a m => (q1 a).mp m, q2⟩
  | some x =>
    obtain ⟨v, fp1, fp2, _, _, l3, _, _, l6⟩ := h.look e
    obtain ⟨fq', q1, q2⟩ := l6 F' H' v' fp' x' s (fun a m => k a ((l3 a).mpr (.inr m))) (fun a m w => d a m ((l3 a).mpr (.inr w))) g
    exact ⟨fq', fun a m => ((q1 a).mp m).imp (fun w => w) fun w => (l3 a).mpr (.inr w), q2⟩
section
variable {W : Ent} {F H : Hp} {σ τ : L2.St} {ρ ε : Rho} {y : Nat} {up : Cell → Rho}
theorem At.store {C p : Addr} {xs : List (Str × FV)} (f : Str) (R : At W F H σ τ ρ ε) (h : Plc ρ y (recC C p xs) up) : ∃ (dx : Addr) (fs : List (Str × V)), σ[y]? = some (some (.ref p)) ∧ H p = some (.ins C dx fs) ∧ fs.length = xs.length ∧
    (∀ (x' : FV) (v' : V) (F' H' : Hp) (fp' : List Addr), Same F F' → Same H H' → Same F' H' → (∀ a o, F' a = some o → F a = some o ∨ H a = none) → (∀ a ∈ fp', F' a = none ∧ H a = none) → FVAt F' H' v' fp' x' → At W F' (L2.upd H' p (.ins C dx (putF f v' fs))) σ τ (up (recC C p (putFX f x' xs))) ε) := by
  obtain ⟨v0, fp0, g1, ⟨dx, fs, fq, rfl, e2, n0, n1, n2, h1, h2, h3⟩, g3, g4, mk⟩ := R.plc h
  have pin : p ∈ fp0 := (e2 p).mpr (.inl rfl)
  have din : dx ∈ fp0 := (e2 dx).mpr (.inr (.inl rfl))
  have inq : ∀ a, a ∈ fq → a ∈ fp0 := fun a m => (e2 a).mpr (.inr (.inr m))
  refine ⟨dx, fs, g1, h1, h3.len, fun x' v' F' H' fp' sF sHH sFH gr new at' => ?_⟩
  have upo : ∀ a, a ≠ p → L2.upd H' p (.ins C dx (putF f v' fs)) a = H' a := fun a n => upd_ne n
  have av : ∀ a ∈ fp', a ∉ fp0 := fun a m w => by
    obtain ⟨o, q⟩ := g4 a w
    rw [(new a m).2] at q; cases q
  have keep : ∀ a, a ∈ fp0 → a ≠ p → L2.upd H' p (.ins C dx (putF f v' fs)) a = H a := fun a m n => by
    obtain ⟨o, q⟩ := g4 a m
    rw [upo a n, q, sHH a o q]
  have old : ∀ a ∈ fp0, F' a = none := fun a m => by
    cases z : F' a with
    | none => rfl
    | some o =>
      rcases gr a o z with w | w
      · rw [g3 a m] at w; cases w
      · obtain ⟨o', q⟩ := g4 a m
        rw [w] at q; cases q
  obtain ⟨fq', q1, q2⟩ := h3.store f F' (L2.upd H' p (.ins C dx (putF f v' fs))) v' fp' x' sF (fun a m => keep a (inq a m) fun e => n1 (e ▸ m)) (fun a m w => av a m (inq a w)) (at'.mono (Same.refl _) fun a m => upo a fun e => av p (e ▸ m) pin)
  refine mk _ F' _ (p :: dx :: fq') sF (fun a o e => ?_) gr (fun a o n e => ?_) (fun a m => ?_) (fun a m => ?_) ⟨dx, _, fq', rfl, fun a => by rw [List.mem_cons, List.mem_cons], n0, fun m => ?_, fun m => ?_, upd_same, by rw [keep dx din n0.symm]; exact h2, q2⟩
  · by_cases z : a = p
    · rw [z, old p pin] at e; cases e
    · rw [upo a z]; exact sFH a o e
  · have z : a ≠ p := fun w => n (w ▸ pin)
    rw [upo a z]; exact sHH a o e
  · rcases List.mem_cons.mp m with e | m
    · rw [e]; exact ⟨old p pin, .inl pin⟩
    · rcases List.mem_cons.mp m with e | m
      · rw [e]; exact ⟨old dx din, .inl din⟩
      · rcases q1 a m with z | z
        · exact ⟨(new a z).1, .inr (new a z).2⟩
        · exact ⟨old a (inq a z), .inl (inq a z)⟩
  · by_cases z : a = p
    · rw [z]; exact ⟨_, upd_same⟩
    · obtain ⟨o, q⟩ := g4 a m
      exact ⟨o, by rw [keep a m z]; exact q⟩
  · rcases q1 p m with z | z
    · exact av p z pin
    · exact n1 z
  · rcases q1 dx m with z | z
    · exact av dx z din
    · exact n2 z
end
/-- y.f = e, any field, frozen data -/
def dPSetX (C : Addr) (y : Nat) (f : Str) (dv : DE) : DS := fun D ρ => dv ρ fun d ρ1 => ∃ p xs up, Plc ρ1 y (recC C p xs) up ∧ xs.length < 1000 ∧ D.nx (up (recC C p (putFX f (.d d) xs)))
/-- y.f = e, a new thing that is held -/
def dPSetN (C : Addr) (y : Nat) (f : Str) (dn : DN) : DS := fun D ρ => dn ρ fun c ρ1 => ∃ p xs up, Plc ρ1 y (recC C p xs) up ∧ xs.length < 1000 ∧ D.nx (up (recC C p (putFX f (.c c) xs)))
section
variable {X : Cx} {W : Ent} {o value : Expr} {dv : DE} {dn : DN} {C : Addr} {y : Nat} {f : Str} {pos pos' : Pos}
theorem ds_pfSetX (hc : Cls X.K C) (hn : NoAttr X.K C f) (h : PE X o (tVar y)) (hv : PDE X W value dv) (hs : swapsWith value (some (.Attribute o f pos')) pos.line X.env = pure false := by rfl) : PDS X W (.Assign [.Attribute o f pos'] value pos) (dPSetX C y f dv) := by
  obtain ⟨t1, a1, a2⟩ := hv.ex
  refine ⟨_, ps_fld h a1 hs, fun F H σ ρ D DD R L h => a2 F H σ [] ρ [] _ _ R h fun F1 H1 ρ1 v d R1 s1 r1 h1 => ?_⟩
  obtain ⟨p, xs, up, g, hl, h1⟩ := h1
  obtain ⟨dx, fs, g1, g2, gl, mk⟩ := R1.store f g
  exact ⟨_, g1, p, C, dx, fs, rfl, g2, hc, hn, by rw [gl]; exact hl, L.nx F1 _ σ _ (mk (.d d) v F1 H1 [] (Same.refl _) (Same.refl _) R1.ex (fun a o w => .inl w) (fun a m => absurd m List.not_mem_nil) ⟨rfl, r1⟩) s1 h1⟩
theorem ds_pfSetN (hc : Cls X.K C) (hn : NoAttr X.K C f) (h : PE X o (tVar y)) (hv : PDN X W value dn) (hs : swapsWith value (some (.Attribute o f pos')) pos.line X.env = pure false := by rfl) : PDS X W (.Assign [.Attribute o f pos'] value pos) (dPSetN C y f dn) := by
  obtain ⟨t1, a1, a2⟩ := hv.ex
  refine ⟨_, ps_fld h a1 hs, fun F H σ ρ D DD R L h => a2 F H σ [] ρ [] _ _ R h fun F1 H1 ρ1 v c R1 s1 h1 => ?_⟩
  obtain ⟨p, xs, up, g, hl, h1⟩ := h1
  obtain ⟨fpc, c1, c2, c3, R2⟩ := R1.popCut
  obtain ⟨dx, fs, g1, g2, gl, mk⟩ := R2.store f g
  have sF : Same F1 H1 := R1.ex
  refine ⟨_, g1, p, C, dx, fs, rfl, cut_same _ _ g2, hc, hn, by rw [gl]; exact hl, L.nx F1 _ σ _ (mk (.c c) v F1 H1 fpc (Same.refl _) cut_same sF (fun a o w => .inl w) (fun a m => ⟨c2 a m, cut_in m⟩) c1) s1 h1⟩
end
/-! ### a dict of cells, each of a known address -/
inductive DcAt (F H : Hp) : List (List Key × V) → List Addr → List (List Key × Addr × Cell) → Prop
  | nil : DcAt F H [] [] []
  | cons {k : List Key} {q : Addr} {fp : List Addr} {c : Cell} {kvs : List (List Key × V)} {fq : List Addr} {ws : List (List Key × Addr × Cell)} : CellAt F H (.ref q) fp c → (∀ a ∈ fp, a ∉ fq) → DcAt F H kvs fq ws → DcAt F H ((k, .ref q) :: kvs) (fp ++ fq) ((k, q, c) :: ws)
theorem DcAt.mono {F F' H H' : Hp} {kvs : List (List Key × V)} {fq : List Addr} {ws : List (List Key × Addr × Cell)} (s : Same F F') (h : DcAt F H kvs fq ws) : (∀ a ∈ fq, H' a = H a) → DcAt F' H' kvs fq ws := by
  induction h with
  | nil => exact fun _ => .nil
  | cons h1 h2 _ ih => exact fun k => .cons (h1.mono s fun a ha => k a (List.mem_append_left _ ha)) h2 (ih fun a ha => k a (List.mem_append_right _ ha))
theorem DcAt.there {F H : Hp} {kvs : List (List Key × V)} {fq : List Addr} {ws : List (List Key × Addr × Cell)} (h : DcAt F H kvs fq ws) : ∀ a ∈ fq, ∃ o, H a = some o := by
  induction h with
  | nil => exact fun a m => absurd m List.not_mem_nil
  | cons h1 _ _ ih => exact fun a m => (List.mem_append.mp m).elim (h1.there a) (ih a)
theorem DcAt.len {F H : Hp} {kvs : List (List Key × V)} {fq : List Addr} {ws : List (List Key × Addr × Cell)} (h : DcAt F H kvs fq ws) : kvs.length = ws.length := by
  induction h with
  | nil => rfl
  | cons _ _ _ ih => rw [List.length_cons, List.length_cons, ih]
theorem DcAt.val {F H : Hp} {kvs : List (List Key × V)} {fq : List Addr} {ws : List (List Key × Addr × Cell)} (k : List Key) (h : DcAt F H kvs fq ws) : valV kvs k = (valX ws k).map fun p => V.ref p.1 := by
  induction h with
  | nil => rfl
  | @cons k0 q fp c kvs fq ws _ _ _ ih =>
    by_cases z : k0 = k
    · rw [valX_pos z]
      show valV ((k0, V.ref q) :: kvs) k = _
      simp [valV, List.find?_cons, z]
    · rw [valX_neg z, ← ih]
      simp [valV, List.find?_cons, z]
theorem DcAt.snoc {F H : Hp} {kvs : List (List Key × V)} {fq fp : List Addr} {ws : List (List Key × Addr × Cell)} {k : List Key} {q : Addr} {c : Cell} (hc : CellAt F H (.ref q) fp c) (h : DcAt F H kvs fq ws) : (∀ a ∈ fp, a ∉ fq) → ∃ fr : List Addr, (∀ a, a ∈ fr ↔ (a ∈ fq ∨ a ∈ fp)) ∧ DcAt F H (kvs ++ [(k, .ref q)]) fr (ws ++ [(k, q, c)]) := by
  induction h with
  | nil => exact fun _ => ⟨fp ++ [], fun a => by simp, .cons hc (fun a _ => List.not_mem_nil) .nil⟩
  | @cons k0 q0 fp0 c0 kvs fq ws h1 h2 h3 ih =>
    intro d
    obtain ⟨fr, e1, e2⟩ := ih fun a m w => d a m (List.mem_append_right _ w)
    refine ⟨fp0 ++ fr, fun a => ?_, .cons h1 (fun a m w => ?_) e2⟩
    · rw [List.mem_append, e1, List.mem_append]
      constructor
      · rintro (z | z | z)
        · exact .inl (.inl z)
        · exact .inl (.inr z)
        · exact .inr z
      · rintro ((z | z) | z)
        · exact .inl z
        · exact .inr (.inl z)
        · exact .inr (.inr z)
    · rcases (e1 a).mp w with z | z
      · exact h2 a m z
      · exact d a z (List.mem_append_left _ m)
def dcX (ws : List (List Key × Addr × Cell)) : XCell where
  rel := fun F H v fp => ∃ p kvs fq, v = .ref p ∧ (∀ a, a ∈ fp ↔ (a = p ∨ a ∈ fq)) ∧ p ∉ fq ∧ H p = some (.dT kvs) ∧ DcAt F H kvs fq ws
  loc := by
    rintro F F' H H' v fp ⟨p, kvs, fq, e1, e2, n, h1, h2⟩ s k
    exact ⟨p, kvs, fq, e1, e2, n, by rw [k p ((e2 p).mpr (.inl rfl))]; exact h1, h2.mono s fun a ha => k a ((e2 a).mpr (.inr ha))⟩
  there := by
    rintro F H v fp ⟨p, kvs, fq, e1, e2, n, h1, h2⟩ a m
    rcases (e2 a).mp m with e | e
    · rw [e]; exact ⟨_, h1⟩
    · exact h2.there a e
abbrev dcC (ws : List (List Key × Addr × Cell)) : Cell := .ext (dcX ws)
def dcSet (k : List Key) (c : Cell) : List (List Key × Addr × Cell) → List (List Key × Addr × Cell)
  | [] => []
  | (k0, q, c0) :: r => if k0 = k then (k0, q, c) :: r else (k0, q, c0) :: dcSet k c r
theorem DcAt.foc {F H : Hp} {kvs : List (List Key × V)} {fq : List Addr} {ws : List (List Key × Addr × Cell)} {k : List Key} {q : Addr} {c : Cell} (h : DcAt F H kvs fq ws) : valX ws k = some (q, c) → ∃ fp1 fp2 : List Addr, (∀ a, a ∈ fq ↔ (a ∈ fp1 ∨ a ∈ fp2)) ∧ (∀ a ∈ fp1, a ∉ fp2) ∧ CellAt F H (.ref q) fp1 c ∧
    ∀ (F' H' : Hp) (fp' : List Addr) (sub' : Cell), Same F F' → (∀ a ∈ fp2, H' a = H a) → (∀ a ∈ fp', a ∉ fp2) → CellAt F' H' (.ref q) fp' sub' → ∃ fpn : List Addr, (∀ a, a ∈ fpn ↔ (a ∈ fp' ∨ a ∈ fp2)) ∧ DcAt F' H' kvs fpn (dcSet k sub' ws) := by
  induction h with
  | nil => exact fun e => by cases e
  | @cons k0 q0 fp0 c0 kvs fq ws h1 h2 h3 ih =>
    intro e
    by_cases z : k0 = k
    · rw [valX_pos z] at e
      cases e
      refine ⟨fp0, fq, fun a => List.mem_append, h2, h1, fun F' H' fp' sub' s kk d g => ⟨fp' ++ fq, fun a => List.mem_append, ?_⟩⟩
      show DcAt F' H' _ _ (if k0 = k then _ else _)
      rw [if_pos z]
      exact .cons g d (h3.mono s kk)
    · rw [valX_neg z] at e
      obtain ⟨fp1, fp2, e1, e2, e3, e4⟩ := ih e
      refine ⟨fp1, fp0 ++ fp2, fun a => ?_, fun a ha m => ?_, e3, fun F' H' fp' sub' s kk d g => ?_⟩
      · rw [List.mem_append, List.mem_append, e1]
        constructor
        · rintro (w | w | w)
          · exact .inr (.inl w)
          · exact .inl w
          · exact .inr (.inr w)
        · rintro (w | w | w)
          · exact .inr (.inl w)
          · exact .inl w
          · exact .inr (.inr w)
      · rcases List.mem_append.mp m with w | w
        · exact h2 a w ((e1 a).mpr (.inl ha))
        · exact e2 a ha w
      · obtain ⟨fpn, n1, n2⟩ := e4 F' H' fp' sub' s (fun a ha => kk a (List.mem_append_right _ ha)) (fun a ha m => d a ha (List.mem_append_right _ m)) g
        refine ⟨fp0 ++ fpn, fun a => ?_, ?_⟩
        · rw [List.mem_append, n1, List.mem_append]
          constructor
          · rintro (w | w | w)
            · exact .inr (.inl w)
            · exact .inl w
            · exact .inr (.inr w)
          · rintro (w | w | w)
            · exact .inr (.inl w)
            · exact .inl w
            · exact .inr (.inr w)
        · show DcAt F' H' _ _ (if k0 = k then _ else _)
          rw [if_neg z]
          refine .cons (h1.mono s fun a ha => kk a (List.mem_append_left _ ha)) (fun a ha m => ?_) n2
          rcases (n1 a).mp m with w | w
          · exact d a w (List.mem_append_left _ ha)
          · exact h2 a ha ((e1 a).mpr (.inr w))
theorem dc_foc {ws : List (List Key × Addr × Cell)} {k : List Key} {q : Addr} {c : Cell} (h : valX ws k = some (q, c)) : Foc (dcC ws) q c fun c' => dcC (dcSet k c' ws) := ⟨by
  rintro F H v fp ⟨p, kvs, fq, e1, e2, n, h1, h2⟩
  obtain ⟨fp1, fp2, g1, g2, g3, g4⟩ := h2.foc h
  refine ⟨fp1, p :: fp2, fun a => ?_, fun a ha m => ?_, g3, fun F' H' fp' sub' s kk d g => ?_⟩
  · rw [e2, List.mem_cons, g1]
    constructor
    · rintro (w | w | w)
      · exact .inr (.inl w)
      · exact .inl w
      · exact .inr (.inr w)
    · rintro (w | w | w)
      · exact .inr (.inl w)
      · exact .inl w
      · exact .inr (.inr w)
  · rcases List.mem_cons.mp m with w | w
    · exact n (w ▸ (g1 a).mpr (.inl ha))
    · exact g2 a ha w
  · obtain ⟨fpn, n1, n2⟩ := g4 F' H' fp' sub' s (fun a ha => kk a (List.mem_cons_of_mem _ ha)) (fun a ha m => d a ha (List.mem_cons_of_mem _ m)) g
    refine ⟨p :: fpn, fun a => ?_, p, kvs, fpn, e1, fun a => List.mem_cons, fun m => ?_, by rw [kk p List.mem_cons_self]; exact h1, n2⟩
    · rw [List.mem_cons, n1, List.mem_cons]
      constructor
      · rintro (w | w | w)
        · exact .inr (.inl w)
        · exact .inl w
        · exact .inr (.inr w)
      · rintro (w | w | w)
        · exact .inr (.inl w)
        · exact .inl w
        · exact .inr (.inr w)
    · rcases (n1 p).mp m with w | w
      · exact d p w List.mem_cons_self
      · exact n ((g1 p).mpr (.inr w))⟩
/-- a part of a field is a part of the record -/
theorem rec_foc {C p : Addr} {xs : List (Str × FV)} {f : Str} {c sub : Cell} {q : Addr} {put : Cell → Cell} (hx : lookX f xs = some (.c c)) (h : Foc c q sub put) : Foc (recC C p xs) q sub fun c' => recC C p (putFX f (.c (put c')) xs) := ⟨by
  rintro F H v fp ⟨dx, fs, fq, e1, e2, n0, n1, n2, h1, h2, h3⟩
  obtain ⟨w, fa, fb, l1, l2, l3, l4, l5, l6⟩ := h3.look hx
  obtain ⟨fp1, fp2, g1, g2, g3, g4⟩ := h.loc F H w fa l2
  have key : ∀ a, a ∈ fp ↔ (a ∈ fp1 ∨ a ∈ p :: dx :: (fp2 ++ fb)) := fun a => by
    rw [e2, List.mem_cons, List.mem_cons, List.mem_append, l3, g1]
    constructor
    · rintro (z | z | (z | z) | z)
      · exact .inr (.inl z)
      · exact .inr (.inr (.inl z))
      · exact .inl z
      · exact .inr (.inr (.inr (.inl z)))
      · exact .inr (.inr (.inr (.inr z)))
    · rintro (z | z | z | z | z)
      · exact .inr (.inr (.inl (.inl z)))
      · exact .inl z
      · exact .inr (.inl z)
      · exact .inr (.inr (.inl (.inr z)))
      · exact .inr (.inr (.inr z))
  refine ⟨fp1, p :: dx :: (fp2 ++ fb), key, fun a ha m => ?_, g3, fun F' H' fp' sub' s kk d g => ?_⟩
  · have af : a ∈ fa := (g1 a).mpr (.inl ha)
    have aq : a ∈ fq := (l3 a).mpr (.inl af)
    rcases List.mem_cons.mp m with z | m
    · exact n1 (z ▸ aq)
    · rcases List.mem_cons.mp m with z | m
      · exact n2 (z ▸ aq)
      · rcases List.mem_append.mp m with z | z
        · exact g2 a ha z
        · exact l4 a af z
  · have k0 : ∀ a ∈ fp2 ++ fb, H' a = H a := fun a m => kk a (List.mem_cons_of_mem _ (List.mem_cons_of_mem _ m))
    have d0 : ∀ a ∈ fp', a ∉ fp2 ++ fb := fun a ha m => d a ha (List.mem_cons_of_mem _ (List.mem_cons_of_mem _ m))
    obtain ⟨fpn, m1, m2⟩ := g4 F' H' fp' sub' s (fun a ha => k0 a (List.mem_append_left _ ha)) (fun a ha m => d0 a ha (List.mem_append_left _ m)) g
    obtain ⟨fq', q1, q2⟩ := l6 F' H' w fpn (.c (put sub')) s (fun a ha => k0 a (List.mem_append_right _ ha)) (fun a ha m => by
      rcases (m1 a).mp ha with z | z
      · exact d0 a z (List.mem_append_right _ m)
      · exact l4 a ((g1 a).mpr (.inr z)) m) m2
    rw [l5] at q2
    have q3 : ∀ a, a ∈ fq' ↔ (a ∈ fp' ∨ a ∈ fp2 ++ fb) := fun a => by
      rw [q1, m1, List.mem_append, or_assoc]
    refine ⟨p :: dx :: fq', fun a => ?_, dx, fs, fq', e1, fun a => by rw [List.mem_cons, List.mem_cons], n0, fun m => ?_, fun m => ?_, by rw [kk p List.mem_cons_self]; exact h1, by rw [kk dx (List.mem_cons_of_mem _ List.mem_cons_self)]; exact h2, q2⟩
    · rw [List.mem_cons, List.mem_cons, q3, List.mem_cons, List.mem_cons]
      constructor
      · rintro (z | z | z | z)
        · exact .inr (.inl z)
        · exact .inr (.inr (.inl z))
        · exact .inl z
        · exact .inr (.inr (.inr z))
      · rintro (z | z | z | z)
        · exact .inr (.inr (.inl z))
        · exact .inl z
        · exact .inr (.inl z)
        · exact .inr (.inr (.inr z))
    · rcases (q3 p).mp m with z | z
      · exact d p z List.mem_cons_self
      · rcases List.mem_append.mp z with y | y
        · exact n1 ((l3 p).mpr (.inl ((g1 p).mpr (.inr y))))
        · exact n1 ((l3 p).mpr (.inr y))
    · rcases (q3 dx).mp m with z | z
      · exact d dx z (List.mem_cons_of_mem _ List.mem_cons_self)
      · rcases List.mem_append.mp z with y | y
        · exact n2 ((l3 dx).mpr (.inl ((g1 dx).mpr (.inr y))))
        · exact n2 ((l3 dx).mpr (.inr y))⟩

open PySem L2
/-- y.f.get(z) of a dict of cells: the one that stands there by its address, or None -/
def dPDcGet (C : Addr) (y : Nat) (f : Str) (z : Nat) : DE := fun ρ Q => ∃ p xs up ws k, Plc ρ y (recC C p xs) up ∧ lookX f xs = some (.c (dcC ws)) ∧ ρ[z]? = some (.fz (keysD k)) ∧ Q (match valX ws k with
  | some w => adrD w.1
  | none => .none) ρ
def dPDcLen (C : Addr) (y : Nat) (f : Str) : DE := fun ρ Q => ∃ p xs up ws, Plc ρ y (recC C p xs) up ∧ lookX f xs = some (.c (dcC ws)) ∧ Q (.int ws.length) ρ
/-- y.f[z] = j: what j alone holds goes over into the dict; j names it still -/
def dPGive (C : Addr) (y : Nat) (f : Str) (z j : Nat) : DS := fun D ρ => ∃ p xs up ws k q c, ρ[j]? = some (.ow c) ∧ (∀ F H v fp, CellAt F H v fp c → v = .ref q) ∧ Plc (ρ.set j (.fz (adrD q))) y (recC C p xs) up ∧ lookX f xs = some (.c (dcC ws)) ∧ ρ[z]? = some (.fz (keysD k)) ∧ z ≠ j ∧ valX ws k = none ∧ ws.length < sizeLine ∧
  D.nx (up (recC C p (putFX f (.c (dcC (ws ++ [(k, q, c)]))) xs)))
section
variable {X : Cx} {W : Ent} {e o k : Expr} {C : Addr} {y z j : Nat} {f : Str} {pos pos' p p1 p2 apos cpos : Pos}
theorem de_pdcGet (hu : X.A.units + 1 < cLine) (hc : Cls X.K C) (hn : NoAttr X.K C f) (h : PE X e (tVar y)) (hk : PE X k (tVar z)) (hat : attributeBase e f X.env (eval e X.env) = eval e X.env := by rfl) (m : M1 X (.Attribute e f p1) "get" apos k cpos := by exact ⟨rfl, rfl, rfl, rfl⟩) : PDE X W (.Call (.Attribute (.Attribute e f p1) "get" apos) [k] [] cpos) (dPDcGet C y f z) := by
  refine ⟨_, pe_dget1 hu (pe_fld h hat) hk m, fun F H σ τ ρ ε Q k R h q => ?_⟩
  obtain ⟨p, xs, up, ws, kk, g, hx, hz, h⟩ := h
  obtain ⟨dx, fs, v, fp, g1, g2, _, g3, ⟨q1, kvs, fq, rfl, e2, n, hq, dc⟩, _⟩ := R.fld g hx
  obtain ⟨u, k1, k2⟩ := R.var hz
  obtain ⟨b, rfl, hb⟩ := k2.keysD_of
  refine ⟨_, g1, p, C, dx, fs, _, rfl, g2, hc, hn, g3, q1, rfl, .inr ⟨kvs, .inl hq⟩, _, k1, _, DGet.t hq (R.ex _ _ hb), ?_⟩
  rw [dc.val kk]
  cases w : valX ws kk with
  | none =>
    rw [w] at h
    exact q F H ρ _ _ R (Same.refl _) .non h
  | some w' =>
    rw [w] at h
    exact q F H ρ _ _ R (Same.refl _) (.adr _) h
theorem de_pdcLen (hg : Gl X "len") (hm : X.mg "len" = none) (hc : Cls X.K C) (hn : NoAttr X.K C f) (h : PE X e (tVar y)) (hb : attributeBase e f X.env (eval e X.env) = eval e X.env := by rfl)
    (he : starEach [.Attribute e f p1] X.env = (false, eval (.Attribute e f p1) X.env) :: starEach [] X.env := by rfl) (hpl : (backTo pos (starEach [] X.env)).any (·.1) = false := by rfl) : PDE X W (.Call (.Name "len" p) [.Attribute e f p1] [] pos) (dPDcLen C y f) := by
  refine ⟨_, pe_callB call_len_dT hg hm PySem.boot_len (pa_cons (pe_fld h hb) pa_nil he) (by decide) (by decide) he hpl, fun F H σ τ ρ ε Q k R h q => ?_⟩
  obtain ⟨p, xs, up, ws, h1, h2, h⟩ := h
  obtain ⟨dx, fs, v, fp, g1, g2, _, g3, ⟨q1, kvs, fq, rfl, e2, n, hq, dc⟩, _⟩ := R.fld h1 h2
  refine ⟨_, g1, p, C, dx, fs, _, rfl, g2, hc, hn, g3, q1, kvs, rfl, hq, ?_⟩
  rw [dc.len]
  exact q F H ρ _ _ R (Same.refl _) (.int _) h
theorem valV_new {kvs : List (List Key × V)} {k : List Key} {v : V} (h : valV kvs k = none) : putK kvs k v = kvs ++ [(k, v)] := putK_new _ h
theorem ds_pGive {value : Expr} (hu : X.A.units + 1 < cLine) (hc : Cls X.K C) (hn : NoAttr X.K C f) (h : PE X e (tVar y)) (hk : PE X k (tVar z)) (hv : PE X value (tVar j)) (hat : attributeBase e f X.env (eval e X.env) = eval e X.env := by rfl)
    (hs : swapsWith value (some (.Subscript (.Attribute e f p1) k pos')) pos.line X.env = pure false := by rfl) : PDS X W (.Assign [.Subscript (.Attribute e f p1) k pos'] value pos) (dPGive C y f z j) := by
  refine ⟨_, ps_dput hu (pe_fld h hat) hk hv hs, fun F H σ ρ D DD R L h => ?_⟩
  obtain ⟨p, xs, up, ws, kk, q, c, hj, hq, g, hx, hz, hzj, hw, hl, h⟩ := h
  obtain ⟨vj, fpj, j1, j2, j3, j4, mk0⟩ := R.cut hj
  cases hq _ _ _ _ j2
  have R0 := mk0 (adrD q) (.adr q)
  obtain ⟨dx, fs, v, fp, g1, g2, _, g3, ⟨q1, kvs, fq, rfl, e2, n, hq1, dc⟩, n1, n2, n3, _, mk, _⟩ := R0.fld g hx
  obtain ⟨u, k1, k2⟩ := R.var hz
  obtain ⟨b, rfl, hb⟩ := k2.keysD_of
  have hv0 : valV kvs kk = none := by rw [dc.val kk, hw]; rfl
  have hf : F q1 = none := n1 q1 ((e2 q1).mpr (.inl rfl))
  have hlen : kvs.length < sizeLine := by rw [dc.len]; exact hl
  have dis : ∀ a ∈ fpj, a ∉ fq := fun a m w => by
    obtain ⟨o, e⟩ := n2 a ((e2 a).mpr (.inr w))
    rw [cut_in m] at e; cases e
  have hq1f : q1 ∉ fpj := fun m => by rw [cut_in m] at hq1; cases hq1
  refine ⟨_, j1, _, g1, p, C, dx, fs, _, rfl, cut_same _ _ g2, hc, hn, g3, _, k1, q1, _, rfl, DPut.t (cut_same _ _ hq1) (R.ex _ _ hb) hlen, ?_⟩
  rw [valV_new hv0]
  -- the dict with one more, in the heap behind the store
  have upo : ∀ a, a ≠ q1 → upd H q1 (.dT (kvs ++ [(kk, .ref q)])) a = H a := fun a m => upd_ne m
  have dc' : DcAt F (upd H q1 (.dT (kvs ++ [(kk, .ref q)]))) kvs fq ws := dc.mono (Same.refl _) fun a m => by
    rw [upo a fun e => n (e ▸ m)]
    rw [cut_out fun w => dis a w m]
  have cj : CellAt F (upd H q1 (.dT (kvs ++ [(kk, .ref q)]))) (.ref q) fpj c := j2.mono (Same.refl _) fun a m => upo a fun e => hq1f (e ▸ m)
  obtain ⟨fr, r1, r2⟩ := dc'.snoc (k := kk) cj dis
  refine L.nx F _ σ _ (mk (.c (dcC (ws ++ [(kk, q, c)]))) F _ (q1 :: fr) (Same.refl _) (fun a o w => ?_) (fun a o w => .inl w) (fun a o m w => ?_) (fun a m => ?_) (fun a m => ?_) ⟨q1, _, fr, rfl, fun a => List.mem_cons, fun m => ?_, upd_same, r2⟩) (Same.refl _) h
  · rw [upo a fun z => by rw [z, hf] at w; cases w]; exact R.ex a o w
  · rw [upo a fun z => m (by rw [z]; exact (e2 q1).mpr (.inl rfl))]
    exact cut_same _ _ w
  · rcases List.mem_cons.mp m with e | m
    · rw [e]; exact ⟨hf, .inl ((e2 q1).mpr (.inl rfl))⟩
    · rcases (r1 a).mp m with w | w
      · have := (e2 a).mpr (.inr w)
        exact ⟨n1 a this, .inl this⟩
      · exact ⟨j3 a w, .inr (cut_in w)⟩
  · by_cases w : a = q1
    · rw [w]; exact ⟨_, upd_same⟩
    · obtain ⟨o, e⟩ := n2 a m
      exact ⟨o, by rw [upo a w]; exact cut_same _ _ e⟩
  · rcases (r1 q1).mp m with w | w
    · exact n w
    · exact hq1f w
end
/-! ### a new record; a method of a place -/
def dMakeR (C : Addr) (g : GSp) (dx : DX) (da : DA) : DN := fun ρ Q => da ρ fun ds ρ1 => ∀ p, g (.io (recC C p []) :: ds.map .fz) (fun r args' => match r with
  | .fz .none => match args' with
    | .io c' :: _ => Q c' ρ1
    | _ => False
  | _ => False) (fun C z _ => dx C z ρ1)
def dMethP (C : Addr) (m : Str) (g : GSp) (y : Nat) (dx : DX) (da : DA) : DE := fun ρ Q => (∃ sub up, Plc ρ y sub up ∧ InstC C m sub) ∧ da ρ fun ds ρ1 => ∃ sub up, Plc ρ1 y sub up ∧ g (.io sub :: ds.map .fz) (fun r args' => match args' with
    | .io c' :: _ => match r with
      | .fz d => Q d (up c')
      | _ => False
    | _ => False) (fun C z args' => match args' with
    | .io c' :: _ => dx C z (up c')
    | _ => False)
section
variable {W : Ent} {E : XK} {dx : DX} {g : GSp} {ta : TA} {da : DA} {C : Addr} {m : Str}
theorem snd_makeR (X0 : ExL W E dx) (ha : SndA W ta da) : SndN W (tMake C (spOf g) [] E ta) (dMakeR C g dx da) := by
  intro F H σ τ ρ ε Q k R h q
  refine ha F H σ τ ρ ε _ _ R h fun F1 H1 ρ1 vs ds R1 s1 r1 h1 => fun x dxA nx ndx nex => ?_
  have h1 := h1 x
  have sH : Same H1 (upd (upd H1 dxA (.own x)) x (.ins C dxA [])) := fun b o e => by
    rw [upd_ne (ne_of_none e nx), upd_ne (ne_of_none e ndx)]; exact e
  have hc : CellAt F1 (upd (upd H1 dxA (.own x)) x (.ins C dxA [])) (.ref x) [x, dxA] (recC C x []) := ⟨dxA, [], [], rfl, fun a => by simp, nex.symm, List.not_mem_nil, List.not_mem_nil, upd_same, by rw [upd_ne nex]; exact upd_same, .nil⟩
  have hfp : ∀ a ∈ [x, dxA], F1 a = none ∧ H1 a = none := fun a ha => by
    rcases List.mem_cons.mp ha with e | e
    · subst e; exact ⟨R1.ex.free nx, nx⟩
    · rw [List.mem_singleton.mp e]; exact ⟨R1.ex.free ndx, ndx⟩
  show spOf g (.ref x :: (vs ++ [])) _ _ E
  rw [List.append_nil]
  refine ⟨F1, fun _ => [x, dxA], _, _, _, Rel.enter1 (R1.ex.trans sH) hc (fun a ha => (hfp a ha).1) r1, fun j c' e => ?_, h1, ?_, ?_⟩
  · cases j with
    | zero => cases e
    | succ j =>
      obtain ⟨d, z, _⟩ := fzs_get (by rw [List.getElem?_cons_succ] at e; exact e)
      cases z
  · intro r args' hr hio v F' H' A
    have nin : ∀ a o, H1 a = some o → a ∉ [x, dxA] := fun a o e m => by rw [(hfp a m).2] at e; cases e
    have ex : Ext F1 H1 F' H' := ⟨A.rel.f0, fun a o e => A.rel.fr a o (sH a o e) fun _ => nin a o e, A.ex, fun a o e => by
      rcases A.rel.gr a o e with z | z
      · exact .inl z
      · exact .inr (sH.free z)⟩
    split at hr
    · split at hr
      · next c' rest =>
        obtain ⟨fp', d1, d2⟩ := A.outIo
        have e := A.outFz.non_of
        refine ⟨e, ?_⟩
        refine q F' H' ρ1 (.ref x) c' (R1.extNew ex d1 fun a ha => ⟨(d2 a ha).1, ?_⟩) (s1.trans ex.fF) hr
        rcases (d2 a ha).2 with z | z
        · exact (hfp a z).2
        · exact sH.free z
      · exact hr.elim
    · exact hr.elim
  · intro C z args' hz x' F' H' A
    have nin : ∀ a o, H1 a = some o → a ∉ [x, dxA] := fun a o e m => by rw [(hfp a m).2] at e; cases e
    have ex : Ext F1 H1 F' H' := ⟨A.rel.f0, fun a o e => A.rel.fr a o (sH a o e) fun _ => nin a o e, A.ex, fun a o e => by
      rcases A.rel.gr a o e with z | z
      · exact .inl z
      · exact .inr (sH.free z)⟩
    obtain ⟨fpx, x1, x2, _⟩ := outOwX A
    exact X0 F' H' σ τ ρ1 ε x' z C (R1.extNew ex x1 fun a ha => ⟨(x2 a ha).1, sH.free (x2 a ha).2⟩) hz
theorem snd_methP {y : Nat} (X0 : ExL W E dx) (ha : SndA W ta da) : SndE W (tMeth C m (spOf g) [] E (tVar y) ta) (dMethP C m g y dx da) := by
  intro F H σ τ ρ ε Q k R h q
  obtain ⟨⟨sub, up, g0, hi⟩, h⟩ := h
  obtain ⟨v0, fp0, g1, c0, _⟩ := R.plc g0
  obtain ⟨a, dxa, fs, rfl, i1, i2⟩ := hi _ _ _ _ c0
  refine ⟨_, g1, a, dxa, fs, rfl, i1, i2, ha F H σ τ ρ ε _ _ R h fun F1 H1 ρ1 vs ds R1 s1 r1 h1 => ?_⟩
  obtain ⟨sub, up, g0, h1⟩ := h1
  obtain ⟨v1, fp, g2, c1, c2, c3, mk⟩ := R1.plc g0
  rw [g1] at g2
  cases g2
  have back : ∀ {F' H' : Hp} {c' : Cell} {args' : List Slot} {τ' : L2.St} {ε' : List Slot}, At (entOf H1 F1 (fun _ => fp) (.ref a :: vs)) F' H' ((V.ref a :: vs).map some) τ' (.io c' :: args') ε' → At W F' H' σ τ (up c') ε := fun {F' H' c' args' τ' ε'} A => by
    obtain ⟨fp', d1, d2⟩ := A.outIo
    exact mk c' F' H' fp' A.rel.f0 A.ex A.rel.gr (fun a o n e => A.rel.fr a o e fun _ => n) d2 (fun a ha => by
      obtain ⟨o, e⟩ := c3 a ha
      exact A.rel.st a o e) d1
  show spOf g (.ref a :: (vs ++ [])) H1 k E
  rw [List.append_nil]
  refine ⟨F1, fun _ => fp, _, _, _, Rel.enter1 R1.ex c1 c2 r1, fun j c' e => ?_, h1, ?_, ?_⟩
  · cases j with
    | zero => cases e
    | succ j =>
      obtain ⟨d, z, _⟩ := fzs_get (by rw [List.getElem?_cons_succ] at e; exact e)
      cases z
  · intro r args' hr hio v F' H' A
    split at hr
    · cases r with
      | fz d => exact q F' H' _ v d (back A) (s1.trans A.rel.f0) A.outFz hr
      | ow c' => exact (show False from hr).elim
      | no => exact (show False from hr).elim
      | io c' => cases hio
    · exact hr.elim
  · intro C z args' hz x F' H' A
    split at hz
    · exact X0 F' H' σ τ _ ε x z C (backOw c3 mk A) hz
    · exact hz.elim
end
section
variable {X : Cx} {W : Ent} {E : XK} {dx : DX} {g : GSp} {da : DA} {f C : Addr} {k y : Nat} {fd : FuncData} {ps : List Str} {x m : Str} {p pos apos : Pos} {e o : Expr} {es : List Expr}
theorem dn_makeR (X0 : ExL W E dx) (tk : L2N.Takes X (fun cls d _ H => E cls d H)) (M : Mk X.K C f) (Fn : FnOk X.prog X.w X.K X.mg X.base (L2N.CX X.prog X.w) k f fd ps (spOf g)) (hr : Room (k + 1) X.A) (hg : Gl X x) (hm : X.mg x = some (.ref C)) (hb : Binds X.K fd ps [])
    (ha : PDA X W (e :: es) da) (hdb : (x == ("__debug__" : Str)) = false := by decide) (he : starEach (e :: es) X.env = (false, eval e X.env) :: starEach es X.env := by rfl) (hpl : (backTo pos (starEach es X.env)).any (·.1) = false := by rfl) :
    PDN X W (.Call (.Name x p) (e :: es) [] pos) (dMakeR C g dx da) := by
  obtain ⟨ta, a1, a2⟩ := ha.ex
  exact ⟨_, pe_make M Fn hr hg hm hb .nil (L2N.passes_call tk fun _ _ _ _ h => h) a1 hdb he hpl, snd_makeR X0 a2⟩
theorem de_methP {pl : Sem Bool} (X0 : ExL W E dx) (tk : L2N.Takes X (fun cls d _ H => E cls d H)) (ho : PE X o (tVar y)) (c : Cls X.K C) (hm : Meth X.K C m f) (Fn : FnOk X.prog X.w X.K X.mg X.base (L2N.CX X.prog X.w) k f fd ps (spOf g)) (hr : Room k X.A) (hb : Binds X.K fd ps []) (ha : PDA X W (e :: es) da)
    (hst : starEach (e :: es) X.env = (false, eval e X.env) :: starEach es X.env := by rfl) (hpl : (backTo pos (starEach es X.env)).any (·.1) = false := by rfl)
    (ht : eval (.Call (.Attribute o m apos) (e :: es) [] pos) X.env = (do
      let ov ← eval o X.env
      standAt apos.atName
      let (f, first) ← holding [ov] (getMethod ov m pl)
      callWith pos f first (backTo pos (starEach (e :: es) X.env)) (backToKw pos (keywordEach [] X.env))) := by rfl) :
    PDE X W (.Call (.Attribute o m apos) (e :: es) [] pos) (dMethP C m g y dx da) := by
  obtain ⟨ta, a1, a2⟩ := ha.ex
  exact ⟨_, pe_meth ho c hm Fn hr hb .nil (L2N.passes_call tk fun _ _ _ _ h => h) a1 hst hpl ht, snd_methP X0 a2⟩
theorem de_methP0 {pl : Sem Bool} (X0 : ExL W E dx) (tk : L2N.Takes X (fun cls d _ H => E cls d H)) (ho : PE X o (tVar y)) (c : Cls X.K C) (hm : Meth X.K C m f) (Fn : FnOk X.prog X.w X.K X.mg X.base (L2N.CX X.prog X.w) k f fd ps (spOf g)) (hr : Room k X.A) (hb : Binds X.K fd ps [])
    (ht : eval (.Call (.Attribute o m apos) [] [] pos) X.env = (do
      let ov ← eval o X.env
      standAt apos.atName
      let (f, first) ← holding [ov] (getMethod ov m pl)
      callWith pos f first (backTo pos (starEach [] X.env)) (backToKw pos (keywordEach [] X.env))) := by rfl) :
    PDE X W (.Call (.Attribute o m apos) [] [] pos) (dMethP C m g y dx dNil) :=
  ⟨_, pe_meth0 ho c hm Fn hr hb .nil (L2N.passes_call tk fun _ _ _ _ h => h) ht, snd_methP X0 snd_nil⟩
end

open PySem L2
/-! ### raise of an own error that keeps one value, what -/
/-- what such a class's __init__ promises -/
def spXI (K : PySem.W.Frag) : Sp := fun vs H Q _ => ∃ (e C : Addr) (v : V), vs = [.ref e, v] ∧ OexC K C ∧ PySem.W.findIn K (.ref C) "what" = some none ∧ H e = some (exo e C none) ∧ ∀ d, H d = none → d ≠ e → Q .non (upd (upd H d (exd d [(("what" : Str), v)])) e (exo e C (some d)))
structure ErrC (P : Program) (w : World) (K : PySem.W.Frag) (mg : Str → Option Value) (base : Heap) (x : Str) (C : Addr) : Prop where
  ox : OexC K C
  nw : PySem.W.findIn K (.ref C) "what" = some none
  gl : mg x = some (.ref C)
  ini : ∃ (fI : Addr) (fd : FuncData), PySem.W.findIn K (.ref C) "__init__" = some (some (.ref fI)) ∧ PySem.W.typeIn K (.ref fI) = some (.type "function") ∧ FnOk P w K mg base (L2N.CX P w) 1 fI fd ["self", "what"] (spXI K) ∧ Binds K fd ["self", "what"] []
section
variable {X : Cx}
/-- C(v), made: an error of the class, its own dict told -/
theorem pmk_err {x : Str} {C : Addr} {k : Nat} {p pos : Pos} {e : Expr} {es : List Expr} {ta : TA} (T : ErrC X.prog X.w X.K X.mg X.base x C) (hr : Room (k + 2) X.A) (tk : ∀ E : XK, (∀ c d H, ¬ E c d H) → Passes (L2N.CX X.prog X.w) X E) (hg : Gl X x) (ha : PA X (e :: es) ta)
    (hdb : (x == ("__debug__" : Str)) = false := by decide) (he : starEach (e :: es) X.env = (false, eval e X.env) :: starEach es X.env := by rfl) (hpl : (backTo pos (starEach es X.env)).any (·.1) = false := by rfl) :
    L2N.PMk X (.Call (.Name x p) (e :: es) [] pos) (fun σ H Q => ta σ H fun vs H1 => ∃ v, vs = [v] ∧ ∀ d, H1 d = none → Q (.ref C) (some d) (upd H1 d (.xd [(("what" : Str), v)]))) := by
  obtain ⟨fI, fd, iC, tI, F1, hb⟩ := T.ini
  intro pins s0 σ H Q I0 hh
  obtain ⟨cn, cq, cN, cbs, cbm, csn, csub, cab, ccol, cdd, j0, j1, j2, j3, j5, hcls, hrefs⟩ := T.ox.cls
  refine wpAny_Call_Name_kw (ld_glob I0 hg T.gl ?_ hdb)
  refine PySem.W.callWith_K (h₀ := X.base) I0.ok.mod.kin T.ox.kC (thn (ha.run pos pins s0 σ H _ I0 hh) fun us sA ⟨vs, HA, IA, rA, v, ev, qA⟩ => ⟨IA.kIn, ?_⟩) he hpl
  subst ev
  obtain ⟨u, eu, ru⟩ := vals1 rA
  subst eu
  show wpAny _ _ (call (.ref C) [u]) _ _ _
  obtain ⟨hA, gA, dA, tA, oA⟩ := sA
  have le1 : hA.objs.size ≤ hA.objs.size + 1 := Nat.le_succ _
  have new1 : HA (hA.objs.size + 1) = none := IA.hok.fresh le1
  have keep2 : ∀ b o, hA.get? b = some o → ((hA.push (PySem.W.kdv_tup [u])).push (PySem.HandSPX.excO C hA.objs.size)).get? b = some o := fun b o z => Heap.get?_push_of_some _ (Heap.get?_push_of_some _ z)
  have obj2 : ((hA.push (PySem.W.kdv_tup [u])).push (PySem.HandSPX.excO C hA.objs.size)).get? (hA.objs.size + 1) = some (PySem.HandSPX.excO C hA.objs.size) := by heap_get
  have IB : Inv X pins σ (upd HA (hA.objs.size + 1) (exo (hA.objs.size + 1) C none)) ⟨(hA.push (PySem.W.kdv_tup [u])).push (PySem.HandSPX.excO C hA.objs.size), gA, dA, tA, oA⟩ :=
    IA.laid (t' := tA) (o := exo (hA.objs.size + 1) C none) (a := hA.objs.size + 1) keep2 le1 (exo_ok obj2)
  have rB : Vals [V.ref (hA.objs.size + 1), v] [Value.ref (hA.objs.size + 1), u] := .cons rfl (.cons ru .nil)
  -- what the __init__ hands back: the error with its dict
  let QI : VK := fun r H2 => r = .non ∧ ∃ d, H2 (hA.objs.size + 1) = some (exo (hA.objs.size + 1) C (some d)) ∧ H2 d = some (exd d [(("what" : Str), v)]) ∧ HA d = none ∧ ∀ b, b ≠ d → b ≠ hA.objs.size + 1 → H2 b = HA b
  have hsp : spXI X.K [V.ref (hA.objs.size + 1), v] (upd HA (hA.objs.size + 1) (exo (hA.objs.size + 1) C none)) QI (fun _ _ _ => False) := by
    refine ⟨_, C, v, rfl, T.ox, T.nw, upd_same, fun d hd hne => ⟨rfl, d, upd_same, by rw [upd_ne hne, upd_same], ?_, fun b hb1 hb2 => ?_⟩⟩
    · rw [upd_ne hne] at hd; exact hd
    · rw [upd_ne hb2, upd_ne hb1, upd_ne hb2]
  have us1 : [u].length ≤ sizeLine := by rw [sizeLine_eq]; exact (by decide : 1 ≤ 16777216)
  have hbind := hb ⟨(hA.push (PySem.W.kdv_tup [u])).push (PySem.HandSPX.excO C hA.objs.size), gA, dA, tA, oA⟩ [Value.ref (hA.objs.size + 1), u] IB.kIn rfl
  rw [List.append_nil] at hbind
  refine wpAny_call (PySem.HandSPX.call_own F.excBase_ValueError (fun Y => PySem.HandSPX.refsVE_contains Y cbm hrefs) (IA.kIn _ _ hcls) (PySem.W.looks_findIn IA.kIn iC) (fun self => PySem.W.bind_fn IA.kIn self tI) us1
    (codeAny_mono (F1.run _ X.stack _ _ ⟨[Value.ref (hA.objs.size + 1), u], []⟩ _ _ QI (fun _ _ _ => False) ((hr.mono (Nat.le_add_left 2 k)).make C [u] []) (IB.env0.make C [u] []) hbind rB hsp) fun r sC hC => ?_))
  cases r with
  | error er => exact tk _ (fun _ _ _ z => z) pins σ _ _ er sC IB hC
  | ok fl =>
    cases fl with
    | next => exact hC.elim
    | brk => exact hC.elim
    | cont => exact hC.elim
    | ret ur =>
      obtain ⟨vr, H2, osC, bareC, unC, okC, rvC, evr, d, ea, ed, hd1, rest⟩ := hC
      subst evr
      obtain ⟨hC2, gC2, dC2, tC2, oC2⟩ := sC
      obtain ⟨t0, G, J, kG, ge, hoe, na⟩ := mk_end0 (d2 := dC2) (t2 := tC2) IA le1 keep2 unC okC osC bareC ea ed hd1
      refine ⟨rvC, _, _, _, ⟨G, gC2, dC2, tC2, oC2⟩, _, .ref C, some d, rfl, J, kG, ge, hoe, ⟨rfl, rfl, fun ws hw => ?_⟩, rfl, rfl, na, rfl, bareC, raises_own T.ox.exC T.ox.tyC, ?_⟩
      · cases hw; rfl
      · have nda : d ≠ hA.objs.size + 1 := fun z => by
          rw [z, ea] at ed
          have w : HO.ext _ = HO.ext _ := Option.some.inj ed
          rw [← z] at new1
          rw [z] at na
          rw [upd_same] at na; cases na
        have eH : upd (del H2 (hA.objs.size + 1)) d (.xd [(("what" : Str), v)]) = upd HA d (.xd [(("what" : Str), v)]) := by
          funext b
          by_cases hb1 : b = d
          · rw [hb1, upd_same, upd_same]
          · rw [upd_ne hb1, upd_ne hb1]
            by_cases hb2 : b = hA.objs.size + 1
            · rw [hb2, del_same, new1]
            · rw [del_ne hb2, rest b hb1 hb2]
        rw [eH]
        exact qA d hd1
end
def dRaise (C : Addr) (dx : DX) (da : DA) : DS := fun _ ρ => da ρ fun ds ρ1 => ∃ z, ds = [z] ∧ dx C z ρ1
section
variable {X : Cx} {W : Ent} {E : XK} {dx : DX} {da : DA} {C : Addr} {k : Nat} {x : Str} {p pos pos2 : Pos} {e : Expr} {es : List Expr}
theorem ds_raise (X0 : ExL W E dx) (tk : L2N.Takes X (fun cls d _ H => E cls d H)) (hc : X.calm = true) (T : ErrC X.prog X.w X.K X.mg X.base x C) (hr : Room (k + 2) X.A) (hg : Gl X x) (ha : PDA X W (e :: es) da)
    (hdb : (x == ("__debug__" : Str)) = false := by decide) (he : starEach (e :: es) X.env = (false, eval e X.env) :: starEach es X.env := by rfl) (hpl : (backTo pos (starEach es X.env)).any (·.1) = false := by rfl) :
    PDS X W (.Raise (some (.Call (.Name x p) (e :: es) [] pos)) none pos2) (dRaise C dx da) := by
  obtain ⟨ta, a1, a2⟩ := ha.ex
  have tk0 : ∀ E' : XK, (∀ c d H, ¬ E' c d H) → Passes (L2N.CX X.prog X.w) X E' := fun E' h => L2N.passes_call tk fun c d σ H z => (h c d H z).elim
  refine ⟨_, L2N.ps_raise hc tk (pmk_err T hr tk0 hg a1 hdb he hpl), fun F H σ ρ D DD R L h => a2 F H σ [] ρ [] _ _ R h fun F1 H1 ρ1 vs ds R1 s1 r1 h1 => ?_⟩
  obtain ⟨z, rfl, h1⟩ := h1
  obtain ⟨v, rfl, rv⟩ := reps1 r1
  refine ⟨v, rfl, fun d hd => ?_⟩
  have ex : Ext F1 H1 F1 (upd H1 d (.xd [(("what" : Str), v)])) := ⟨Same.refl _, fun b o q => by rw [upd_ne (ne_of_none q hd)]; exact q, fun b o q => by rw [upd_ne (ne_of_none q (R1.ex.free hd))]; exact R1.ex b o q, fun b o q => .inl q⟩
  refine X0 F1 _ σ [] ρ1 [] d z C (R1.extNew ex (fpc := [d]) ⟨d, v, rfl, rfl, upd_same, rv⟩ fun a ha => ?_) h1
  rw [List.mem_singleton.mp ha]
  exact ⟨R1.ex.free hd, hd⟩
end
/-- the __init__ of such a class: self.what = what -/
theorem ok_xinit {P : Program} {w : World} {K : PySem.W.Frag} {mg : Str → Option Value} {base : Heap} {qual : Str} {st : Stmt} {f : Addr} {fd : FuncData} {ps : List Str} (hps : ps = (["self", "what"] : List Str)) (Fn : Fun K "__init__" qual st f fd) (S : FnScope ps ps (defScope st))
    (hb : ∀ (cdv : Value) (A : Around) (outer : List Env) (s : Shared) (H : Hp) (E : XK), PSs (cxOf (L2N.CX P w) P w K mg base ps qual (defScope st) f cdv A outer s H E) (defBody st) (tOst K "what" (tVar 0) (tVar 1))) : FnOk P w K mg base (L2N.CX P w) 1 f fd ps (spXI K) := by
  refine okN Fn S (fun vs H Q E h => ?_) (fun cdv A outer s H vs Q E hr h => ⟨_, hb cdv A outer s H E, ?_⟩)
  · obtain ⟨e, C, v, rfl, _⟩ := h
    rw [hps]; rfl
  · obtain ⟨e, C, v, rfl, ox, nw, he, k⟩ := h
    rw [hps]
    exact ⟨v, rfl, .ref e, rfl, e, C, rfl, ox, nw, .inl ⟨he, fun d hd hn => k d hd hn⟩⟩
/-! a method of a class, a class: with what they promise -/
def CalM (P : Program) (w : World) (K : PySem.W.Frag) (mg : Str → Option Value) (base : Heap) (C : Addr) (m : Str) (k : Nat) (ps : List Str) (g : GSp) : Prop := ∃ (f : Addr) (fd : FuncData), FnOk P w K mg base (L2N.CX P w) k f fd ps (spOf g) ∧ Meth K C m f ∧ Binds K fd ps []
def CalC (P : Program) (w : World) (K : PySem.W.Frag) (mg : Str → Option Value) (base : Heap) (x : Str) (C : Addr) (k : Nat) (ps : List Str) (g : GSp) : Prop := ∃ (f : Addr) (fd : FuncData), FnOk P w K mg base (L2N.CX P w) k f fd ps (spOf g) ∧ Mk K C f ∧ mg x = some (.ref C) ∧ Binds K fd ps []
def dDcN : DN := fun ρ Q => Q (dcC []) ρ
theorem dn_dc {X : Cx} {W : Ent} {pos : Pos} : PDN X W (.Dict [] [] pos) dDcN := ⟨_, pe_dnewT, fun F H σ τ ρ ε Q k R h q => fun p hp => q F _ ρ _ (dcC []) (R.new hp ⟨p, [], [], rfl, fun a => by simp, List.not_mem_nil, upd_same, .nil⟩) (Same.refl _) h⟩

open PySem L2
/-- nothing is let out -/
theorem takes0N {X : Cx} : L2N.Takes X (fun _ _ _ _ => False) := fun u s' ⟨a, B, sI, pins, σ, H, cls, d, e, I, nb, up, sky, na, os, ag, h⟩ => h.elim
/-! ### names set side by side -/
def dPar (i j : Nat) (da : DA) : DS := fun D ρ => da ρ fun ds ρ1 => match ds with
  | [a, b] => okSet ρ1 i = true ∧ okSet ρ1 j = true ∧ D.nx ((ρ1.set i (.fz a)).set j (.fz b))
  | _ => False
def dPar3 (i j l : Nat) (da : DA) : DS := fun D ρ => da ρ fun ds ρ1 => match ds with
  | [a, b, c] => okSet ρ1 i = true ∧ okSet ρ1 j = true ∧ okSet ρ1 l = true ∧ D.nx (((ρ1.set i (.fz a)).set j (.fz b)).set l (.fz c))
  | _ => False
theorem okSet_set {ρ : Rho} {i j : Nat} {d : D} (h : okSet ρ j = true) : okSet (ρ.set i (.fz d)) j = true := by
  unfold okSet at *
  by_cases z : i = j
  · subst z
    cases e : ρ[i]? with
    | none => rw [e] at h; cases h
    | some s =>
      rw [List.getElem?_set_self (lt_of_get e)]
  · rw [List.getElem?_set_ne z]; exact h
section
variable {X : Cx} {W : Ent} {a b c : Expr} {da : DA} {i j l : Nat} {x y z : Str} {px py pz pt pos : Pos} {kt k2 : Nat} {pt2 : Pos}
theorem ds_par (hc : X.calm = true) (hN : X.N.Nodup) (hi : X.N[i]? = some x) (hj : X.N[j]? = some y) (hij : i ≠ j)
    (hx : X.env.scope.names.lookup x = some .local) (hy : X.env.scope.names.lookup y = some .local) (ha : PDA X W [a, b] da)
    (hw : swappedStores [.Tuple [.Name x px, .Name y py] kt pt] (.Tuple [a, b] k2 pt2) X.env = pure (some [x, y]) := by rfl)
    (hs : swapsWithSole [.Tuple [.Name x px, .Name y py] kt pt] (.Tuple [a, b] k2 pt2) pos.line X.env = pure false := by rfl) :
    PDS X W (.Assign [.Tuple [.Name x px, .Name y py] kt pt] (.Tuple [a, b] k2 pt2) pos) (dPar i j da) := by
  obtain ⟨ta, a1, a2⟩ := ha.ex
  refine ⟨_, ps_par hc hN hi hj hij hx hy a1 hw hs, fun F H σ ρ D DD R L h => a2 F H σ [] ρ [] _ _ R h fun F1 H1 ρ1 vs ds R1 s1 r1 h1 => ?_⟩
  split at h1
  · cases r1 with
    | cons p r =>
      cases r with
      | cons p' r' =>
        cases r'
        exact ⟨_, _, rfl, L.nx F1 H1 _ _ ((R1.setFz p (okSet_io h1.1)).setFz p' (okSet_io (okSet_set h1.2.1))) s1 h1.2.2⟩
  · exact h1.elim
theorem ds_par3 (hc : X.calm = true) (hN : X.N.Nodup) (hi : X.N[i]? = some x) (hj : X.N[j]? = some y) (hl : X.N[l]? = some z) (hij : i ≠ j) (hil : i ≠ l) (hjl : j ≠ l)
    (hx : X.env.scope.names.lookup x = some .local) (hy : X.env.scope.names.lookup y = some .local) (hz : X.env.scope.names.lookup z = some .local) (ha : PDA X W [a, b, c] da)
    (hw : swappedStores [.Tuple [.Name x px, .Name y py, .Name z pz] kt pt] (.Tuple [a, b, c] k2 pt2) X.env = pure (some [x, y, z]) := by rfl)
    (hs : swapsWithSole [.Tuple [.Name x px, .Name y py, .Name z pz] kt pt] (.Tuple [a, b, c] k2 pt2) pos.line X.env = pure false := by rfl) :
    PDS X W (.Assign [.Tuple [.Name x px, .Name y py, .Name z pz] kt pt] (.Tuple [a, b, c] k2 pt2) pos) (dPar3 i j l da) := by
  obtain ⟨ta, a1, a2⟩ := ha.ex
  refine ⟨_, ps_par3 hc hN hi hj hl hij hil hjl hx hy hz a1 hw hs, fun F H σ ρ D DD R L h => a2 F H σ [] ρ [] _ _ R h fun F1 H1 ρ1 vs ds R1 s1 r1 h1 => ?_⟩
  split at h1
  · cases r1 with
    | cons p r =>
      cases r with
      | cons p' r' =>
        cases r' with
        | cons p'' r'' =>
          cases r''
          exact ⟨_, _, _, rfl, L.nx F1 H1 _ _ (((R1.setFz p (okSet_io h1.1)).setFz p' (okSet_io (okSet_set h1.2.1))).setFz p'' (okSet_io (okSet_set (okSet_set h1.2.2.1)))) s1 h1.2.2.2⟩
  · exact h1.elim
end

open PySem L2
/-! ### a dict of texts, told by its pairs; a list from its end -/
def putsX (ps : List (Str × Str)) : List (Key × D) := ps.foldl (fun acc p => putX acc (.inr p.1) (.str p.2)) []
def dDispS (ps : List (Str × Str)) : DN := fun ρ Q => Q (.dk (putsX ps)) ρ
def PKS (X : Cx) (pos : Pos) (keys : List (Option Expr)) (values : List Expr) (ps : List (Str × Str)) : Prop := PPs X pos keys values (ps.map fun p => (tC (.str p.1), tC (.str p.2)))
theorem pks_nil {X : Cx} {pos : Pos} : PKS X pos [] [] [] := pps_nil
theorem pks_cons {X : Cx} {pos pk pv : Pos} {k v : Str} {jk jv : Nat} {ks : List (Option Expr)} {vs : List Expr} {ps : List (Str × Str)} (h : PKS X pos ks vs ps) : PKS X pos (some (.Constant (.str k) jk pk) :: ks) (.Constant (.str v) jv pv :: vs) ((k, v) :: ps) := pps_cons pe_str pe_str h
theorem pairs_of {σ : L2.St} : ∀ {ps : List (Str × Str)} {H : Hp} {Q : List (V × V) → Hp → Prop}, Q (ps.map fun p => (V.str p.1, V.str p.2)) H → tPairs (ps.map fun p => (tC (.str p.1), tC (.str p.2))) σ H Q
  | [], H, Q, h => h
  | p :: ps, H, Q, h => pairs_of (ps := ps) (Q := fun qs H3 => Q ((V.str p.1, V.str p.2) :: qs) H3) h
theorem puts_rep {F : Hp} : ∀ (ps : List (Str × Str)) (acc : List (Key × V)) (ks : List (Key × D)), acc.map (·.1) = ks.map (·.1) → Reps F (acc.map (·.2)) (ks.map (·.2)) →
    ((ps.map fun p => ((Sum.inr p.1 : Key), V.str p.2)).foldl (fun acc kv => putK acc kv.1 kv.2) acc).map (·.1) = (ps.foldl (fun acc p => putX acc (.inr p.1) (.str p.2)) ks).map (·.1) ∧
    Reps F (((ps.map fun p => ((Sum.inr p.1 : Key), V.str p.2)).foldl (fun acc kv => putK acc kv.1 kv.2) acc).map (·.2)) ((ps.foldl (fun acc p => putX acc (.inr p.1) (.str p.2)) ks).map (·.2))
  | [], acc, ks, e, r => ⟨e, r⟩
  | p :: ps, acc, ks, e, r => by
    obtain ⟨i1, i2⟩ := put_rep (k := (Sum.inr p.1 : Key)) e r (.str p.2)
    exact puts_rep ps _ _ i1 i2
section
variable {X : Cx} {W : Ent} {e : Expr} {de : DE} {pos p1 p2 p3 : Pos} {k : Nat}
theorem dn_dispS {keys : List (Option Expr)} {values : List Expr} {ps : List (Str × Str)} (h : PKS X pos keys values ps) (h15 : ps.length ≤ 15) (hall : keys.all (·.isSome) = true := by rfl) (hl : keys.length = values.length := by rfl) (h0 : keys ≠ [] := by simp) (hk : keys.length ≤ 15 := by decide) : PDN X W (.Dict keys values pos) (dDispS ps) := by
  refine ⟨_, pe_disp h hall hl h0 hk, fun F H σ τ ρ ε Q k R h q => fun p hp => ?_⟩
  refine pairs_of ?_
  refine ⟨upd_same, ps.map fun p => ((Sum.inr p.1 : Key), V.str p.2), ?_, by rw [List.length_map]; exact h15, ?_⟩
  · rw [List.map_map]; rfl
  obtain ⟨i1, i2⟩ := puts_rep (F := F) ps [] [] rfl .nil
  have e : upd (upd H p (.dK [])) p (.dK (mergeK [] (ps.map fun p => ((Sum.inr p.1 : Key), V.str p.2)))) = upd H p (.dK (mergeK [] (ps.map fun p => ((Sum.inr p.1 : Key), V.str p.2)))) := by
    funext a
    by_cases z : a = p
    · rw [z, upd_same, upd_same]
    · rw [upd_ne z, upd_ne z, upd_ne z]
  rw [e]
  exact q F _ ρ _ (.dk (putsX ps)) (R.new hp ⟨p, _, rfl, rfl, upd_same, i1, i2⟩) (Same.refl _) h
def dRevN (de : DE) : DN := fun ρ Q => de ρ fun d ρ1 => match d with
  | .list xs => Q (.l xs.reverse) ρ1
  | _ => False
theorem Reps.rev {F : Hp} : ∀ {vs : List V} {ds : List D}, Reps F vs ds → Reps F vs.reverse ds.reverse
  | [], _, r => by cases r; exact .nil
  | v :: vs, _, r => by
    cases r with
    | cons h t =>
      rw [List.reverse_cons, List.reverse_cons]
      exact t.rev.append (.cons h .nil)
theorem dn_rev (he : PDE X W e de) : PDN X W (.Subscript e (.Slice none none (some (.UnaryOp .USub (.Constant (.int 1) k p1) p2)) p3) pos) (dRevN de) := by
  obtain ⟨te, a1, a2⟩ := he.ex
  refine ⟨_, pe_revL a1, fun F H σ τ ρ ε Q k R h q => a2 F H σ τ ρ ε _ _ R h fun F1 H1 ρ1 v d R1 s1 r1 h1 => ?_⟩
  split at h1
  · obtain ⟨pp, xs, rfl, h2, h3⟩ := rep_lstH R1.ex r1
    exact ⟨pp, xs, rfl, SqL.of h2, fun l hl => q F1 _ ρ1 _ (.l _) (R1.new hl ⟨l, _, rfl, rfl, upd_same, h3.rev⟩) s1 h1⟩
  · exact h1.elim
end

open PySem L2
/-! ### a method called by two names, the other way about -/
def swG {α : Type} (us ws : List α) : List α := match us, ws with
  | [x], [a, b] => [x, b, a]
  | us, ws => us ++ ws
def swL (l : AL) : AL := match l with
  | [a, b] => [b, a]
  | l => l
theorem Vals.app : ∀ {vs zs : List V} {us ws : List Value}, Vals vs us → Vals zs ws → Vals (vs ++ zs) (us ++ ws)
  | [], _, [], _, .nil, h => h
  | _ :: _, _, _ :: _, _, .cons h t, h2 => .cons h (Vals.app t h2)
theorem swG_rel {vs : List V} {us : List Value} {zs : List V} {ws : List Value} (h : Vals vs us) (h2 : Vals zs ws) : Vals (swG vs zs) (swG us ws) := by
  cases h with
  | nil => exact h2
  | cons a t =>
    cases t with
    | nil =>
      cases h2 with
      | nil => exact .cons a .nil
      | cons b t2 =>
        cases t2 with
        | nil => exact .cons a (.cons b .nil)
        | cons c t3 =>
          cases t3 with
          | nil => exact .cons a (.cons c (.cons b .nil))
          | cons d t4 => exact .cons a (.cons b (.cons c (.cons d t4)))
    | cons b t2 => exact Vals.app (.cons a (.cons b t2)) h2
theorem kbn_swap {K : PySem.W.Frag} {fd : FuncData} {p0 p1 p2 : Str} (h : ∀ x a b : Value, bindArgs fd ⟨[x], [(p2, a), (p1, b)]⟩ = pure [(p0, x), (p1, b), (p2, a)]) : KBn K fd [p0, p1, p2] 1 [p2, p1] swG swG :=
  ⟨fun s us ws _ h0 hl => by
    match us, ws, h0, hl with
    | [x], [a, b], _, _ => exact .of_eq (h x a b), swG_rel⟩
theorem swL_va {F : Hp} {σ : L2.St} {i : Nat} {v : V} {l : AL} {vs : List V} (hl : l.length = 2) (hi : σ[i]? = some (some v)) (h : VaG F σ l vs) : VaG F σ (.inr i :: swL l) (swG [v] vs) := by
  match l, hl with
  | [a, b], _ =>
    cases h with
    | d r t =>
      cases t with
      | d r2 t2 => cases t2; exact .c hi (.d r2 (.d r .nil))
      | c e2 t2 => cases t2; exact .c hi (.c e2 (.d r .nil))
    | c e t =>
      cases t with
      | d r2 t2 => cases t2; exact .c hi (.d r2 (.c e .nil))
      | c e2 t2 => cases t2; exact .c hi (.c e2 (.c e .nil))

/-! RD35: the pairs of a dict of tuple keys, sorted; a list made of them. -/
open PySem L2
/-- F, and all tuples of H -/
def tupF (F H : Hp) : Hp := fun a => match F a with
  | some o => some o
  | none => match H a with
    | some (.tup xs) => some (.tup xs)
    | _ => none
theorem tupF_of {F H : Hp} (e : Same F H) {a : Addr} {xs : List V} (h : H a = some (.tup xs)) : tupF F H a = some (.tup xs) := by
  unfold tupF
  cases q : F a with
  | some o => rw [e _ _ q] at h; exact h
  | none => simp only [h]
theorem tupF_up {F H : Hp} : Same F (tupF F H) := fun a o h => by
  unfold tupF
  rw [h]
theorem tupF_in {F H : Hp} (e : Same F H) : Same (tupF F H) H := fun a o h => by
  unfold tupF at h
  cases q : F a with
  | some u => rw [q] at h; cases h; exact e _ _ q
  | none =>
    rw [q] at h
    cases z : H a with
    | none => rw [z] at h; cases h
    | some u =>
      rw [z] at h
      cases u <;> cases h
      rfl
/-- a pair of a dict, as data -/
def pairD (p : List Key × D) : D := .tuple [keysD p.1, p.2]
theorem rep_keyV {F : Hp} : ∀ k : List Key, Reps F (k.map kV) (k.map keyD)
  | [] => .nil
  | .inl i :: k => .cons (.int i) (rep_keyV k)
  | .inr x :: k => .cons (.str x) (rep_keyV k)
theorem plain_keys : ∀ k : List Key, PyData.plainAll (k.map keyD) = true
  | [] => rfl
  | .inl i :: k => plain_keys k
  | .inr x :: k => plain_keys k
theorem reads_key {h : Heap} : ∀ {k : List Key} {us : List Value}, Vals (k.map kV) us → ReadsAll h us (k.map keyD) []
  | [], _, r => by
    cases r
    exact .nil
  | .inl i :: k, _, r => by
    cases r with
    | cons r1 r2 =>
      obtain ⟨t, rfl⟩ := r1
      have := ReadsAll.cons (Reads.int (h := h) i t) (reads_key (h := h) r2)
      exact this
  | .inr x :: k, _, r => by
    cases r with
    | cons r1 r2 =>
      obtain ⟨t, rfl⟩ := r1
      have := ReadsAll.cons (Reads.str (h := h) x t) (reads_key (h := h) r2)
      exact this
def rSortItD : List V → Hp → VK → Prop := fun vs H Q => ∃ (p a : Addr) (kvs : List (List Key × V)) (F : Hp) (ks : List (List Key × D)), vs = [.ref p] ∧ H p = some (DX.itemsO p a) ∧ H a = some (.dT kvs) ∧ Same F H ∧ kvs.map (·.1) = ks.map (·.1) ∧ Reps F (kvs.map (·.2)) (ks.map (·.2)) ∧
  canSort (ks.map pairD) ∧ PyData.plainAll (ks.map (·.2)) = true ∧
  ∀ (H' : Hp) (l : Addr) (ys : List V), (∀ b o, H b = some o → H' b = some o) → H l = none → H' l = some (.lst ys) → Reps (tupF F H') ys (sortD (ks.map pairD)) → Q (.ref l) H'
theorem each_refs {R : Addr → D → Prop} : ∀ {us : List Value} {ds : List D}, PySem.W.EachIs (fun u d => ∃ b, u = .ref b ∧ R b d) us ds → ∃ bs : List Addr, us = bs.map Value.ref ∧ Paired R bs ds
  | [], [], _ => ⟨[], rfl, .nil⟩
  | _ :: _, _ :: _, .cons ⟨b, e, h⟩ t => by
    obtain ⟨bs, e2, h2⟩ := each_refs t
    exact ⟨b :: bs, by rw [e, e2]; rfl, .cons h h2⟩
theorem vals_refs : ∀ bs : List Addr, Vals (bs.map V.ref) (bs.map Value.ref)
  | [] => .nil
  | _ :: bs => .cons rfl (vals_refs bs)
theorem paired_mem {α β : Type} {R : α → β → Prop} : ∀ {l : List α} {m : List β}, Paired R l m → ∀ a ∈ l, ∃ b, R a b
  | _, _, .nil, a, h => by cases h
  | _, _, .cons h t, a, m => by
    rcases List.mem_cons.mp m with rfl | m
    · exact ⟨_, h⟩
    · exact paired_mem t a m
theorem paired_reps {F : Hp} {R : Addr → D → Prop} (h : ∀ b d, R b d → Rep F (.ref b) d) : ∀ {bs : List Addr} {ds : List D}, Paired R bs ds → Reps F (bs.map V.ref) ds
  | _, _, .nil => .nil
  | _, _, .cons a t => .cons (h _ _ a) (paired_reps h t)
theorem paired_len {α β : Type} {R : α → β → Prop} : ∀ {l : List α} {m : List β}, Paired R l m → l.length = m.length
  | _, _, .nil => rfl
  | _, _, .cons _ t => by rw [List.length_cons, List.length_cons, paired_len t]
section
variable {X : Cx}
theorem cr_sortItD (hc : X.calm = true) (hu : X.A.units + 64 < cLine) : CallR X (.builtin "sorted") rSortItD := by
  intro pins s σ H xs us Q I r h
  obtain ⟨p, a, kvs, F, ks, rfl, hp, ha, sF, ek, rv, ⟨c1, c2, c3, c4⟩, pl, q⟩ := h
  obtain rfl := Vals.ref1 r
  have view : s.heap.IsItemsView p a := (show ObjOk X.prog X.w H s.heap p (DX.itemsO p a) from I.hok p _ hp).1
  obtain ⟨z, hd, xs', rel, o, es, ep, ho, hx, hdat, hes, his, hn⟩ := dt_of I.hok ha
  have lk : kvs.length = ks.length := by
    have := congrArg List.length ek
    rwa [List.length_map, List.length_map] at this
  have l1 : kvs.length = xs'.length := Paired.length rel
  have l2 : es.size = xs'.length := size_of_entries hes
  have hh : X.A.handled = none := I.ok.hd hc
  refine DT.sortedI (es := es) (ep := ep) hh view ⟨o, ho, hx, hdat⟩ (by omega) fun h' tk as hk hlt hl hG => ?_
  have lak : as.length = ks.length := by omega
  have nd : as.Nodup := hG.rise.imp fun h => Nat.ne_of_lt h
  have at0 : ∀ (j : Nat) (b : Addr), as[j]? = some b → ∃ (k : List Key) (d : D) (v : V) (u : Value) (kq : Addr), ks[j]? = some (k, d) ∧ Rep F v d ∧ RelV v u ∧ H kq = some (.tup (k.map kV)) ∧ h'.get? b = some { cls := .type "tuple", data := .seq #[Value.ref kq, u] } := by
    intro j b hj
    obtain ⟨en, he, hg⟩ := hG.pairs j b hj
    rw [entry_at hes j] at he
    cases hxj : xs'[j]? with
    | none => rw [hxj] at he; cases he
    | some x =>
      rw [hxj] at he
      cases he
      obtain ⟨e0, he0, r1, r2, r3⟩ := DX.pget rel hxj
      have e1 : (ks.map (·.1))[j]? = some e0.1 := by rw [← ek, List.getElem?_map, he0]; rfl
      have hjl : j < (ks.map (·.2)).length := by
        have := lt_of_get e1
        rw [List.length_map] at this ⊢
        exact this
      obtain ⟨v, g1, g2⟩ := rv.get (List.getElem?_eq_getElem hjl)
      rw [List.getElem?_map, he0] at g1
      cases g1
      rw [List.getElem?_map] at e1
      cases hkj : ks[j]? with
      | none => rw [hkj] at e1; cases e1
      | some kd =>
        rw [hkj] at e1
        obtain ⟨k, d⟩ := kd
        have e2 : k = e0.1 := Option.some.inj e1
        have e3 : (ks.map (·.2))[j] = d := by
          have := List.getElem?_eq_getElem hjl
          rw [List.getElem?_map, hkj] at this
          exact (Option.some.inj this).symm
        rw [e3] at g2
        exact ⟨k, d, e0.2, x.2.2, x.2.1, rfl, g2, r3, by rw [e2]; exact r2, hg⟩
  have hob : (h'.push { cls := .type "list", data := .seq (as.map Value.ref).toArray }).get? h'.objs.size = some (PyProof.Rows.seqObj "list" (as.map Value.ref).toArray 0) := Heap.get?_push_size _ rfl
  have kb : ∀ b o, s.heap.get? b = some o → (h'.push { cls := .type "list", data := .seq (as.map Value.ref).toArray }).get? b = some o := fun b o e => Heap.get?_push_of_some _ (hk b o e)
  have ne0 : ∀ b o, h'.get? b = some o → b ≠ h'.objs.size := fun b o e => Nat.ne_of_lt (Heap.lt_size e)
  have I' : Inv X pins σ H { s with heap := h', toks := tk } := I.kept (t' := tk) hk
  -- each pair reads as its data
  have rd : ∀ (j : Nat) (b : Addr) (k : List Key) (d : D), as[j]? = some b → ks[j]? = some (k, d) → ∃ cs, Reads h' (.ref b) (pairD (k, d)) cs := by
    intro j b k d hj hkj
    obtain ⟨k2, d2, v, u, kq, e1, rv2, ru, hkq, hg⟩ := at0 j b hj
    rw [hkj] at e1
    cases e1
    have pd : d.plain = true := plain_mem' pl (List.mem_map.mpr ⟨(k, d), List.mem_of_getElem? hkj, rfl⟩)
    obtain ⟨cs, rd1⟩ := Dp.reads I' d v u (rv2.dpP (K := X.K) sF pd) ru
    obtain ⟨_, its, rvk, ot, hot, hct, nt, hdt⟩ := (show ObjOk X.prog X.w H s.heap kq (.tup (k.map kV)) from I.hok kq _ hkq)
    have rk : Reads h' (.ref kq) (keysD k) [] := .tuple (hk _ _ hot) hct hdt (by rw [List.toList_toArray]; exact reads_key (h := h') rvk)
    exact ⟨_, .tuple hg rfl rfl (.cons rk (.cons rd1 .nil))⟩
  generalize hh2 : h'.push { cls := .type "list", data := .seq (as.map Value.ref).toArray } = h2 at hob kb ⊢
  have ka : ∀ b o, h'.get? b = some o → h2.get? b = some o := fun b o e => by rw [← hh2]; exact Heap.get?_push_of_some _ e
  let R0 : Addr → D → Prop := fun b d => ∃ (j : Nat) (kd : List Key × D), as[j]? = some b ∧ ks[j]? = some kd ∧ d = pairD kd
  let R : Value → D → Prop := fun u d => ∃ b, u = .ref b ∧ R0 b d
  have mk : ∀ (P : Value → D → Prop) (as' : List Addr) (ks' : List (List Key × D)), as'.length = ks'.length → (∀ (j : Nat) b kd, as'[j]? = some b → ks'[j]? = some kd → P (.ref b) (pairD kd)) → PySem.W.EachIs P (as'.map Value.ref) (ks'.map pairD) := by
    intro P as'
    induction as' with
    | nil =>
      intro ks' hl _
      cases ks' with
      | nil => exact .nil
      | cons k ks' => cases hl
    | cons b as' ih =>
      intro ks' hl hP
      cases ks' with
      | nil => cases hl
      | cons k ks' => exact .cons (hP 0 b k rfl rfl) (ih ks' (Nat.succ.inj hl) fun j b kd h1 h2 => hP (j + 1) b kd h1 h2)
  have e1 : PySem.W.EachIs R (as.map Value.ref) (ks.map pairD) := mk R as ks lak fun j b kd h1 h2 => ⟨b, rfl, j, kd, h1, h2, rfl⟩
  have e2 : PySem.W.EachIs (fun u d => ∃ cs, Reads h2 u d cs ∧ h'.objs.size ∉ cs) (as.map Value.ref) (ks.map pairD) := mk _ as ks lak fun j b kd h1 h3 => by
    obtain ⟨cs, rr⟩ := rd j b kd.1 kd.2 h1 h3
    refine ⟨cs, PyProof.Rows.Reads.keeps ka rr, fun m => ?_⟩
    obtain ⟨o, ho⟩ := PyProof.On.reads_mem_get rr _ m
    exact ne0 _ _ ho rfl
  refine PySem.W.list_sort_data (s := { s with heap := h2, toks := tk }) (enc := fun d : D => d) (bs := ks.map pairD) hob e1 e2 (by rw [List.map_id']; exact c1) (by rw [List.map_id']; exact c2) c4 (fun b hb => by
    have := c3 b hb
    show X.A.units + 1 + 1 + b.depth < cLine
    omega) fun out hol eo => ?_
  show EP X pins σ Q (.ref h'.objs.size) { s with heap := PyProof.Rows.sortedHeap h2 h'.objs.size (as.map Value.ref) (List.toArray out), toks := tk }
  obtain ⟨bs, rfl, pb⟩ := each_refs (R := R0) eo
  have kF : ∀ b o, b ≠ h'.objs.size → h2.get? b = some o → (PyProof.Rows.sortedHeap h2 h'.objs.size (as.map Value.ref) (List.toArray (bs.map Value.ref))).get? b = some o := fun b o hb e => (PyProof.Rows.sortedHeap_old hb (Heap.lt_size e)).trans e
  have kS : ∀ b o, s.heap.get? b = some o → (PyProof.Rows.sortedHeap h2 h'.objs.size (as.map Value.ref) (List.toArray (bs.map Value.ref))).get? b = some o := fun b o e => kF b o (ne0 _ _ (hk b o e)) (kb b o e)
  obtain ⟨eF, heF⟩ := PyProof.Rows.sortedHeap_at (vs := as.map Value.ref) (out := List.toArray (bs.map Value.ref)) hob
  have I1 : Inv X pins σ H { s with heap := PyProof.Rows.sortedHeap h2 h'.objs.size (as.map Value.ref) (List.toArray (bs.map Value.ref)), toks := tk } := I.kept (t' := tk) kS
  have hn0 : H h'.objs.size = none := I.hok.fresh (Nat.le_of_lt hlt)
  have hlen : (bs.map V.ref).length ≤ sizeLine := by
    have e := paired_len pb
    rw [List.length_mergeSort, List.length_map] at e
    rw [List.length_map, e]
    have := c4
    rw [List.length_map] at this
    exact this
  have I2 : Inv X pins σ (upd H h'.objs.size (.lst (bs.map V.ref))) { s with heap := PyProof.Rows.sortedHeap h2 h'.objs.size (as.map Value.ref) (List.toArray (bs.map Value.ref)), toks := tk } :=
    I1.take (t' := tk) (fun b ob _ e => e) (I.fpOk (Nat.le_of_lt hlt) hn0) ⟨hlen, bs.map Value.ref, eF, vals_refs bs, heF⟩
  obtain ⟨H2, I3, g, qt⟩ := DX.takeT (P := fun b vs => ∃ (j : Nat) (k : List Key) (d : D) (v : V) (kq : Addr), as[j]? = some b ∧ ks[j]? = some (k, d) ∧ Rep F v d ∧ vs = [.ref kq, v] ∧ H kq = some (.tup (k.map kV))) I as _ I2 nd fun b hb => by
    obtain ⟨j, hj⟩ := List.mem_iff_getElem?.mp hb
    obtain ⟨k, d, v, u, kq, he, rv2, ru, hkq, hg⟩ := at0 j b hj
    have hbl : s.heap.objs.size ≤ b := Nat.le_of_lt (hG.above b hb)
    refine ⟨hbl, ?_, [.ref kq, v], ⟨j, k, d, v, kq, hj, he, rv2, rfl, hkq⟩, fun H3 => ⟨(by rw [sizeLine_eq]; show 2 ≤ 16777216; omega), [Value.ref kq, u], .cons rfl (.cons ru .nil), ⟨_, kF _ _ (ne0 _ _ hg) (ka _ _ hg), rfl, 0, rfl⟩⟩⟩
    rw [upd_ne (ne0 _ _ hg)]
    exact I.hok.fresh hbl
  have gr : ∀ b o, H b = some o → H2 b = some o := fun b o e => g b o (by rw [upd_ne (ne_of_none e hn0)]; exact e)
  have sF2 : Same F H2 := fun b o e => gr b o (sF b o e)
  refine ⟨.ref h'.objs.size, H2, I3, rfl, q H2 h'.objs.size _ gr hn0 (g _ _ upd_same) (paired_reps (R := R0) (fun b d hR => ?_) pb)⟩
  obtain ⟨i, kd, i1, i2, rfl⟩ := hR
  obtain ⟨vs, ⟨j, k, d, v, kq, j1, j2, rv2, ev, hkq⟩, hH⟩ := qt b (List.mem_of_getElem? i1)
  have eij : i = j := (List.getElem?_inj (List.getElem?_eq_some_iff.mp i1).1 nd).mp (i1.trans j1.symm)
  subst eij
  cases i2.symm.trans j2
  subst ev
  exact .tup (tupF_of sF2 hH) (.cons (.tup (tupF_of sF2 (gr _ _ hkq)) (rep_keyV k)) (.cons (rv2.mono tupF_up) .nil))
end

/-! RD36: [(a, b, w) for (a, b), w in sorted(d.items())] -/
open PySem L2
def flatD : D → D
  | .tuple [.tuple [a, b], w] => .tuple [a, b, w]
  | d => d
/-- keys of two texts, a text for each -/
def RowK (ks : List (List Key × D)) : Prop := ∀ p ∈ ks, ∃ x y w : Str, p = ([.inr x, .inr y], .str w)
def dRuleN (de : DE) (vs : List Nat) : DN := fun ρ Q => de ρ fun d ρ1 => ∃ ks : List (List Key × D), d = dtD ks ∧ RowK ks ∧ ks.length ≤ 1000 ∧ canSort (ks.map pairD) ∧ (vs.all fun i => decide (i < ρ1.length)) = true ∧ Q (.l ((sortD (ks.map pairD)).map flatD)) (dwipe ρ1 vs)
theorem plain_rows : ∀ {ks : List (List Key × D)}, RowK ks → PyData.plainAll (ks.map (·.2)) = true
  | [], _ => rfl
  | p :: ks, h => by
    obtain ⟨x, y, w, rfl⟩ := h p List.mem_cons_self
    exact plain_rows (ks := ks) fun q m => h q (List.mem_cons_of_mem _ m)
/-- the target (a, b), w -/
def gRule (K : PySem.W.Frag) (ia ib iw : Nat) : TG := gTup K 2 (gCons (gTup K 2 (gCons (gName ia) (gCons (gName ib) gNil))) (gCons (gName iw) gNil))
def tRule (ia ib iw : Nat) : TE := tTup (tCons (tVar ia) (tCons (tVar ib) (tCons (tVar iw) tNil)))
theorem reps_two {F : Hp} {vs : List V} {a b : D} (h : Reps F vs [a, b]) : ∃ x y, vs = [x, y] ∧ Rep F x a ∧ Rep F y b := by
  obtain ⟨x, ws, rfl, h1, h2⟩ := h.cons_of
  obtain ⟨y, ws, rfl, h3, h4⟩ := h2.cons_of
  cases h4.nil_of
  exact ⟨x, y, rfl, h1, h3⟩
theorem off_sets {σ : L2.St} {ia ib iw : Nat} {a b w : Option V} : Off [ia, ib, iw] σ (((σ.set ia a).set ib b).set iw w) := by
  refine ⟨by rw [List.length_set, List.length_set, List.length_set], fun i hi => ?_⟩
  simp only [List.mem_cons, List.not_mem_nil, or_false, not_or] at hi
  rw [List.getElem?_set_ne (fun e => hi.2.2 e.symm), List.getElem?_set_ne (fun e => hi.2.1 e.symm), List.getElem?_set_ne (fun e => hi.1 e.symm)]
theorem ext_grow {F H H' : Hp} (e : Same F H) (g : Same H H') : Ext F H F H' := ⟨Same.refl _, g, e.trans g, fun _ _ h => .inl h⟩
theorem snd_rule {W : Ent} {K : PySem.W.Frag} {te : TE} {de : DE} {ia ib iw : Nat} {vs : List Nat} (h1 : SndE W te de) (d1 : ia ≠ ib) (d2 : ia ≠ iw) (d3 : ib ≠ iw) (hs : ∀ i ∈ [ia, ib, iw], i ∈ vs) :
    SndN W (tLc (iList K (tCB rSortItD (tCons (tBM0 K "dict" DX.rItemsT te) tNil))) (gRule K ia ib iw) tYes (tRule ia ib iw) vs) (dRuleN de vs) := by
  intro F H σ τ ρ ε Q k R h q
  refine h1 F H σ τ ρ ε _ _ R h fun F1 H1 ρ1 v d R1 s1 r1 h2 => ?_
  obtain ⟨ks, rfl, hrow, hlen, cs, hvs, hq⟩ := h2
  have hlt : ia < ρ1.length ∧ ib < ρ1.length ∧ iw < ρ1.length := by
    have hv := fun i (hi : i ∈ [ia, ib, iw]) => of_decide_eq_true (List.all_eq_true.mp hvs i (hs i hi))
    exact ⟨hv _ (by simp), hv _ (by simp), hv _ (by simp)⟩
  obtain ⟨a, kvs, rfl, ha, ek, rv⟩ := r1.dt_of
  have hHa := R1.ex _ _ ha
  refine ⟨.inr (.inr (.inl ⟨rfl, .inr ⟨kvs, hHa⟩⟩)), a, kvs, rfl, rfl, hHa, fun p hp => ?_⟩
  have R2 : At W F1 (upd H1 p (DX.itemsO p a)) σ τ ρ1 ε := R1.ext (ext_grow R1.ex fun b o e => by rw [upd_ne (ne_of_none e hp)]; exact e)
  refine ⟨p, a, kvs, F1, ks, rfl, upd_same, by rw [upd_ne (ne_of_none hHa hp)]; exact hHa, R2.ex, ek, rv, cs, plain_rows hrow, fun H3 l ys g3 hl0 hl ry => ?_⟩
  have R3 : At W F1 H3 σ τ ρ1 ε := R2.ext (ext_grow R2.ex g3)
  refine ⟨l, rfl, ⟨ys, SqL.of hl⟩, fun P hP => ?_⟩
  -- the list walked is not of F1: its address is new
  have sG : Same (tupF F1 H3) H3 := tupF_in R3.ex
  have hnl : P ≠ l := fun e => by rw [e, hl] at hP; cases hP
  generalize hss : sortD (ks.map pairD) = ss at ry hq
  have hsl : ss.length = ks.length := by rw [← hss]; unfold sortD; rw [List.length_mergeSort, List.length_map]
  have hsm : ∀ x ∈ ss, ∃ a b w : Str, x = .tuple [.tuple [.str a, .str b], .str w] := by
    intro x hx
    rw [← hss] at hx
    unfold sortD at hx
    rw [List.mem_mergeSort] at hx
    obtain ⟨pp, hp1, rfl⟩ := List.mem_map.mp hx
    obtain ⟨x, y, w, rfl⟩ := hrow pp hp1
    exact ⟨x, y, w, rfl⟩
  refine ⟨fun i m H => i ≤ ss.length ∧ m = ss.length - i ∧ Same H3 H ∧ ∃ Fi ts, Ext F1 H3 Fi H ∧ Fi P = none ∧ H P = some (.lst ts) ∧ Reps Fi ts ((ss.take i).map flatD),
    ⟨ss.length, Nat.zero_le _, rfl, fun b o e => by rw [upd_ne (ne_of_none e hP)]; exact e, F1, [], ext_grow R3.ex (fun b o e => by rw [upd_ne (ne_of_none e hP)]; exact e), R3.ex.free hP, upd_same, .nil⟩, ?_⟩
  rintro i m Hi ⟨hi, rfl, g, Fi, ts, ex, hFP, hHP, rt⟩
  have hli := g _ _ hl
  by_cases hlt2 : i < ss.length
  · obtain ⟨v, g1, g2⟩ := ry.get (List.getElem?_eq_getElem hlt2)
    obtain ⟨xa, xb, xw, ex1⟩ := hsm _ (List.getElem_mem hlt2)
    rw [ex1] at g2
    obtain ⟨t, xs, rfl, t1, t2⟩ := g2.tup_of
    obtain ⟨u1, u2, rfl, w1, w2⟩ := reps_two t2
    obtain ⟨kq, xs2, rfl, t3, t4⟩ := w1.tup_of
    obtain ⟨u3, u4, rfl, w3, w4⟩ := reps_two t4
    cases w2.str_of
    cases w3.str_of
    cases w4.str_of
    have sq : SqL K Hi l ys := SqL.of hli
    refine .inr ⟨⟨ys, _, sq, g1⟩, fun H' => Same H3 H' ∧ ∃ F' ts', Ext F1 H3 F' H' ∧ F' P = none ∧ H' P = some (.lst ts') ∧ Reps F' ts' ((ss.take (i + 1)).map flatD),
      fun H' ⟨q1, F', ts', q2, q3, q4, q5⟩ => ⟨ss.length - (i + 1), by omega, hlt2, rfl, q1, F', ts', q2, q3, q4, q5⟩, fun x H' y => ?_⟩
    obtain ⟨rfl, hx⟩ := y
    have ex2 := hx ys sq
    rw [g1] at ex2
    cases ex2
    have a1 : H' t = some (.tup [.ref kq, .str xw]) := g _ _ (sG _ _ t1)
    have a2 : H' kq = some (.tup [.str xa, .str xb]) := g _ _ (sG _ _ t3)
    refine ⟨t, _, rfl, SqT.of a1, rfl, _, _, rfl, ⟨kq, _, rfl, SqT.of a2, rfl, _, _, rfl, _, _, rfl, rfl, _, _, rfl, rfl, ?_⟩⟩
    have wl : ∀ j, j < ρ1.length → j < (wipe σ vs).length := fun j hj => by rw [wipe_length]; have := R1.len; omega
    refine ⟨wipe_same off_sets hs, ?_⟩
    simp only [tYes, if_true]
    refine ⟨.str xa, ?_, .str xb, ?_, .str xw, ?_, by rw [sizeLine_eq]; show 3 ≤ 16777216; omega, fun pn hpn => ?_⟩
    · rw [List.getElem?_set_ne d2.symm, List.getElem?_set_ne d1.symm, List.getElem?_set_self (wl _ hlt.1)]
    · rw [List.getElem?_set_ne d3.symm, List.getElem?_set_self (by rw [List.length_set]; exact wl _ hlt.2.1)]
    · rw [List.getElem?_set_self (by rw [List.length_set, List.length_set]; exact wl _ hlt.2.2)]
    · have hpP : pn ≠ P := fun e => by rw [e, hHP] at hpn; cases hpn
      have etake : (ss.take (i + 1)).map flatD = (ss.take i).map flatD ++ [.tuple [.str xa, .str xb, .str xw]] := by
        rw [List.take_add_one, List.getElem?_eq_getElem hlt2, ex1, List.map_append]
        rfl
      have exn := Ext.new (o := .tup [V.str xa, .str xb, .str xw]) ex.fH hpn
      have ex3 : Ext F1 H3 (upd Fi pn (.tup [V.str xa, .str xb, .str xw])) (upd H' pn (.tup [V.str xa, .str xb, .str xw])) := ex.trans exn
      refine ⟨ts, by rw [upd_ne hpP.symm]; exact hHP, by rw [rt.length, List.length_map, List.length_take, sizeLine_eq]; omega, fun b o e => ?_, upd Fi pn (.tup [V.str xa, .str xb, .str xw]), ts ++ [.ref pn], ⟨ex3.fF, fun b o e => ?_, fun b o e => ?_, ex3.nw⟩, by rw [upd_ne hpP.symm]; exact hFP, upd_same, ?_⟩
      · have hbP : b ≠ P := ne_of_none e hP
        rw [upd_ne hbP]
        exact ex3.hH _ _ e
      · have hbP : b ≠ P := ne_of_none e hP
        rw [upd_ne hbP]
        exact ex3.hH _ _ e
      · have hbP : b ≠ P := fun z => by rw [z, upd_ne hpP.symm, hFP] at e; cases e
        rw [upd_ne hbP]
        exact ex3.fH _ _ e
      · rw [etake]
        exact (rt.mono exn.fF).append (.cons (.tup upd_same (.cons (.str _) (.cons (.str _) (.cons (.str _) .nil)))) .nil)
  · have hii : i = ss.length := by omega
    subst hii
    refine .inl ⟨⟨ys, SqL.of hli, by rw [ry.length]; exact Nat.le_refl _⟩, ?_⟩
    rw [List.take_length] at rt
    have R4 : At W F1 H3 σ τ (dwipe ρ1 vs) ε := R3.wiped rfl fun j hj => rfl
    have R5 : At W Fi Hi σ (some (.ref P) :: τ) (dwipe ρ1 vs) (.ow (.l (ss.map flatD)) :: ε) := R4.extNew ex ⟨P, ts, rfl, rfl, hHP, rt⟩ fun b hb => by
      rw [List.mem_singleton.mp hb]
      exact ⟨hFP, hP⟩
    exact q Fi Hi (dwipe ρ1 vs) (.ref P) (.l (ss.map flatD)) R5 (s1.trans ex.fF) hq
section
variable {X : Cx} {W : Ent} {elt tg e : Expr} {scope : Scope} {own : List (Str × Nat)} {pos p apos cpos pos2 : Pos} {de : DE} {ia ib iw : Nat}
theorem dn_rule (hc : X.calm = true) (hN : X.N.Nodup) (hu : X.A.units + 64 < cLine) (hgl : Gl X "sorted") (hm : X.mg "sorted" = none) (he : PDE X W e de) (ok : BlkOk X.N X.env.scope scope own) (d1 : ia ≠ ib) (d2 : ia ≠ iw) (d3 : ib ≠ iw)
    (hg : ∀ (s : Shared) (H : Hp) (C : Addr) (cl : List (Str × Addr)) (fp : List Addr), PG (X.blk s H scope (compEnvC scope cl C X.env) fp) tg (gRule X.K ia ib iw))
    (hel : ∀ (s : Shared) (H : Hp) (C : Addr) (cl : List (Str × Addr)) (fp : List Addr), PE (X.blk s H scope (compEnvC scope cl C X.env) fp) elt (tRule ia ib iw))
    (hsl : ∀ i ∈ [ia, ib, iw], i ∈ own.map (·.2) := by decide)
    (hbase : attributeBase e "items" X.env (eval e X.env) = eval e X.env := by rfl) (hline : (apos.endLine == cpos.line) = true := by rfl)
    (hst : starEach [.Call (.Attribute e "items" apos) [] [] cpos] X.env = (false, eval (.Call (.Attribute e "items" apos) [] [] cpos) X.env) :: starEach [] X.env := by rfl)
    (hpl : (backTo pos2 (starEach [] X.env)).any (·.1) = false := by rfl)
    (hs : ∀ x, foldedSetIterable (.Call (.Name "sorted" p) [.Call (.Attribute e "items" apos) [] [] cpos] [] pos2) X.env x = pure x := by intro _; rfl) :
    PDN X W (.ListComp elt [⟨tg, .Call (.Name "sorted" p) [.Call (.Attribute e "items" apos) [] [] cpos] [] pos2, [], 0⟩] scope pos) (dRuleN de (own.map (·.2))) := by
  obtain ⟨te, a1, a2⟩ := he.ex
  have h1 := pe_bm0 PySem.F.plainAttrs_dict PySem.F.slot_dict_items PySem.F.type_dict_items DX.mt_itemsT a1 hbase hline
  have h2 := pe_callB (cr_sortItD hc hu) hgl hm (by decide +kernel) (pa_cons h1 pa_nil hst) (by decide) (by decide) hst hpl (p := p)
  exact ⟨_, pe_lc (tt := tYes) hc hN (pi_list h2) ok hg (fun _ _ _ _ _ => pts_nil) hel hs, snd_rule a2 d1 d2 d3 hsl⟩
end
/-- a method, called by two names the other way about, too -/
def CalMS (P : Program) (w : World) (K : PySem.W.Frag) (mg : Str → Option Value) (base : Heap) (C : Addr) (m : Str) (k : Nat) (ps ks : List Str) (g : GSp) : Prop := ∃ (f : Addr) (fd : FuncData), FnOk P w K mg base (L2N.CX P w) k f fd ps (spOf g) ∧ Meth K C m f ∧ Binds K fd ps [] ∧ KBn K fd ps 1 ks swG swG
section
variable {X : Cx} {W : Ent} {E : XK} {dx : DX} {g : GSp} {o : Expr} {m : Str} {apos pos : Pos} {i k : Nat} {f C : Addr} {fd : FuncData} {ps : List Str}
theorem dn_methG0 {pl : Sem Bool} (X0 : ExL W E dx) (tk : L2N.Takes X (fun cls d _ H => E cls d H)) (ho : PE X o (tVar i)) (c : Cls X.K C) (hm : Meth X.K C m f) (Fn : FnOk X.prog X.w X.K X.mg X.base (L2N.CX X.prog X.w) k f fd ps (spOf g)) (hr : Room k X.A) (hb : Binds X.K fd ps [])
    (ht : eval (.Call (.Attribute o m apos) [] [] pos) X.env = (do
      let ov ← eval o X.env
      standAt apos.atName
      let (f, first) ← holding [ov] (getMethod ov m pl)
      callWith pos f first (backTo pos (starEach [] X.env)) (backToKw pos (keywordEach [] X.env))) := by rfl) :
    PDN X W (.Call (.Attribute o m apos) [] [] pos) (dMethGN C m g i [] dx) := by
  refine ⟨_, pe_meth0 ho c hm Fn hr hb .nil (L2N.passes_call tk fun _ _ _ _ h => h) ht, fun F H σ τ ρ ε Q k' R h q => ?_⟩
  obtain ⟨⟨s, c, hs, hc, hi⟩, h⟩ := h
  obtain ⟨a, dxa, fs, g1, g2, g3⟩ := inst_of R hs hc hi
  exact ⟨_, g1, a, dxa, fs, rfl, g2, g3, sp_callN X0 R (.c g1 .nil) h q⟩
end

/-! RD37: a dict of a list of ints and three ints, by names -/
open PySem L2
def bgKV (q : Addr) (l t f : Int) : List (Key × V) := [(.inr "great", .ref q), (.inr "left", .int l), (.inr "turn", .int t), (.inr "fold", .int f)]
def bgX (gs : List Int) (l t f : Int) : XCell where
  rel := fun _ H v fp => ∃ p q, v = .ref p ∧ fp = [p, q] ∧ p ≠ q ∧ H p = some (.dK (bgKV q l t f)) ∧ H q = some (.lst (gs.map V.int))
  loc := by
    rintro F F' H H' v fp ⟨p, q, e0, e1, e2, h1, h2⟩ _ k
    exact ⟨p, q, e0, e1, e2, by rw [k p (by rw [e1]; simp)]; exact h1, by rw [k q (by rw [e1]; simp)]; exact h2⟩
  there := by
    rintro F H v fp ⟨p, q, e0, e1, e2, h1, h2⟩ a m
    rw [e1] at m
    rcases List.mem_cons.mp m with e | e
    · rw [e]; exact ⟨_, h1⟩
    · rw [List.mem_singleton.mp e]; exact ⟨_, h2⟩
/-- the same by its inner list, the dict at p -/
def bgY (p : Addr) (gs : List Int) (l t f : Int) : XCell where
  rel := fun _ H v fp => ∃ q, v = .ref q ∧ fp = [p, q] ∧ p ≠ q ∧ H p = some (.dK (bgKV q l t f)) ∧ H q = some (.lst (gs.map V.int))
  loc := by
    rintro F F' H H' v fp ⟨q, e1, e2, e3, h1, h2⟩ _ k
    exact ⟨q, e1, e2, e3, by rw [k p (by rw [e2]; simp)]; exact h1, by rw [k q (by rw [e2]; simp)]; exact h2⟩
  there := by
    rintro F H v fp ⟨q, e1, e2, e3, h1, h2⟩ a m
    rw [e2] at m
    rcases List.mem_cons.mp m with e | e
    · rw [e]; exact ⟨_, h1⟩
    · rw [List.mem_singleton.mp e]; exact ⟨_, h2⟩
def bgC (gs : List Int) (l t f : Int) : Cell := .ext (bgX gs l t f)
inductive BK where | l | t | f
def BK.nm : BK → Str
  | .l => "left"
  | .t => "turn"
  | .f => "fold"
def BK.get (l t f : Int) : BK → Int
  | .l => l
  | .t => t
  | .f => f
def BK.set (gs : List Int) (l t f z : Int) : BK → Cell
  | .l => bgC gs z t f
  | .t => bgC gs l z f
  | .f => bgC gs l t z
theorem sn_great_left : ((Str.ofString "great") = Str.ofString "left") = False := eq_false (by decide +kernel)
theorem sn_great_turn : ((Str.ofString "great") = Str.ofString "turn") = False := eq_false (by decide +kernel)
theorem sn_great_fold : ((Str.ofString "great") = Str.ofString "fold") = False := eq_false (by decide +kernel)
theorem sn_left_great : ((Str.ofString "left") = Str.ofString "great") = False := eq_false (by decide +kernel)
theorem sn_left_turn : ((Str.ofString "left") = Str.ofString "turn") = False := eq_false (by decide +kernel)
theorem sn_left_fold : ((Str.ofString "left") = Str.ofString "fold") = False := eq_false (by decide +kernel)
theorem sn_turn_great : ((Str.ofString "turn") = Str.ofString "great") = False := eq_false (by decide +kernel)
theorem sn_turn_left : ((Str.ofString "turn") = Str.ofString "left") = False := eq_false (by decide +kernel)
theorem sn_turn_fold : ((Str.ofString "turn") = Str.ofString "fold") = False := eq_false (by decide +kernel)
theorem sn_fold_great : ((Str.ofString "fold") = Str.ofString "great") = False := eq_false (by decide +kernel)
theorem sn_fold_left : ((Str.ofString "fold") = Str.ofString "left") = False := eq_false (by decide +kernel)
theorem sn_fold_turn : ((Str.ofString "fold") = Str.ofString "turn") = False := eq_false (by decide +kernel)
theorem bg_val (q : Addr) (l t f : Int) (k : BK) : valV (bgKV q l t f) (.inr k.nm) = some (.int (k.get l t f)) := by
  cases k
  · simp [valV, bgKV, BK.nm, BK.get, List.find?, sn_great_left, sn_great_turn, sn_great_fold, sn_left_great, sn_left_turn, sn_left_fold, sn_turn_great, sn_turn_left, sn_turn_fold, sn_fold_great, sn_fold_left, sn_fold_turn]
  · simp [valV, bgKV, BK.nm, BK.get, List.find?, sn_great_left, sn_great_turn, sn_great_fold, sn_left_great, sn_left_turn, sn_left_fold, sn_turn_great, sn_turn_left, sn_turn_fold, sn_fold_great, sn_fold_left, sn_fold_turn]
  · simp [valV, bgKV, BK.nm, BK.get, List.find?, sn_great_left, sn_great_turn, sn_great_fold, sn_left_great, sn_left_turn, sn_left_fold, sn_turn_great, sn_turn_left, sn_turn_fold, sn_fold_great, sn_fold_left, sn_fold_turn]
theorem bg_great (q : Addr) (l t f : Int) : valV (bgKV q l t f) (.inr "great") = some (.ref q) := by
  simp [valV, bgKV, List.find?]
theorem bg_put (q : Addr) (l t f z : Int) (k : BK) : putK (bgKV q l t f) (.inr k.nm) (.int z) = (match k with
  | .l => bgKV q z t f
  | .t => bgKV q l z f
  | .f => bgKV q l t z) := by
  unfold putK
  cases k
  · simp [bgKV, BK.nm, sn_great_left, sn_great_turn, sn_great_fold, sn_left_great, sn_left_turn, sn_left_fold, sn_turn_great, sn_turn_left, sn_turn_fold, sn_fold_great, sn_fold_left, sn_fold_turn]
  · simp [bgKV, BK.nm, sn_great_left, sn_great_turn, sn_great_fold, sn_left_great, sn_left_turn, sn_left_fold, sn_turn_great, sn_turn_left, sn_turn_fold, sn_fold_great, sn_fold_left, sn_fold_turn]
  · simp [bgKV, BK.nm, sn_great_left, sn_great_turn, sn_great_fold, sn_left_great, sn_left_turn, sn_left_fold, sn_turn_great, sn_turn_left, sn_turn_fold, sn_fold_great, sn_fold_left, sn_fold_turn]
theorem bag_here {W : Ent} {F H : Hp} {σ τ : L2.St} {ρ ε : Rho} {i : Nat} {s : Slot} {gs : List Int} {l t f : Int} (R : At W F H σ τ ρ ε) (hs : ρ[i]? = some s) (hc : s.cell = some (bgC gs l t f)) : ∃ p q, σ[i]? = some (some (.ref p)) ∧ p ≠ q ∧ H p = some (.dK (bgKV q l t f)) ∧ H q = some (.lst (gs.map V.int)) ∧
    (∀ l' t' f', At W F (upd H p (.dK (bgKV q l' t' f'))) σ τ (ρ.set i (s.put (bgC gs l' t' f'))) ε) ∧ (∀ ks, At W F (upd H q (.lst (ks.map V.int))) σ τ (ρ.set i (s.put (bgC ks l t f))) ε) := by
  obtain ⟨v, fp, g1, ⟨p, q, rfl, e2, e3, h1, h2⟩, g3, mk⟩ := R.cell hs hc
  have mp : p ∈ fp := by rw [e2]; exact List.mem_cons_self
  have mq : q ∈ fp := by rw [e2]; exact List.mem_cons_of_mem _ List.mem_cons_self
  refine ⟨p, q, g1, e3, h1, h2, fun l' t' f' => ?_, fun ks => ?_⟩
  · refine mk _ _ fp (fun a o n h => by rw [upd_ne fun z => n (by rw [z]; exact mp)]; exact h) (fun a ha => .inl ha) (fun a ha => ?_) ⟨p, q, rfl, e2, e3, upd_same, by rw [upd_ne (Ne.symm e3)]; exact h2⟩
    rw [e2] at ha
    rcases List.mem_cons.mp ha with z | z
    · rw [z]; exact ⟨_, upd_same⟩
    · rw [List.mem_singleton.mp z, upd_ne (Ne.symm e3)]; exact ⟨_, h2⟩
  · refine mk _ _ fp (fun a o n h => by rw [upd_ne fun z => n (by rw [z]; exact mq)]; exact h) (fun a ha => .inl ha) (fun a ha => ?_) ⟨p, q, rfl, e2, e3, by rw [upd_ne e3]; exact h1, upd_same⟩
    rw [e2] at ha
    rcases List.mem_cons.mp ha with z | z
    · rw [z, upd_ne e3]; exact ⟨_, h1⟩
    · rw [List.mem_singleton.mp z]; exact ⟨_, upd_same⟩
section
variable {X : Cx} {W : Ent} {e o a b : Expr} {es : List Expr} {de db dA : DE} {da : DA} {pos p p1 p2 p3 p4 p5 p6 apos cpos tpos : Pos} {x y : Str} {i : Nat}
/-- bag["left"], .. -/
def dBG (i : Nat) (k : BK) : DE := fun ρ Q => ∃ s gs l t f, ρ[i]? = some s ∧ s.cell = some (bgC gs l t f) ∧ Q (.int (k.get l t f)) ρ
theorem de_bg {j} (k : BK) (hu : X.A.units + 1 < cLine) (ha : PE X a (tVar i)) {z : Str} (hz : z = k.nm := by rfl) (hs : NoSl (.Constant (.str z) j p2) := by intro _ _; rfl) : PDE X W (.Subscript a (.Constant (.str z) j p2) pos) (dBG i k) := by
  refine ⟨_, pe_dget hu ha pe_str hs, fun F H σ τ ρ ε Q kk R h q => ?_⟩
  obtain ⟨s, gs, l, t, f, hs, hc, h⟩ := h
  obtain ⟨pp, qq, g1, g2, g3, g4, _⟩ := bag_here R hs hc
  subst hz
  exact ⟨_, g1, pp, .int (k.get l t f), rfl, .inl ⟨_, .inr k.nm, .inl g3, rfl, (bg_val qq l t f k).symm⟩, q F H ρ _ _ R (Same.refl _) (.int _) h⟩
/-- bag["left"] = e, .. -/
def dBS (i : Nat) (k : BK) (de : DE) : DS := fun D ρ => de ρ fun d ρ1 => ∃ s gs l t f, ρ1[i]? = some s ∧ s.cell = some (bgC gs l t f) ∧ (match d with
  | .int z => D.nx (ρ1.set i (s.put (k.set gs l t f z)))
  | _ => False)
theorem put_dput {H : Hp} {pp qq : Addr} {l t f z : Int} {k : BK} (h : H pp = some (.dK (bgKV qq l t f))) : DPut H pp (.str k.nm) (.int z) (upd H pp (.dK (putK (bgKV qq l t f) (.inr k.nm) (.int z)))) :=
  .inl ⟨_, .inr k.nm, h, rfl, by rw [sizeLine_eq]; show 4 < 16777216; decide, rfl⟩
theorem ds_bs {j} (k : BK) (hu : X.A.units + 1 < cLine) (ha : PE X a (tVar i)) (hv : PDE X W e de) {z : Str} (hz : z = k.nm := by rfl)
    (hs : swapsWith e (some (.Subscript a (.Constant (.str z) j p2) p1)) pos.line X.env = pure false := by rfl) : PDS X W (.Assign [.Subscript a (.Constant (.str z) j p2) p1] e pos) (dBS i k de) := by
  obtain ⟨tv, b1, b2⟩ := hv.ex
  refine ⟨_, ps_dput hu ha pe_str b1 hs, fun F H σ ρ D DD R L h => b2 F H σ [] ρ [] _ _ R h fun F1 H1 ρ1 v d R1 s1 r1 h1 => ?_⟩
  obtain ⟨s, gs, l, t, f, hs, hc, h1⟩ := h1
  obtain ⟨pp, qq, g1, g2, g3, g4, mk, _⟩ := bag_here R1 hs hc
  subst hz
  split at h1
  · next w =>
    cases r1.int_of
    refine ⟨_, g1, pp, _, rfl, put_dput g3, ?_⟩
    rw [bg_put]
    cases k
    · exact L.nx F1 _ σ _ (mk _ _ _) s1 h1
    · exact L.nx F1 _ σ _ (mk _ _ _) s1 h1
    · exact L.nx F1 _ σ _ (mk _ _ _) s1 h1
  · exact h1.elim
/-- bag["turn"] += e, .. -/
def dBA (i : Nat) (k : BK) (n : Int) : DS := fun D ρ => ∃ s gs l t f, ρ[i]? = some s ∧ s.cell = some (bgC gs l t f) ∧ D.nx (ρ.set i (s.put (k.set gs l t f (k.get l t f + n))))
theorem ds_ba {j j2 : Nat} {n : Int} (k : BK) (hu : X.A.units + 1 < cLine) (ha : PE X a (tVar i)) {z : Str} (hz : z = k.nm := by rfl)
    (hx : ∀ ov iv new, augStore (.Constant (.str z) j p2) ov iv new = (do holding [new, ov, iv] (setItem ov iv new); release [new, ov, iv] []; pure .next) := by intro _ _ _; rfl) : PDS X W (.AugAssign (.Subscript a (.Constant (.str z) j p2) tpos) .Add (.Constant (.int n) j2 p3) pos) (dBA i k n) := by
  refine ⟨_, ps_daug hu ha pe_str pe_int in_add hx, fun F H σ ρ D DD R L h => ?_⟩
  obtain ⟨s, gs, l, t, f, hs, hc, h1⟩ := h
  obtain ⟨pp, qq, g1, g2, g3, g4, mk, _⟩ := bag_here R hs hc
  subst hz
  refine ⟨_, g1, pp, .int (k.get l t f), rfl, .inl ⟨_, .inr k.nm, .inl g3, rfl, (bg_val qq l t f k).symm⟩, _, _, rfl, rfl, _, put_dput g3, ?_⟩
  rw [bg_put]
  cases k
  · exact L.nx F _ σ _ (mk _ _ _) (Same.refl _) h1
  · exact L.nx F _ σ _ (mk _ _ _) (Same.refl _) h1
  · exact L.nx F _ σ _ (mk _ _ _) (Same.refl _) h1
/-- len(bag["great"]) -/
def dBLen (i : Nat) : DE := fun ρ Q => ∃ s gs l t f, ρ[i]? = some s ∧ s.cell = some (bgC gs l t f) ∧ Q (.int gs.length) ρ
theorem de_blen {j} (hu : X.A.units + 1 < cLine) (hg : Gl X "len") (hm : X.mg "len" = none) (ha : PE X a (tVar i)) (hs : NoSl (.Constant (.str "great") j p2) := by intro _ _; rfl)
    (he : starEach [.Subscript a (.Constant (.str "great") j p2) p1] X.env = (false, eval (.Subscript a (.Constant (.str "great") j p2) p1) X.env) :: starEach [] X.env := by rfl) : PDE X W (.Call (.Name "len" p) [.Subscript a (.Constant (.str "great") j p2) p1] [] pos) (dBLen i) := by
  refine ⟨_, pe_callB call_len hg hm PySem.boot_len (pa_cons (pe_dget hu ha pe_str hs) pa_nil he) (by decide) (by decide) he (by rfl), fun F H σ τ ρ ε Q k R h q => ?_⟩
  obtain ⟨s, gs, l, t, f, hs, hc, h⟩ := h
  obtain ⟨pp, qq, g1, g2, g3, g4, _⟩ := bag_here R hs hc
  refine ⟨_, g1, pp, .ref qq, rfl, .inl ⟨_, .inr "great", .inl g3, rfl, (bg_great qq l t f).symm⟩, ?_⟩
  exact ⟨_, _, rfl, .inl ⟨_, SqL.of g4, by rw [List.length_map]⟩, q F H ρ _ _ R (Same.refl _) (.int _) h⟩
/-- bag["great"].pop(0) -/
def dBPop (i : Nat) : DE := fun ρ Q => ∃ s g gs l t f, ρ[i]? = some s ∧ s.cell = some (bgC (g :: gs) l t f) ∧ Q (.int g) (ρ.set i (s.put (bgC gs l t f)))
theorem de_bpop {j j' : Nat} (hu : X.A.units + 1 < cLine) (ha : PE X a (tVar i)) (hn : NoSl (.Constant (.str "great") j p2) := by intro _ _; rfl)
    (hbase : attributeBase (.Subscript a (.Constant (.str "great") j p2) p1) "pop" X.env (eval (.Subscript a (.Constant (.str "great") j p2) p1) X.env) = eval (.Subscript a (.Constant (.str "great") j p2) p1) X.env := by rfl)
    (hfew : ((backTo cpos (starEach [.Constant (.int 0) j' p3] X.env)).all (fun x => !x.1) && (backToKw cpos (keywordEach [] X.env)).all (fun x => x.1.isSome)
      && decide (([.Constant (.int 0) j' p3] : List Expr).length + ([] : List Keyword).length + (if ([] : List Keyword).isEmpty then 0 else 1) < 30)) = true := by rfl)
    (hline : (apos.endLine == cpos.line) = true := by rfl) (hs : starEach [.Constant (.int 0) j' p3] X.env = (false, eval (.Constant (.int 0) j' p3) X.env) :: starEach [] X.env := by rfl) (hplain : (backTo cpos (starEach [] X.env)).any (·.1) = false := by rfl) :
    PDE X W (.Call (.Attribute (.Subscript a (.Constant (.str "great") j p2) p1) "pop" apos) [.Constant (.int 0) j' p3] [] cpos) (dBPop i) := by
  refine ⟨_, pe_bm PySem.F.plainAttrs_list PySem.F.slot_list_pop PySem.F.type_list_pop mt_popAt (pe_dget hu ha pe_str hn) (pa_cons pe_int pa_nil hs) hbase hfew hline hs hplain, fun F H σ τ ρ ε Q kk R h q => ?_⟩
  obtain ⟨s, g, gs, l, t, f, hs, hc, h⟩ := h
  obtain ⟨pp, qq, g1, g2, g3, g4, _, mk⟩ := bag_here R hs hc
  refine ⟨_, g1, pp, .ref qq, rfl, .inl ⟨_, .inr "great", .inl g3, rfl, (bg_great qq l t f).symm⟩, .inl ⟨rfl, _, SqL.of g4⟩, ?_⟩
  exact ⟨qq, _, 0, 0, .int g, rfl, rfl, g4, by omega, by omega, seq0, rfl, q F _ _ _ _ (mk gs) (Same.refl _) (.int g) h⟩
/-- the bag made -/
def dBagN (ig jf : Nat) : DN := fun ρ Q => ∃ (gs : List Int) (f : Int), ρ[ig]? = some (.ow (.l (gs.map PyData.int))) ∧ ρ[jf]? = some (.fz (.int f)) ∧ Q (bgC gs 0 0 f) (ρ.set ig .no)
theorem bag_merge (q : Addr) (f : Int) : mergeK [] [((.inr "great" : Key), V.ref q), (.inr "left", .int 0), (.inr "turn", .int 0), (.inr "fold", .int f)] = bgKV q 0 0 f := by
  simp [mergeK, putK, valV, bgKV, List.find?, sn_great_left, sn_great_turn, sn_great_fold, sn_left_great, sn_left_turn, sn_left_fold, sn_turn_great, sn_turn_left, sn_turn_fold, sn_fold_great, sn_fold_left, sn_fold_turn]
theorem dn_bag {ig jf j1 j2 j3 j4 j5 j6 : Nat} {q1 q2 q3 q4 q5 q6 : Pos} (hg : PE X a (tVar ig)) (hf : PE X b (tVar jf)) : PDN X W (.Dict [some (.Constant (.str "great") j1 q1), some (.Constant (.str "left") j2 q2), some (.Constant (.str "turn") j3 q3), some (.Constant (.str "fold") j4 q4)] [a, .Constant (.int 0) j5 q5, .Constant (.int 0) j6 q6, b] pos) (dBagN ig jf) := by
  refine ⟨_, pe_disp (pps_cons pe_str hg (pps_cons pe_str pe_int (pps_cons pe_str pe_int (pps_cons pe_str hf pps_nil)))) rfl rfl (by simp) (by show 4 ≤ 15; omega), fun F H σ τ ρ ε Q k R h q => fun np hn => ?_⟩
  obtain ⟨gs, f, hs, hfz, h⟩ := h
  obtain ⟨q0, xs0, k1, k2, k3, kf, mk⟩ := cell_upd R hs rfl
  cases k3.ints_of
  obtain ⟨vf, hv1, hv2⟩ := R.var hfz
  cases hv2.int_of
  refine ⟨_, k1, _, hv1, ?_⟩
  refine ⟨upd_same, [((.inr "great" : Key), V.ref q0), (.inr "left", .int 0), (.inr "turn", .int 0), (.inr "fold", .int f)], rfl, by show 4 ≤ 15; omega, ?_⟩
  rw [bag_merge]
  have eup : upd (upd H np (.dK [])) np (.dK (bgKV q0 0 0 f)) = upd H np (.dK (bgKV q0 0 0 f)) := by
    funext a
    by_cases z : a = np
    · rw [z, upd_same, upd_same]
    · rw [upd_ne z, upd_ne z, upd_ne z]
  rw [eup]
  have nr : np ≠ q0 := fun z => by rw [z, k2] at hn; cases hn
  have ex : Same H (upd H np (.dK (bgKV q0 0 0 f))) := fun b u z => by rw [upd_ne (ne_of_none z hn)]; exact z
  have R2 := (R.takeOut hs k1).toName
  have hlen : (ρ.set ig Slot.no).length = σ.length := by rw [List.length_set]; exact R.len.symm
  have hat : (ρ.set ig Slot.no ++ [Slot.ow (.l (gs.map PyData.int))])[σ.length]? = some (Slot.ow (.l (gs.map PyData.int))) := by
    rw [List.getElem?_append_right (by rw [hlen]; exact Nat.le_refl _), hlen, Nat.sub_self]; rfl
  obtain ⟨v, fp, w1, ⟨q1, ys, rfl, w2, w3, w4⟩, w5, mk2⟩ := R2.cell hat rfl
  have w1' : q1 = q0 := by
    rw [List.getElem?_append_right (Nat.le_refl _), Nat.sub_self] at w1
    cases w1; rfl
  subst w1'
  have R3 := mk2 (.ext (bgY np gs 0 0 f)) (upd H np (.dK (bgKV q1 0 0 f))) [np, q1] (fun a o n z => ex a o z) (fun a ha => by
      rcases List.mem_cons.mp ha with z | z
      · rw [z]; exact .inr hn
      · rw [w2]; exact .inl z) (fun a ha => by
      rw [w2] at ha
      rw [List.mem_singleton.mp ha]
      exact ⟨_, ex _ _ k2⟩) ⟨q1, rfl, rfl, nr, upd_same, ex _ _ k2⟩
  have hset : ∀ t : Slot, (ρ.set ig Slot.no ++ [Slot.ow (.l (gs.map PyData.int))]).set σ.length t = ρ.set ig Slot.no ++ [t] := fun t => by
    rw [List.set_append_right _ _ (by rw [hlen]; exact Nat.le_refl _), hlen, Nat.sub_self]; rfl
  rw [hset] at R3
  have R4 := R3.revalue (i := σ.length) (c := .ext (bgY np gs 0 0 f)) (c' := bgC gs 0 0 f) (v' := .ref np) (by
    rw [List.getElem?_append_right (by rw [hlen]; exact Nat.le_refl _), hlen, Nat.sub_self]; rfl) (fun v fp _ hc => by
    obtain ⟨q, e1, e2, e3, e4, e5⟩ := hc
    exact ⟨np, q, rfl, e2, e3, e4, e5⟩)
  have hσ : (σ ++ [some (V.ref q1)]).set σ.length (some (V.ref np)) = σ ++ [some (V.ref np)] := by
    rw [List.set_append_right _ _ (Nat.le_refl _), Nat.sub_self]; rfl
  have hρ : (ρ.set ig Slot.no ++ [(Slot.ow (.l (gs.map PyData.int))).put (.ext (bgY np gs 0 0 f))]).set σ.length (.ow (bgC gs 0 0 f)) = ρ.set ig Slot.no ++ [.ow (bgC gs 0 0 f)] := by
    rw [List.set_append_right _ _ (by rw [hlen]; exact Nat.le_refl _), hlen, Nat.sub_self]; rfl
  rw [hσ, hρ] at R4
  exact q F _ _ _ _ (R4.ofName (fun c z => by cases z)) (Same.refl _) h
end

/-! RD38: two fresh things side by side; a def called by its names in the reverse order; the bag's injectivity -/
open PySem L2
theorem bgC_inj {gs ks : List Int} {l t f l' t' f' : Int} : bgC gs l t f = bgC ks l' t' f' ↔ gs = ks ∧ l = l' ∧ t = t' ∧ f = f' := by
  refine ⟨fun h => ?_, fun ⟨a, b, c, d⟩ => by rw [a, b, c, d]⟩
  have h1 : bgX gs l t f = bgX ks l' t' f' := Cell.ext.inj h
  have h2 : (bgX gs l t f).rel (fun _ => none) (upd (upd (fun _ => none) 1 (.lst (gs.map V.int))) 0 (.dK (bgKV 1 l t f))) (.ref 0) [0, 1] :=
    ⟨0, 1, rfl, rfl, by decide, upd_same, by rw [upd_ne (by decide)]; exact upd_same⟩
  rw [h1] at h2
  obtain ⟨p, q, e1, e2, e3, e4, e5⟩ := h2
  cases e2
  rw [upd_same] at e4
  rw [upd_ne (by decide), upd_same] at e5
  simp only [Option.some.injEq, HO.dK.injEq, bgKV, List.cons.injEq, Prod.mk.injEq, V.int.injEq, and_true, true_and] at e4
  simp only [Option.some.injEq, HO.lst.injEq] at e5
  refine ⟨?_, e4.1, e4.2.1, e4.2.2⟩
  have := congrArg (List.map fun v : V => match v with | .int i => i | _ => 0) e5
  rw [List.map_map, List.map_map] at this
  have z : ((fun v : V => match v with | .int i => i | _ => 0) ∘ V.int) = (id : Int → Int) := rfl
  rw [z, List.map_id, List.map_id] at this
  exact this
/-- a, b = two fresh things -/
def dParN (i j : Nat) (d1 d2 : DN) : DS := fun D ρ => d1 ρ fun c ρ1 => d2 ρ1 fun c' ρ2 => okSet ρ2 i = true ∧ okSet ρ2 j = true ∧ D.nx ((ρ2.set i (.ow c)).set j (.ow c'))
section
variable {X : Cx} {W : Ent} {a b : Expr} {d1 d2 : DN} {i j : Nat} {x y : Str} {px py pt pos : Pos} {kt k2 : Nat} {pt2 : Pos}
theorem ds_parN (hc : X.calm = true) (hN : X.N.Nodup) (hi : X.N[i]? = some x) (hj : X.N[j]? = some y) (hij : i ≠ j)
    (hx : X.env.scope.names.lookup x = some .local) (hy : X.env.scope.names.lookup y = some .local) (ha : PDN X W a d1) (hb : PDN X W b d2)
    (hst : starEach [a, b] X.env = (false, eval a X.env) :: starEach [b] X.env := by rfl) (hst2 : starEach [b] X.env = (false, eval b X.env) :: starEach [] X.env := by rfl)
    (hw : swappedStores [.Tuple [.Name x px, .Name y py] kt pt] (.Tuple [a, b] k2 pt2) X.env = pure (some [x, y]) := by rfl)
    (hs : swapsWithSole [.Tuple [.Name x px, .Name y py] kt pt] (.Tuple [a, b] k2 pt2) pos.line X.env = pure false := by rfl) :
    PDS X W (.Assign [.Tuple [.Name x px, .Name y py] kt pt] (.Tuple [a, b] k2 pt2) pos) (dParN i j d1 d2) := by
  obtain ⟨ta, a1, a2⟩ := ha.ex
  obtain ⟨tb, b1, b2⟩ := hb.ex
  refine ⟨_, ps_par hc hN hi hj hij hx hy (pa_cons a1 (pa_cons b1 pa_nil hst2) hst) hw hs, fun F H σ ρ D DD R L h => ?_⟩
  refine a2 F H σ [] ρ [] _ _ R h fun F1 H1 ρ1 v c R1 s1 h1 => ?_
  refine b2 F1 H1 σ _ ρ1 _ _ _ R1 h1 fun F2 H2 ρ2 w c' R2 s2 h2 => ?_
  refine ⟨v, w, rfl, ?_⟩
  have R3 := R2.setNew (okSet_lt h2.2.1) (okSet_io h2.2.1)
  have lij : i < (ρ2.set j (.ow c')).length := by rw [List.length_set]; exact okSet_lt h2.1
  have R4 := R3.setNew lij (fun c0 z => by
    rw [List.getElem?_set_ne (fun e => hij e.symm)] at z
    exact okSet_io h2.1 c0 z)
  rw [List.set_comm _ _ (fun e => hij e.symm), List.set_comm _ _ (fun e => hij e.symm)] at R4
  exact L.nx F2 H2 _ _ R4 (s1.trans s2) h2.2.2
end
/-- a, b = a datum, a fresh thing -/
def dParEN (i j : Nat) (d1 : DE) (d2 : DN) : DS := fun D ρ => d1 ρ fun d ρ1 => d2 ρ1 fun c ρ2 => okSet ρ2 i = true ∧ okSet ρ2 j = true ∧ D.nx ((ρ2.set i (.fz d)).set j (.ow c))
section
variable {X : Cx} {W : Ent} {a b : Expr} {d1 : DE} {d2 : DN} {i j : Nat} {x y : Str} {px py pt pos : Pos} {kt k2 : Nat} {pt2 : Pos}
theorem ds_parEN (hc : X.calm = true) (hN : X.N.Nodup) (hi : X.N[i]? = some x) (hj : X.N[j]? = some y) (hij : i ≠ j)
    (hx : X.env.scope.names.lookup x = some .local) (hy : X.env.scope.names.lookup y = some .local) (ha : PDE X W a d1) (hb : PDN X W b d2)
    (hst : starEach [a, b] X.env = (false, eval a X.env) :: starEach [b] X.env := by rfl) (hst2 : starEach [b] X.env = (false, eval b X.env) :: starEach [] X.env := by rfl)
    (hw : swappedStores [.Tuple [.Name x px, .Name y py] kt pt] (.Tuple [a, b] k2 pt2) X.env = pure (some [x, y]) := by rfl)
    (hs : swapsWithSole [.Tuple [.Name x px, .Name y py] kt pt] (.Tuple [a, b] k2 pt2) pos.line X.env = pure false := by rfl) :
    PDS X W (.Assign [.Tuple [.Name x px, .Name y py] kt pt] (.Tuple [a, b] k2 pt2) pos) (dParEN i j d1 d2) := by
  obtain ⟨ta, a1, a2⟩ := ha.ex
  obtain ⟨tb, b1, b2⟩ := hb.ex
  refine ⟨_, ps_par hc hN hi hj hij hx hy (pa_cons a1 (pa_cons b1 pa_nil hst2) hst) hw hs, fun F H σ ρ D DD R L h => ?_⟩
  refine a2 F H σ [] ρ [] _ _ R h fun F1 H1 ρ1 v d R1 s1 r1 h1 => ?_
  refine b2 F1 H1 σ _ ρ1 _ _ _ R1 h1 fun F2 H2 ρ2 w c' R2 s2 h2 => ?_
  refine ⟨v, w, rfl, ?_⟩
  have R3 := R2.setNew (okSet_lt h2.2.1) (okSet_io h2.2.1)
  have R4 := R3.setFz (i := i) (r1.mono s2) (fun c0 z => by
    rw [List.getElem?_set_ne (fun e => hij e.symm)] at z
    exact okSet_io h2.1 c0 z)
  rw [List.set_comm _ _ (fun e => hij e.symm), List.set_comm _ _ (fun e => hij e.symm)] at R4
  exact L.nx F2 H2 _ _ R4 (s1.trans s2) h2.2.2
end
/-! ### a def called by its names in the reverse order -/
def rvG {α : Type} (_ : List α) (ws : List α) : List α := ws.reverse
theorem Vals.rev {vs : List V} {us : List Value} (h : Vals vs us) : Vals vs.reverse us.reverse := by
  induction h with
  | nil => exact .nil
  | cons a t ih => rw [List.reverse_cons, List.reverse_cons]; exact Vals.app ih (.cons a .nil)
theorem VaG.app {F : Hp} {σ : L2.St} : ∀ {l k : AL} {vs ws : List V}, VaG F σ l vs → VaG F σ k ws → VaG F σ (l ++ k) (vs ++ ws)
  | _, _, _, _, .nil, h => h
  | _, _, _, _, .d r t, h => .d r (VaG.app t h)
  | _, _, _, _, .c e t, h => .c e (VaG.app t h)
theorem VaG.rev {F : Hp} {σ : L2.St} : ∀ {l : AL} {vs : List V}, VaG F σ l vs → VaG F σ l.reverse vs.reverse
  | _, _, .nil => .nil
  | _, _, .d r t => by rw [List.reverse_cons, List.reverse_cons]; exact VaG.app (VaG.rev t) (.d r .nil)
  | _, _, .c e t => by rw [List.reverse_cons, List.reverse_cons]; exact VaG.app (VaG.rev t) (.c e .nil)
theorem kbn_rev3 {K : PySem.W.Frag} {fd : FuncData} {p0 p1 p2 : Str} (h : ∀ a b c : Value, bindArgs fd ⟨[], [(p2, a), (p1, b), (p0, c)]⟩ = pure [(p0, c), (p1, b), (p2, a)]) : KBn K fd [p0, p1, p2] 0 [p2, p1, p0] rvG rvG :=
  ⟨fun s us ws _ h0 hl => by
    match us, ws, h0, hl with
    | [], [a, b, c], _, _ => exact .of_eq (h a b c), fun _ h2 => Vals.rev h2⟩
def CalKR (P : Program) (w : World) (K : PySem.W.Frag) (mg : Str → Option Value) (base : Heap) (x : Str) (k : Nat) (ps : List Str) (g : GSp) : Prop := ∃ (f : Addr) (fd : FuncData), FnOk P w K mg base (L2N.CX P w) k f fd ps (spOf g) ∧ mg x = some (.ref f) ∧ PySem.W.keepIn K (.ref f) = true ∧ Binds K fd ps [] ∧ KBn K fd ps 0 ps.reverse rvG rvG

/-! RD40: a list whose elements name cells by their addresses (the cells are held along); such cells absorbed by another name's slot -/
open PySem L2
abbrev Held := List (List Key × Addr × Cell)
def hlX (ds : List D) (ws : Held) : XCell where
  rel := fun F H v fp => ∃ p xs kvs fq, v = .ref p ∧ (∀ a, a ∈ fp ↔ (a = p ∨ a ∈ fq)) ∧ p ∉ fq ∧ H p = some (.lst xs) ∧ Reps F xs ds ∧ DcAt F H kvs fq ws
  loc := by
    rintro F F' H H' v fp ⟨p, xs, kvs, fq, e1, e2, n, h1, h2, h3⟩ s k
    exact ⟨p, xs, kvs, fq, e1, e2, n, by rw [k p ((e2 p).mpr (.inl rfl))]; exact h1, h2.mono s, h3.mono s fun a ha => k a ((e2 a).mpr (.inr ha))⟩
  there := by
    rintro F H v fp ⟨p, xs, kvs, fq, e1, e2, n, h1, h2, h3⟩ a m
    rcases (e2 a).mp m with e | e
    · rw [e]; exact ⟨_, h1⟩
    · exact h3.there a e
def hlC (ds : List D) (ws : Held) : Cell := .ext (hlX ds ws)
def duX (c : Cell) (ws : Held) : XCell where
  rel := fun F H v fp => ∃ fp1 kvs fq, (∀ a, a ∈ fp ↔ (a ∈ fp1 ∨ a ∈ fq)) ∧ (∀ a ∈ fp1, a ∉ fq) ∧ CellAt F H v fp1 c ∧ DcAt F H kvs fq ws
  loc := by
    rintro F F' H H' v fp ⟨fp1, kvs, fq, e2, n, h1, h2⟩ s k
    exact ⟨fp1, kvs, fq, e2, n, h1.mono s fun a ha => k a ((e2 a).mpr (.inl ha)), h2.mono s fun a ha => k a ((e2 a).mpr (.inr ha))⟩
  there := by
    rintro F H v fp ⟨fp1, kvs, fq, e2, n, h1, h2⟩ a m
    rcases (e2 a).mp m with e | e
    · exact h1.there a e
    · exact h2.there a e
def duC (c : Cell) (ws : Held) : Cell := .ext (duX c ws)
theorem du_foc {c c0 : Cell} {ws : Held} {k : List Key} {q : Addr} (h : valX ws k = some (q, c0)) : Foc (duC c ws) q c0 fun c' => duC c (dcSet k c' ws) := ⟨by
  rintro F H v fp ⟨fpc, kvs, fq, e2, n, h1, h2⟩
  obtain ⟨fp1, fp2, g1, g2, g3, g4⟩ := h2.foc h
  refine ⟨fp1, fpc ++ fp2, fun a => ?_, fun a ha m => ?_, g3, fun F' H' fp' sub' s kk d g => ?_⟩
  · rw [e2, List.mem_append, g1]
    constructor
    · rintro (w | w | w)
      · exact .inr (.inl w)
      · exact .inl w
      · exact .inr (.inr w)
    · rintro (w | w | w)
      · exact .inr (.inl w)
      · exact .inl w
      · exact .inr (.inr w)
  · rcases List.mem_append.mp m with w | w
    · exact n a w ((g1 a).mpr (.inl ha))
    · exact g2 a ha w
  · obtain ⟨fpn, n1, n2⟩ := g4 F' H' fp' sub' s (fun a ha => kk a (List.mem_append_right _ ha)) (fun a ha m => d a ha (List.mem_append_right _ m)) g
    refine ⟨fpc ++ fpn, fun a => ?_, fpc, kvs, fpn, fun a => List.mem_append, fun a ha m => ?_, h1.mono s fun a ha => kk a (List.mem_append_left _ ha), n2⟩
    · rw [List.mem_append, n1, List.mem_append]
      constructor
      · rintro (w | w | w)
        · exact .inr (.inl w)
        · exact .inl w
        · exact .inr (.inr w)
      · rintro (w | w | w)
        · exact .inr (.inl w)
        · exact .inl w
        · exact .inr (.inr w)
    · rcases (n1 a).mp m with w | w
      · exact d a w (List.mem_append_left _ ha)
      · exact n a ha ((g1 a).mpr (.inr w))⟩
theorem du_inn {c : Cell} {ws : Held} : Inn (duC c ws) c fun c' => duC c' ws := ⟨by
  rintro F H v fp ⟨fpc, kvs, fq, e2, n, h1, h2⟩
  exact ⟨fpc, fq, e2, n, h1, fun F' H' fp' sub' s kk d g => ⟨fp' ++ fq, fun a => List.mem_append, fp', kvs, fq, fun a => List.mem_append, d, g, h2.mono s kk⟩⟩⟩
/-- the cell stands at q -/
def AtAdr (c : Cell) (q : Addr) : Prop := ∀ F H v fp, CellAt F H v fp c → v = .ref q
def dHl1 (d1 : DN) (d2 : DE) : DN := fun ρ Q => d1 ρ fun c ρ1 => d2 ρ1 fun d ρ2 => ∃ q, AtAdr c q ∧ Q (hlC [.tuple [adrD q, d]] [([.inl 0], q, c)]) ρ2
def dHlApp (i : Nat) (d1 : DN) (d2 : DE) : DE := fun ρ Q => (∃ s ds ws, ρ[i]? = some s ∧ s.cell = some (hlC ds ws)) ∧ d1 ρ fun c ρ1 => d2 ρ1 fun d ρ2 => ∃ q s ds ws, AtAdr c q ∧ ρ2[i]? = some s ∧ s.cell = some (hlC ds ws) ∧ ds.length < sizeLine ∧
  Q .none (ρ2.set i (s.put (hlC (ds ++ [.tuple [adrD q, d]]) (ws ++ [([.inl ws.length], q, c)]))))
def dTake (i : Nat) : DN := fun ρ Q => ∃ c, ρ[i]? = some (.ow c) ∧ Q c (ρ.set i .no)
def dAbs (j : Nat) (dn : DN) : DE := fun ρ Q => dn ρ fun cl ρ1 => ∃ ds ws s c, cl = hlC ds ws ∧ ρ1[j]? = some s ∧ s.cell = some c ∧ Q (.list ds) (ρ1.set j (s.put (duC c ws)))
section
variable {X : Cx} {W : Ent} {a b e : Expr} {d1 dn : DN} {d2 : DE} {i j k kt : Nat} {p pos pt apos cpos : Pos} {x : Str}
theorem dn_take (h : PE X e (tVar i)) : PDN X W e (dTake i) := ⟨_, h, fun F H σ τ ρ ε Q kk R h q => by
  obtain ⟨c, hs, h⟩ := h
  obtain ⟨v, fp, g1, _⟩ := R.cellX hs rfl
  exact ⟨v, g1, q F H _ v c (R.takeOut hs g1) (Same.refl _) h⟩⟩
theorem dn_hl1 (ha : PDN X W a d1) (hb : PDE X W b d2) (hs : starEach [.Tuple [a, b] kt pt] X.env = (false, eval (.Tuple [a, b] kt pt) X.env) :: starEach [] X.env := by rfl)
    (hs1 : starEach [a, b] X.env = (false, eval a X.env) :: starEach [b] X.env := by rfl) (hs2 : starEach [b] X.env = (false, eval b X.env) :: starEach [] X.env := by rfl) : PDN X W (.List [.Tuple [a, b] kt pt] pos) (dHl1 d1 d2) := by
  obtain ⟨ta, a1, a2⟩ := ha.ex
  obtain ⟨tb, b1, b2⟩ := hb.ex
  refine ⟨_, pe_lst (pa_cons (pe_tup (pa_cons a1 (pa_cons b1 pa_nil hs2) hs1)) pa_nil hs), fun F H σ τ ρ ε Q kk R h q => ?_⟩
  refine a2 F H σ τ ρ ε _ _ R h fun F1 H1 ρ1 v c R1 s1 h1 => ?_
  refine b2 F1 H1 σ _ ρ1 _ _ _ R1 h1 fun F2 H2 ρ2 w d R2 s2 r2 h2 => ?_
  obtain ⟨qa, hq, h2⟩ := h2
  have hsz : sizeLine = 16777216 := sizeLine_eq
  refine ⟨by show 2 ≤ _; omega, fun t ht => ⟨by show 1 ≤ _; omega, fun L hL => ?_⟩⟩
  have ex := Ext.new (o := .tup [v, w]) R2.ex ht
  have R3 := R2.ext ex
  obtain ⟨fpc, c1, c2, c3, R4⟩ := R3.popCut
  have ev := hq _ _ _ _ c1
  subst ev
  have tL : t ≠ L := fun z => by rw [← z, upd_same] at hL; cases hL
  have nL : ∀ a ∈ fpc, a ≠ L := fun a m z => by
    obtain ⟨o, e⟩ := c3 a m
    rw [z, hL] at e; cases e
  refine q (upd F2 t (.tup [.ref qa, w])) _ ρ2 (.ref L) (hlC [.tuple [adrD qa, d]] [([.inl 0], qa, c)]) (R4.extNew (fpc := L :: (fpc ++ [])) ⟨Same.refl _, fun a o z => ?_, fun a o z => ?_, fun a o z => .inl z⟩ ⟨L, [.ref t], [([.inl 0], .ref qa)], fpc ++ [], rfl, fun a => List.mem_cons, fun m => ?_, upd_same, ?_, ?_⟩ fun a m => ?_) ((s1.trans s2).trans ex.fF) h2
  · have := cut_same a o z
    rw [upd_ne (ne_of_none this hL)]; exact this
  · have := R3.ex a o z
    rw [upd_ne (ne_of_none this hL)]; exact this
  · rw [List.append_nil] at m
    exact nL L m rfl
  · exact .cons (.tup upd_same (.cons (.adr qa) (.cons (r2.mono ex.fF) .nil))) .nil
  · exact .cons (c1.mono (Same.refl _) fun a m => by rw [upd_ne (nL a m)]) (fun a _ => List.not_mem_nil) .nil
  · rw [List.append_nil] at m
    rcases List.mem_cons.mp m with z | z
    · subst z
      refine ⟨R3.ex.free hL, ?_⟩
      by_cases y : a ∈ fpc
      · exact cut_in y
      · rw [cut_out y]; exact hL
    · exact ⟨c2 a z, cut_in z⟩
theorem de_absorb (ha : PDN X W a dn) : PDE X W a (dAbs j dn) := by
  obtain ⟨ta, a1, a2⟩ := ha.ex
  refine ⟨_, a1, fun F H σ τ ρ ε Q kk R h q => a2 F H σ τ ρ ε _ _ R h fun F1 H1 ρ1 v cl R1 s1 h1 => ?_⟩
  obtain ⟨ds, ws, s, c, rfl, hs, hc, h1⟩ := h1
  obtain ⟨fpc, c1, c2, c3, R2⟩ := R1.popCut
  obtain ⟨L, xs, kvs, fq, rfl, e2, n, g1, g2, g3⟩ := c1
  obtain ⟨v0, fp0, k1, k2, k3, k4, mk⟩ := R2.cellX hs hc
  have inL : L ∈ fpc := (e2 L).mpr (.inl rfl)
  have inq : ∀ a ∈ fq, a ∈ fpc := fun a m => (e2 a).mpr (.inr m)
  have cutL : cutH H1 fpc L = none := cut_in inL
  have n0 : ∀ a ∈ fp0, a ∉ fpc := fun a m w => by
    obtain ⟨o, z⟩ := k4 a m
    rw [cut_in w] at z; cases z
  have FL : F1 L = none := c2 L inL
  have sF : Same F1 (upd F1 L (.lst xs)) := fun a o z => by rw [upd_ne (ne_of_none z FL)]; exact z
  have sFH : Same (upd F1 L (.lst xs)) H1 := fun a o z => by
    by_cases y : a = L
    · rw [y, upd_same] at z; rw [y, g1]; exact z
    · rw [upd_ne y] at z; exact R1.ex a o z
  have R3 := mk (duC c ws) (upd F1 L (.lst xs)) H1 (fp0 ++ fq) sF sFH (fun a o z => by
    by_cases y : a = L
    · exact .inr (by rw [y]; exact cutL)
    · rw [upd_ne y] at z; exact .inl z) (fun a o _ z => cut_same a o z) (fun a m => by
    rcases List.mem_append.mp m with z | z
    · refine ⟨?_, .inl z⟩
      rw [upd_ne fun y => n0 a z (by rw [y]; exact inL)]
      exact k3 a z
    · refine ⟨?_, .inr (cut_in (inq a z))⟩
      rw [upd_ne fun y => n (by rw [← y]; exact z)]
      exact c2 a (inq a z)) (fun a m => by
    obtain ⟨o, z⟩ := k4 a m
    exact ⟨o, cut_same a o z⟩) ⟨fp0, kvs, fq, fun a => List.mem_append, fun a m w => n0 a m (inq a w), k2.mono sF fun a m => by rw [cut_out (n0 a m)], g3.mono sF fun a _ => rfl⟩
  exact q _ H1 _ _ _ R3 (s1.trans sF) (.lst upd_same (g2.mono sF)) h1
end

/-! RD41: list(text), text.index(sign) -/
open PySem L2
def kLstS (x : V) (H : Hp) (Q : VK) : Prop := ∃ b : Str, x = .str b ∧ b.cps.size ≤ sizeLine ∧ ∀ q, H q = none → Q (.ref q) (upd H q (.lst (b.cps.toList.map fun c => V.str ⟨#[c]⟩)))
theorem rl_listS {X : Cx} (hc : X.calm = true) (pins : List (Addr × Obj)) (s : Shared) (σ : L2.St) (H : Hp) (x : V) (v : Value) (Q : VK) (I : Inv X pins σ H s) (r : RelV x v) (h : kLstS x H Q) :
    wpAny (model X.prog X.w) X.A (call (.type "list") [v]) (EP X pins σ Q) X.xe s := by
  obtain ⟨b, rfl, hz, q⟩ := h
  obtain ⟨t, rfl⟩ := r
  refine call_list_str (I.ok.hd hc) b t (fun h' tk acc c' hk e hi => ?_) hz
  refine ⟨.ref s.heap.objs.size, upd H s.heap.objs.size (.lst (b.cps.toList.map fun c => V.str ⟨#[c]⟩)), I.laid hk (Nat.le_refl _) ⟨by rw [List.length_map, Array.length_toList]; exact hz, acc.toList, c', ?_, by rw [Array.toArray_toList]; exact e⟩, rfl, q _ (I.hok.fresh (Nat.le_refl _))⟩
  refine vals_of_idx _ _ (by rw [List.length_map, Array.length_toList, Array.length_toList]; exact hi.1) fun j u hj => ?_
  obtain ⟨c, t', hc, rfl⟩ := hi.2 j u (by rw [← Array.getElem?_toList]; exact hj)
  exact ⟨.str ⟨#[c]⟩, by rw [List.getElem?_map, Array.getElem?_toList, hc]; rfl, ⟨_, rfl⟩⟩
def dListS (de : DE) : DN := fun ρ Q => de ρ fun d ρ1 => match d with
  | .str x => x.cps.size ≤ sizeLine ∧ Q (.l (signs x)) ρ1
  | _ => False
section
variable {X : Cx} {W : Ent} {a e o : Expr} {de : DE} {da : DA} {p pos apos cpos : Pos}
theorem dn_listS (hc : X.calm = true) (hg : Gl X "list") (hm : X.mg "list" = none) (ha : PDE X W a de) (na : starEach [a] X.env = (false, eval a X.env) :: starEach [] X.env := by rfl) : PDN X W (.Call (.Name "list" p) [a] [] pos) (dListS de) := by
  obtain ⟨ta, a1, a2⟩ := ha.ex
  refine ⟨_, pe_callTy (call_r1 (rl_listS hc)) hg hm (by decide +kernel) (pa_cons a1 pa_nil na) (he := na), fun F H σ τ ρ ε Q kk R h q => a2 F H σ τ ρ ε _ _ R h fun F1 H1 ρ1 v d R1 s1 r1 h1 => ?_⟩
  split at h1
  · next x =>
    cases r1.str_of
    refine ⟨x, rfl, h1.1, fun l hl => q F1 _ ρ1 _ (.l (signs x)) (R1.new hl ⟨l, _, rfl, rfl, upd_same, ?_⟩) s1 h1.2⟩
    unfold signs
    generalize x.cps.toList = cs
    induction cs with
    | nil => exact .nil
    | cons c cs ih => exact .cons (.str _) ih
  · exact h1.elim
def gSIndex : D → GA := fun d ds Q => match d, ds with
  | .str a, [.str b] => ∃ i rest, Builtin.Str.occurrences a b 0 a.length 1 = i :: rest ∧ Q (.int (i : Nat))
  | _, _ => False
theorem md_sindex : MtD (fun x xs H Q => ∃ a b i rest, x = .str a ∧ xs = [.str b] ∧ Builtin.Str.occurrences a b 0 a.length 1 = i :: rest ∧ Q (.int (i : Nat)) H) gSIndex := by
  intro F H x d xs ds Q k s rx rxs h q
  unfold gSIndex at h
  split at h
  · next a b =>
    obtain ⟨i, rest, h1, h2⟩ := h
    cases rx.str_of
    obtain ⟨v, rfl, r1⟩ := reps1 rxs
    cases r1.str_of
    exact ⟨a, b, i, rest, rfl, rfl, h1, ext_here s (.int _) h2 q⟩
  · exact h.elim
theorem de_sindex (ho : PDE X W o de) (ha : PDA X W [e] da)
    (hbase : attributeBase o "index" X.env (eval o X.env) = eval o X.env := by rfl) (hline : (apos.endLine == cpos.line) = true := by rfl) (hs : starEach [e] X.env = (false, eval e X.env) :: starEach [] X.env := by rfl)
    (hfew : ((backTo cpos (starEach [e] X.env)).all (fun x => !x.1) && (backToKw cpos (keywordEach [] X.env)).all (fun x => x.1.isSome) && decide ([e].length + ([] : List Keyword).length + (if ([] : List Keyword).isEmpty then 0 else 1) < 30)) = true := by rfl) : PDE X W (.Call (.Attribute o "index" apos) [e] [] cpos) (dMtT "str" gSIndex de da) :=
  de_bm PySem.F.plainAttrs_str PySem.F.slot_str_index PySem.F.type_str_index mt_sindex md_sindex ho ha hbase hfew hline hs (by rfl)
end
/-! found.append((a fresh thing, e)) -/
section
variable {X : Cx} {W : Ent} {a b o : Expr} {d1 : DN} {d2 : DE} {i kt : Nat} {apos cpos pt : Pos}
theorem de_hlapp (hy : PE X o (tVar i)) (ha : PDN X W a d1) (hb : PDE X W b d2) (hs : starEach [.Tuple [a, b] kt pt] X.env = (false, eval (.Tuple [a, b] kt pt) X.env) :: starEach [] X.env := by rfl)
    (hs1 : starEach [a, b] X.env = (false, eval a X.env) :: starEach [b] X.env := by rfl) (hs2 : starEach [b] X.env = (false, eval b X.env) :: starEach [] X.env := by rfl)
    (hbase : attributeBase o "append" X.env (eval o X.env) = eval o X.env := by rfl)
    (hfew : ((backTo cpos (starEach [.Tuple [a, b] kt pt] X.env)).all (fun x => !x.1) && (backToKw cpos (keywordEach [] X.env)).all (fun x => x.1.isSome)
      && decide (([.Tuple [a, b] kt pt] : List Expr).length + ([] : List Keyword).length + (if ([] : List Keyword).isEmpty then 0 else 1) < 30)) = true := by rfl)
    (hline : (apos.endLine == cpos.line) = true := by rfl) (hplain : (backTo cpos (starEach [] X.env)).any (·.1) = false := by rfl) :
    PDE X W (.Call (.Attribute o "append" apos) [.Tuple [a, b] kt pt] [] cpos) (dHlApp i d1 d2) := by
  obtain ⟨ta, a1, a2⟩ := ha.ex
  obtain ⟨tb, b1, b2⟩ := hb.ex
  refine ⟨_, pe_bm PySem.F.plainAttrs_list PySem.F.slot_list_append PySem.F.type_list_append mt_append hy (pa_cons (pe_tup (pa_cons a1 (pa_cons b1 pa_nil hs2) hs1)) pa_nil hs) hbase hfew hline hs hplain, fun F H σ τ ρ ε Q kk R h q => ?_⟩
  obtain ⟨⟨s0, ds0, ws0, hs0, hc0⟩, h⟩ := h
  obtain ⟨v0, fp0', g1, ⟨L, xs0, kvs0, fq0, rfl, _, _, g2, _⟩, _⟩ := R.cellX hs0 hc0
  refine ⟨_, g1, .inl ⟨rfl, xs0, SqL.of g2⟩, ?_⟩
  refine a2 F H σ τ ρ ε _ _ R h fun F1 H1 ρ1 v c R1 s1 h1 => ?_
  refine b2 F1 H1 σ _ ρ1 _ _ _ R1 h1 fun F2 H2 ρ2 w d R2 s2 r2 h2 => ?_
  obtain ⟨qa, s, ds, ws, hq, hsl, hcl, hlen, h2⟩ := h2
  have hsz : sizeLine = 16777216 := sizeLine_eq
  refine ⟨by show 2 ≤ _; omega, fun t ht => ?_⟩
  have ex := Ext.new (o := .tup [v, w]) R2.ex ht
  have R3 := R2.ext ex
  obtain ⟨fpc, c1, c2, c3, R4⟩ := R3.popCut
  have ev := hq _ _ _ _ c1
  subst ev
  obtain ⟨v1, fp0, k1, ⟨L', xs, kvs, fq, rfl, e2, n, hL, hx, hd⟩, k3, k4, mk⟩ := R4.cellX hsl hcl
  rw [g1] at k1
  cases k1
  have inL : L ∈ fp0 := (e2 L).mpr (.inl rfl)
  have inq : ∀ a ∈ fq, a ∈ fp0 := fun a m => (e2 a).mpr (.inr m)
  have n0 : ∀ a ∈ fp0, a ∉ fpc := fun a m z => by
    obtain ⟨o', y⟩ := k4 a m
    rw [cut_in z] at y; cases y
  have nL : ∀ a ∈ fpc, a ≠ L := fun a m z => n0 L inL (z ▸ m)
  have hL3 := cut_same _ _ hL
  refine ⟨L, xs, .ref t, rfl, rfl, hL3, by rw [hx.length]; exact hlen, ?_⟩
  have dq : DcAt (upd F2 t (.tup [.ref qa, w])) (upd (upd H2 t (.tup [.ref qa, w])) L (.lst (xs ++ [.ref t]))) kvs fq ws := hd.mono (Same.refl _) fun a m => by
    rw [upd_ne (show a ≠ L from fun z => n (z ▸ m)), cut_out (n0 a (inq a m))]
  have cq := c1.mono (H' := upd (upd H2 t (.tup [.ref qa, w])) L (.lst (xs ++ [.ref t]))) (Same.refl _) fun a m => by rw [upd_ne (nL a m)]
  obtain ⟨fr, f1, f2⟩ := DcAt.snoc (k := [.inl ws.length]) cq dq fun a m z => n0 a (inq a z) m
  refine q (upd F2 t (.tup [.ref qa, w])) _ _ .non .none (mk (hlC (ds ++ [.tuple [adrD qa, d]]) (ws ++ [([.inl ws.length], qa, c)])) (upd F2 t (.tup [.ref qa, w])) _ (L :: fr) (Same.refl _) (fun a o' z => ?_) (fun a o' z => .inl z) (fun a o' m z => ?_) (fun a m => ?_) (fun a m => ?_) ⟨L, xs ++ [.ref t], _, fr, rfl, fun a => List.mem_cons, fun m => ?_, upd_same, ?_, f2⟩) ((s1.trans s2).trans ex.fF) .non h2
  · rw [upd_ne (show a ≠ L from fun y => by rw [y, k3 L inL] at z; cases z)]
    exact R3.ex a o' z
  · rw [upd_ne (show a ≠ L from fun y => m (by rw [y]; exact inL))]
    exact cut_same a o' z
  · rcases List.mem_cons.mp m with z | z
    · rw [z]; exact ⟨k3 L inL, .inl inL⟩
    · rcases (f1 a).mp z with y | y
      · exact ⟨k3 a (inq a y), .inl (inq a y)⟩
      · exact ⟨c2 a y, .inr (cut_in y)⟩
  · by_cases y : a = L
    · rw [y]; exact ⟨_, upd_same⟩
    · obtain ⟨o', z⟩ := k4 a m
      exact ⟨o', by rw [upd_ne y]; exact cut_same a o' z⟩
  · rcases (f1 L).mp m with y | y
    · exact n y
    · exact nL L y rfl
  · exact hx.append (.cons (.tup upd_same (.cons (.adr qa) (.cons (r2.mono ex.fF) .nil))) .nil)
end
/-! xs.pop(i) -/
def lPopAt : List D → List D → (D → List D → Prop) → Prop := fun es ds Q => match ds with
  | [.int i] => (-(2 ^ 63) ≤ i ∧ i < 2 ^ 63) ∧ match seqIndex? i es.length with
    | some j => match es[j]? with
      | some z => Q z (es.eraseIdx j)
      | none => False
    | none => False
  | _ => False
theorem lm_popAtD : LM rPopAt lPopAt := lm_popAt
theorem popAt_ok {es : List D} {i : Int} {Q : D → List D → Prop} (h0 : 0 ≤ i) (h1 : i < es.length) (h2 : es.length < 2 ^ 62) (h : ∀ z, es[i.toNat]? = some z → Q z (es.eraseIdx i.toNat)) : lPopAt es [.int i] Q := by
  obtain ⟨k, rfl⟩ : ∃ k : Nat, i = k := ⟨i.toNat, by omega⟩
  unfold lPopAt
  refine ⟨⟨by omega, by omega⟩, ?_⟩
  have hk : k < es.length := by omega
  have e : seqIndex? (k : Int) es.length = some k := (ixN_seq (ixN_nat hk)).1
  rw [e]
  have e2 : es[k]? = some es[k] := List.getElem?_eq_getElem hk
  show (match es[k]? with
    | some z => Q z (es.eraseIdx k)
    | none => False)
  rw [e2]
  exact h _ e2
/-! a tuple and a tuple -/
def gAddT : G2 := fun d e Q => match d, e with
  | .tuple xs, .tuple ys => (xs.isEmpty = false ∧ ys.isEmpty = false) ∧ xs.length + ys.length ≤ sizeLine ∧ Q (.tuple (xs ++ ys))
  | _, _ => False
theorem od_addT {K : PySem.W.Frag} : OpD (rCatT K) gAddT := by
  intro F H x y d e Q k s rx ry h q
  unfold gAddT at h
  split at h
  · next xs ys =>
    obtain ⟨⟨h1, h2⟩, h3, h4⟩ := h
    obtain ⟨a, vs, rfl, e1, r1⟩ := rep_tupH s rx
    obtain ⟨b, ws, rfl, e2, r2⟩ := rep_tupH s ry
    have n1 : vs ≠ [] := fun z => by
      subst z
      cases r1
      cases h1
    have n2 : ws ≠ [] := fun z => by
      subst z
      cases r2
      cases h2
    exact ⟨a, b, vs, ws, rfl, rfl, SqT.of e1, SqT.of e2, n1, by rw [r1.length, r2.length]; exact h3, fun z => absurd z n2, fun _ => ext_tup s (r1.append r2) h4 q⟩
  · exact h.elim
theorem de_addT {X : Cx} {W : Ent} {a b : Expr} {da db : DE} {pos : Pos} (ha : PDE X W a da) (hb : PDE X W b db) : PDE X W (.BinOp a .Add b pos) (dOp gAddT da db) := de_op op_catT od_addT ha hb

/-! RD42: == of dicts with tuples of texts as keys -/
namespace PySem.W
open Lean Elab Tactic Meta PySem PySem.Calls PyProof.Rows PyProof.V PySem.Spec
section
variable {prog : Program} {w : World} {K : Type} [DecidableEq K] {knd : HeapKind prog w K} {A : Around} {E : Value → Shared → Prop} {s : Shared}
inductive HitsH {K : Type} [DecidableEq K] (prog : Program) (w : World) (A : Around) (s : Shared) (xb : List (K × Addr × Value)) : List (K × Addr × Value) → Bool → Prop
  | nil : HitsH prog w A s xb [] true
  | miss {k : K} {p : Addr × Value} {r : List (K × Addr × Value)} : (∀ (j : Nat) q, xb[j]? ≠ some (k, q)) → HitsH prog w A s xb ((k, p) :: r) false
  | hit {k : K} {p q : Addr × Value} {r : List (K × Addr × Value)} {e b : Bool} {j : Nat} : xb[j]? = some (k, q) → SeqAt.EqP prog w A s p.2 q.2 e → HitsH prog w A s xb r b → HitsH prog w A s xb ((k, p) :: r) (e && b)
theorem samePairsH {nm : String} {a b : Addr} {xa xb : List (K × Addr × Value)} {r : Bool} {Q : Bool → Shared → Prop} (ha : (a == sysModules) = false) (hb : (b == sysModules) = false) (hu : knd.room A)
    (da : s.heap.DictOfH knd a xa) (db : s.heap.DictOfH knd b xb) (hits : xa.length = xb.length → HitsH prog w A s xb xa r) (h : Q (xa.length == xb.length && r) s) :
    wpAny (model prog w) A (Builtin.Dict.samePairs nm a b) Q E s := by
  obtain ⟨oa, es, ep, hoa, _, hda, hea, hia, hna⟩ := da
  obtain ⟨ob, es', ep', hob, _, hdb, heb, hib, hnb⟩ := db
  have hla : xa.length = es.size := (size_of_entries hea).symm
  have hlb : xb.length = es'.size := (size_of_entries heb).symm
  rw [hla, hlb] at h
  unfold Builtin.Dict.samePairs Builtin.Dict.showsAll
  rw [if_neg (show ¬ (a == sysModules) = true by rw [ha]; exact Bool.false_ne_true), if_neg (show ¬ (b == sysModules) = true by rw [hb]; exact Bool.false_ne_true)]
  refine wpAny_bind (wpAny_pure (wpAny_bind (wpAny_pure ?_)))
  refine wpAny_bind (wpAny_dictEntries hoa hda ?_)
  dsimp only
  refine wpAny_bind (wpAny_dictEntries hob hdb ?_)
  by_cases hsz : es.size = es'.size
  case neg =>
    rw [if_pos (by simpa using hsz)]
    have hbf : (es.size == es'.size) = false := by simpa using hsz
    rw [hbf, Bool.false_and] at h
    exact wpAny_bind (wpAny_rule (wpAny_pure h))
  case pos =>
    have h' : Q r s := by simpa [hsz] using h
    have hits' := hits (by rw [hla, hlb]; exact hsz)
    rw [if_neg (by rw [hsz]; simp)]
    refine wpAny_bind (wpAny_dictEpoch hoa hda ?_)
    refine wpAny_bind ?_
    rw [Std.Legacy.Range.forIn_eq_forIn_range']
    simp only [Std.Legacy.Range.size, Nat.sub_zero, Nat.add_sub_cancel, Nat.div_one]
    refine wpAny_forIn_list _
      (fun rest q s' => s' = s ∧ q = (none, ()) ∧ ∃ i, rest = List.range' i (es.size - i) ∧ i ≤ es.size ∧ HitsH prog w A s xb (xa.drop i) r)
      _ ?_ ?_ _ _ ⟨rfl, rfl, 0, by simp, Nat.zero_le _, hits'⟩
    · rintro x rest q s' ⟨rfl, rfl, i, hr, hi, hpre⟩
      have hlt : i < es.size := by
        rcases Nat.lt_or_ge i es.size with h | h
        · exact h
        · rw [Nat.sub_eq_zero_of_le h] at hr; simp at hr
      obtain ⟨rfl, hrest⟩ : x = i ∧ rest = List.range' (i + 1) (es.size - (i + 1)) := by
        have e : es.size - i = (es.size - (i + 1)) + 1 := by omega
        rw [e, List.range'_succ] at hr
        injection hr with h1 h2
        exact ⟨h1, h2⟩
      refine wpAny_bind (wpAny_dictEntries hoa hda ?_)
      have hlt' : x < xa.length := by rw [hla]; exact hlt
      obtain ⟨k, p, hkp⟩ : ∃ k p, xa[x] = (k, p) := ⟨_, _, rfl⟩
      have hxk : xa[x]? = some (k, p) := by rw [List.getElem?_eq_getElem hlt', hkp]
      have hdrop : xa.drop x = (k, p) :: xa.drop (x + 1) := by rw [← hkp]; exact List.drop_eq_getElem_cons hlt'
      have hex : es[x]? = some (entryOfKey knd (k, p)) := by rw [entry_at hea x, hxk]; rfl
      rw [hex]
      have hkey : knd.is s'.heap k p.1 := hia (k, p) (List.mem_of_getElem? hxk)
      rw [hdrop] at hpre
      show wpAny _ _ (holding [Value.ref p.1, p.2] _ >>= _) _ _ _
      refine wpAny_bind (wpAny_holding (wpAny_bind (wpAny_dictFind_heap hu hkey hob hdb heb hib hnb (fun hno => ?_) (fun j q hj => ?_))))
      · cases hpre with
        | miss hn =>
          refine wpAny_pure ?_
          show wpAny _ _ (if (!false) = true then _ else _) _ _ _
          rw [if_pos (by decide)]
          exact wpAny_pure (wpAny_pure h')
        | hit hy _ _ => exact absurd hy (hno _ _)
      · refine wpAny_bind (wpAny_dictEntries hob hdb ?_)
        have hej : es'[j]? = some (entryOfKey knd (k, q)) := by rw [entry_at heb j, hj]; rfl
        rw [hej]
        generalize hrr0 : (k, p) :: xa.drop (x + 1) = L at hpre
        cases hpre with
        | nil => cases hrr0
        | miss hn =>
          cases hrr0
          exact absurd hj (hn _ _)
        | @hit k' p' q' r' e b' j' hy he hrr =>
          cases hrr0
          have eq : q' = q := by
            have h1 : j' < xb.length := (List.getElem?_eq_some_iff.mp hy).1
            have h2 : j < xb.length := (List.getElem?_eq_some_iff.mp hj).1
            have e1 := (List.getElem?_eq_some_iff.mp hy).2
            have e2 := (List.getElem?_eq_some_iff.mp hj).2
            have ejj : j' = j := by
              rw [List.nodup_iff_pairwise_ne, List.pairwise_map, List.pairwise_iff_getElem] at hnb
              rcases Nat.lt_trichotomy j' j with z | z | z
              · exact absurd (by rw [e1, e2]) (hnb _ _ h1 h2 z)
              · exact z
              · exact absurd (by rw [e1, e2]) (hnb _ _ h2 h1 z)
            subst ejj
            rw [hy] at hj
            exact (Prod.mk.inj (Option.some.inj hj)).2
          subst eq
          refine wpAny_holding (he _ _ ?_)
          cases e with
          | false =>
            show wpAny _ _ (if (!false) = true then _ else _) _ _ _
            rw [if_pos (by decide)]
            exact wpAny_pure (wpAny_pure h')
          | true =>
            show wpAny _ _ (if (!true) = true then _ else _) _ _ _
            rw [if_neg (by decide)]
            refine wpAny_bind (wpAny_dictEpoch hoa hda ?_)
            rw [if_neg (by simp)]
            refine wpAny_pure ⟨rfl, rfl, x + 1, hrest, hlt, ?_⟩
            rw [Bool.true_and]
            exact hrr
    · rintro q s' ⟨rfl, rfl, i, hr, hi, hpre⟩
      have hin : i = es.size := by
        rcases Nat.lt_or_ge i es.size with h | h
        · have e : es.size - i = (es.size - (i + 1)) + 1 := by omega
          rw [e, List.range'_succ] at hr; exact nomatch hr
        · exact Nat.le_antisymm hi h
      refine wpAny_pure ?_
      rw [hin, ← hla, List.drop_length] at hpre
      cases hpre
      exact h'
theorem rcH_dicts {a b : Addr} {xa xb : List (K × Addr × Value)} {r : Bool} (ha : (a == sysModules) = false) (hb : (b == sysModules) = false) (hr : knd.room A.in1)
    (da : s.heap.DictOfH knd a xa) (db : s.heap.DictOfH knd b xb) (hu : A.units < cLine) (hits : xa.length = xb.length → HitsH prog w A.in1 s xb xa r) (E Q : Value → Shared → Prop) (h : Q (.bool (xa.length == xb.length && r)) s) : wpAny (model prog w) A (richCompare .Eq (.ref a) (.ref b)) Q E s := by
  refine wpAny_richCompare_same_room (op := .Eq) da.typeIs db.typeIs PySem.F.slot_dict_eq (wpAny_call_entry PySem.F.slot_dict_eq da.typeIs PySem.F.entry_dict_eq ?_ (PySem.F.args_dict_eq_2 _ _)) hu
  show wpAny _ _ (Builtin.Dict.dictSlotArgs "__eq__" ⟨[.ref a, .ref b], []⟩ >>= _) _ _ s
  refine wpAny_bind ?_
  unfold Builtin.Dict.dictSlotArgs
  refine wpAny_bind (wpAny_notOrdered_dict da.typeIs ?_)
  show wpAny _ _ (pure (Value.ref a, Value.ref b)) _ _ s
  refine wpAny_pure ?_
  refine wpAny_bind (wpAny_isInstance (T := "dict") db.typeIs PySem.F.sub_dict_dict ?_)
  simp only [Bool.not_true, Bool.false_eq_true, if_false]
  refine wpAny_bind (wpAny_pure (wpAny_bind (wpAny_pure ?_)))
  refine wpAny_bind (samePairsH ha hb hr da db hits ?_)
  refine wpAny_pure ⟨_, rfl, ?_, ?_⟩
  · exact fun x => nomatch x
  · simpa using h
end
end PySem.W

/-! RD43: == of dicts with tuples of texts as keys, as data -/
namespace L2
open PySem PySem.W PySem.Calls PyProof.Rows PyProof.V PySem.Spec
def hitV (xb : List (List Key × V)) (p : List Key × V) : Bool := match valV xb p.1 with
  | some v => eqV p.2 v
  | none => false
theorem at_some {xs : List (List Key × Addr × Value)} {k : List Key} {q : Addr × Value} (h : atKey xs k = some q) : ∃ j : Nat, xs[j]? = some (k, q) := by
  unfold atKey at h
  obtain ⟨x, h1, h2⟩ := Option.map_eq_some_iff.mp h
  have hm := List.mem_of_find?_eq_some h1
  have hk : x.1 = k := by have := List.find?_some h1; exact of_decide_eq_true this
  obtain ⟨j, hj⟩ := List.getElem?_of_mem hm
  exact ⟨j, by rw [hj]; cases x; simp at hk h2; rw [hk, h2]⟩
theorem at_none {xs : List (List Key × Addr × Value)} {k : List Key} (h : atKey xs k = none) (j : Nat) (q : Addr × Value) : xs[j]? ≠ some (k, q) := by
  intro hj
  unfold atKey at h
  have := List.find?_eq_none.mp (Option.map_eq_none_iff.mp h) _ (List.mem_of_getElem? hj)
  simp at this
section
variable {prog : Program} {w : World} {A : Around} {s : Shared} {H : Hp}
theorem valV_mem {κ : Type} [DecidableEq κ] {kvs : List (κ × V)} {k : κ} {v : V} (h : valV kvs k = some v) : ∃ p ∈ kvs, p.2 = v := by
  unfold valV at h
  obtain ⟨x, h1, h2⟩ := Option.map_eq_some_iff.mp h
  exact ⟨x, List.mem_of_find?_eq_some h1, h2⟩
theorem hits_of {kb : List (List Key × V)} {zs : List (List Key × Addr × Value)} (rb : KT H kb zs) (fb : ∀ p ∈ kb, flatV p.2 = true) : ∀ {ka : List (List Key × V)} {ys : List (List Key × Addr × Value)}, KT H ka ys → (∀ p ∈ ka, flatV p.2 = true) → HitsH prog w A s zs ys (ka.all (hitV kb))
  | _, _, .nil, _ => .nil
  | _, _, .cons (a := p) (b := y) r t, fa => by
    obtain ⟨e1, _, e3⟩ := r
    have ih := hits_of rb fb t fun q m => fa q (List.mem_cons_of_mem _ m)
    have hv := rb.val p.1
    rw [List.all_cons]
    obtain ⟨k, q⟩ := y
    simp only at e1 e3
    subst e1
    cases h1 : atKey zs p.1 with
    | none =>
      rw [h1] at hv
      cases h2 : valV kb p.1 with
      | some v => rw [h2] at hv; exact hv.elim
      | none =>
        have : hitV kb p = false := by unfold hitV; rw [h2]
        rw [this, Bool.false_and]
        exact .miss (at_none h1)
    | some u =>
      rw [h1] at hv
      cases h2 : valV kb p.1 with
      | none => rw [h2] at hv; exact hv.elim
      | some v =>
        rw [h2] at hv
        have : hitV kb p = eqV p.2 v := by unfold hitV; rw [h2]
        rw [this]
        obtain ⟨j, hj⟩ := at_some h1
        obtain ⟨x, xm, xe⟩ := valV_mem h2
        refine .hit hj (SeqAt.EqAt.eqP (eqAt_V e3 hv (fa p List.mem_cons_self) ?_)) ih
        rw [← xe]; exact fb x xm
end
def rEqT : R2 := fun x y H Q => ∃ a b xa xb, x = .ref a ∧ y = .ref b ∧ H a = some (.dT xa) ∧ H b = some (.dT xb) ∧ (∀ p ∈ xa, flatV p.2 = true) ∧ (∀ p ∈ xb, flatV p.2 = true) ∧ Q (.bl (xa.length == xb.length && xa.all (hitV xb))) H
theorem op_eqT {X : Cx} (hu : X.A.units + 64 < cLine) : OpR X (compareOp .Eq) rEqT := by
  intro pins s σ H x y v u Q I rx ry h
  obtain ⟨a, b, xa, xb, rfl, rfl, ha, hb, fa, fb, q⟩ := h
  cases (show v = Value.ref a from rx)
  cases (show u = Value.ref b from ry)
  obtain ⟨_, na, _⟩ := (show ObjOk X.prog X.w H s.heap a (.dT xa) from I.hok a _ ha)
  obtain ⟨_, nb, _⟩ := (show ObjOk X.prog X.w H s.heap b (.dT xb) from I.hok b _ hb)
  obtain ⟨_, _, ys, ra, da⟩ := dt_rd I.hok (.inl ha)
  obtain ⟨_, _, zs, rb, db⟩ := dt_rd I.hok (.inl hb)
  show wpAny (model X.prog X.w) X.A (richCompare .Eq (.ref a) (.ref b)) (EP X pins σ Q) X.xe s
  have l1 := ra.length
  have l2 := rb.length
  refine PySem.W.rcH_dicts (r := xa.all (hitV xb)) na nb (show X.A.in1.units < cLine by show X.A.units + 1 < cLine; omega) da db (by omega) (fun _ => hits_of rb fb ra fa) _ _ ?_
  refine ⟨.bl _, H, I, ?_, q⟩
  show _ = _
  rw [← l1, ← l2]
end L2
namespace L2
open PySem PySem.W PySem.Calls PyProof.Rows PyProof.V PySem.Spec
/-- x op y by x's own def: x an instance of the class at C, y of the type t -/
def rOwnX (K : PySem.W.Frag) (C : Addr) (sp : Sp) (E : XK) : R2 := fun x y H Q => ∃ a dx fs t, x = .ref a ∧ H a = some (.ins C dx fs) ∧ TyX K H y t ∧ PySem.W.notFirst K C t = true ∧ sp [x, y] H Q E
theorem op_ownX {X : Cx} {CX : CXT} {op : CmpOp} {C f : Addr} {n : Nat} {fd : FuncData} {ps : List Str} {sp : Sp} {E : XK} (hop : ∀ a b, compareOp op a b = richCompare op a b) (hs : PySem.W.findIn X.K (.ref C) (cmpInfo op).2.1 = some (some (.ref f))) (hf : PySem.W.isFn X.K (.ref f) = true)
    (F : FnOk X.prog X.w X.K X.mg X.base CX n f fd ps sp) (hb : Binds X.K fd ps []) (hr : Room n X.A) (hx : Passes CX X E) : OpR X (compareOp op) (rOwnX X.K C sp E) := by
  intro pins s σ H x y v u Q I rx ry h
  obtain ⟨a, dx, fs, t, rfl, ha, hy, hn, q⟩ := h
  cases (show v = Value.ref a from rx)
  obtain ⟨mA, J, _⟩ := ins_get I.hok ha
  obtain ⟨od, J, _⟩ := J.look
  obtain ⟨P, Z, p, _⟩ := kit_of I ry hy
  obtain ⟨m, hF⟩ := I.fr
  rw [hop]
  refine PySem.W.cmp_K (op := op) (tb := t) hr.units0 hF I.ok.mod.kin J (Z.ty _ _ I.kIn p) hn hs hf ?_
  have r2 : Vals [V.ref a, y] [Value.ref a, u] := .cons rx (.cons ry .nil)
  refine wpAny_mono (run_fnS F hr hb (E := fun _ => E) (σ := σ) (fun pins H s e s' I c => hx pins σ H s e s' I c) I r2 q) (fun w s' z => ?_) fun _ _ x => x
  obtain ⟨z', H', I', rz, qz⟩ := z
  exact SlX.cmpback rz ⟨z', H', I', rz, qz⟩
end L2
open PySem L2
/-! ### dicts of words, compared -/
def strsD (ka : List (List L2.Key × Str)) : List (List L2.Key × D) := ka.map fun p => (p.1, .str p.2)
def eqT (ka kb : List (List L2.Key × Str)) : Bool := ka.length == kb.length && ka.all fun p => decide (valX kb p.1 = some p.2)
def gEqT : G2 := fun d e Q => ∃ ka kb, d = dtD (strsD ka) ∧ e = dtD (strsD kb) ∧ Q (.bool (eqT ka kb))
theorem strsD_of {F : Hp} : ∀ {kvs : List (List L2.Key × V)} {ka : List (List L2.Key × Str)}, kvs.map (·.1) = (strsD ka).map (·.1) → Reps F (kvs.map (·.2)) ((strsD ka).map (·.2)) → kvs = ka.map fun p => (p.1, V.str p.2)
  | [], [], _, _ => rfl
  | [], _ :: _, h, _ => by cases h
  | _ :: _, [], h, _ => by cases h
  | p :: kvs, q :: ka, h, r => by
    have h : p.1 :: kvs.map (·.1) = q.1 :: (strsD ka).map (·.1) := h
    have r : Reps F (p.2 :: kvs.map (·.2)) (.str q.2 :: (strsD ka).map (·.2)) := r
    injection h with h1 h2
    cases r with
    | cons r1 r2 =>
      rw [List.map_cons, strsD_of h2 r2]
      obtain ⟨k, v⟩ := p
      simp only at h1 r1
      rw [h1, r1.str_of]
theorem val_strs (k : List L2.Key) : ∀ kb : List (List L2.Key × Str), L2.valV (kb.map fun p => (p.1, V.str p.2)) k = (valX kb k).map V.str
  | [] => rfl
  | p :: r => by
    by_cases e : p.1 = k
    · rw [List.map_cons, L2.valV_pos (p := (p.1, V.str p.2)) e, valX_pos e]; rfl
    · rw [List.map_cons, L2.valV_neg (p := (p.1, V.str p.2)) e, valX_neg e]; exact val_strs k r
theorem od_eqT : OpD rEqT gEqT := by
  intro F H x y d e Q k s rx ry h q
  obtain ⟨ka, kb, rfl, rfl, h⟩ := h
  obtain ⟨a, xa, rfl, a1, a2, a3⟩ := rx.dt_of
  obtain ⟨b, xb, rfl, b1, b2, b3⟩ := ry.dt_of
  have ea := strsD_of a2 a3
  have eb := strsD_of b2 b3
  subst ea eb
  refine ⟨a, b, _, _, rfl, rfl, s _ _ a1, s _ _ b1, fun p hp => ?_, fun p hp => ?_, ?_⟩
  · obtain ⟨z, _, rfl⟩ := List.mem_map.mp hp; rfl
  · obtain ⟨z, _, rfl⟩ := List.mem_map.mp hp; rfl
  · have e : ((ka.map fun p => (p.1, V.str p.2)).length == (kb.map fun p => (p.1, V.str p.2)).length && (ka.map fun p => (p.1, V.str p.2)).all (hitV (kb.map fun p => (p.1, V.str p.2)))) = eqT ka kb := by
      unfold eqT
      rw [List.length_map, List.length_map, List.all_map]
      congr 1
      congr 1
      funext p
      show hitV _ (p.1, V.str p.2) = _
      unfold hitV
      rw [val_strs]
      cases valX kb p.1 with
      | none => rfl
      | some v =>
        show (p.2 == v) = _
        rw [Bool.eq_iff_iff, beq_iff_eq, decide_eq_true_iff, Option.some.injEq]
        exact eq_comm
    rw [e]
    exact ext_here s (.bl _) h q
/-! ### own comparisons, of two names or a name and data -/
def tyN : D → Option String
  | .dict ((.bool false, .none) :: _) => some "dict"
  | d => tyName d
theorem tyN_of {K : PySem.W.Frag} {F H : Hp} {x : V} {d : D} {a : String} (s : Same F H) (r : Rep F x d) (h : tyN d = some a) : TyX K H x (.type a) := by
  unfold tyN at h
  split at h
  · next l =>
    cases h
    cases r with
    | dk h1 h2 => exact .base (.dK (s _ _ h1))
  · exact tyX_of s r h

/-! RD44: own == and != : of two names, of a name and data, of a name and what is made there; isinstance of an own class -/
open PySem L2
def typs : List String := ["NoneType", "bool", "int", "str", "list", "tuple", "dict"]
theorem tyN_in {d : D} {a : String} (h : tyN d = some a) : a ∈ typs := by
  unfold tyN at h
  split at h
  · cases h; decide
  · cases d <;> cases h <;> decide
/-- what == and isinstance ask of an own class -/
structure OwnK (K : PySem.W.Frag) (C : Addr) : Prop where
  is : C8.InsC K C
  nf : ∀ a ∈ typs, PySem.W.notFirst K C (.type a) = true
  kf : ∀ a ∈ typs, PySem.W.kitOne K (.type a) (.ref C) = some false
theorem OwnK.ty {K : PySem.W.Frag} {C a dx : Addr} {fs : List (Str × V)} {H : Hp} (O : OwnK K C) (h : H a = some (.ins C dx fs)) : TyX K H (.ref a) (.ref C) := .base (.ins h O.is.cl O.is.ha O.is.hn O.is.htk O.is.hm)
theorem nf_self {K : PySem.W.Frag} {C : Addr} : PySem.W.notFirst K C (.ref C) = true := by unfold PySem.W.notFirst; simp
/-- slot i holds an instance of the class at C -/
def InsAt (C : Addr) (i : Nat) (ρ : Rho) : Prop := ∃ s c, ρ[i]? = some s ∧ s.cell = some c ∧ InstC C "__eq__" c
def noDX : DX := fun _ _ _ => False
/-- i op j, two names: j a cell or data -/
def dCmpV (C : Addr) (g : GSp) (i j : Nat) (dx : DX) : DE := fun ρ Q => InsAt C i ρ ∧ ((InsAt C j ρ ∧ gCall g [.inr i, .inr j] dx ρ (QE Q)) ∨ ∃ d a, ρ[j]? = some (.fz d) ∧ tyN d = some a ∧ gCall g [.inr i, .inl d] dx ρ (QE Q))
/-- i op e, e data -/
def dCmpD (C : Addr) (g : GSp) (i : Nat) (de : DE) (dx : DX) : DE := fun ρ Q => (∃ s c, ρ[i]? = some s ∧ s.cell = some c) ∧ de ρ fun d ρ1 => InsAt C i ρ1 ∧ (∃ a, tyN d = some a) ∧ gCall g [.inr i, .inl d] dx ρ1 (QE Q)
/-- i op e, e makes a cell -/
def dCmpN (C : Addr) (g : GSp) (i : Nat) (dn : DN) : DE := fun ρ Q => (∃ s c, ρ[i]? = some s ∧ s.cell = some c) ∧ dn ρ fun c ρ1 => InsAt C i ρ1 ∧ InstC C "__eq__" c ∧ gCall g [.inr i, .inr ρ1.length] noDX (ρ1 ++ [.ow c]) (QE fun d ρ2 => ∃ ρ3 c3, ρ2 = ρ3 ++ [.ow c3] ∧ Q d ρ3)
/-- isinstance(j, C) -/
def dIsB (C : Addr) (j : Nat) : DE := fun ρ Q => (InsAt C j ρ ∧ Q (.bool true) ρ) ∨ ∃ d a, ρ[j]? = some (.fz d) ∧ tyN d = some a ∧ Q (.bool false) ρ
theorem ins_at {W : Ent} {F H : Hp} {σ τ : L2.St} {ρ ε : Rho} {i : Nat} {C : Addr} (R : At W F H σ τ ρ ε) (h : InsAt C i ρ) : ∃ a dx fs, σ[i]? = some (some (.ref a)) ∧ H a = some (.ins C dx fs) := by
  obtain ⟨s, c, hs, hc, hi⟩ := h
  obtain ⟨a, dx, fs, g1, g2, _⟩ := inst_of R hs hc hi
  exact ⟨a, dx, fs, g1, g2⟩
section
variable {X : Cx} {W : Ent} {E : XK} {dx : DX} {g : GSp} {C : Addr} {i j : Nat} {te : TE} {de : DE} {dn : DN}
theorem snd_cmpV (O : OwnK X.K C) (X0 : ExL W E dx) : SndE W (tOp (rOwnX X.K C (spOf g) E) (tVar i) (tVar j)) (dCmpV C g i j dx) := by
  intro F H σ τ ρ ε Q k R h q
  obtain ⟨hi, h⟩ := h
  obtain ⟨a, d1, fs, g1, g2⟩ := ins_at R hi
  rcases h with ⟨hj, h⟩ | ⟨d, t, hj, ht, h⟩
  · obtain ⟨b, d2, gs, k1, k2⟩ := ins_at R hj
    exact ⟨_, g1, _, k1, a, d1, fs, _, rfl, g2, O.ty k2, nf_self, sp_callE X0 R (.c g1 (.c k1 .nil)) h q⟩
  · obtain ⟨v, k1, k2⟩ := R.var hj
    exact ⟨_, g1, _, k1, a, d1, fs, _, rfl, g2, tyN_of R.ex k2 ht, O.nf _ (tyN_in ht), sp_callE X0 R (.c g1 (.d k2 .nil)) h q⟩
theorem snd_cmpD (O : OwnK X.K C) (X0 : ExL W E dx) (he : SndE W te de) : SndE W (tOp (rOwnX X.K C (spOf g) E) (tVar i) te) (dCmpD C g i de dx) := by
  intro F H σ τ ρ ε Q k R h q
  obtain ⟨⟨s, c, hs, hc⟩, h⟩ := h
  obtain ⟨v0, fp0, g0, _⟩ := R.cellX hs hc
  refine ⟨v0, g0, he F H σ τ ρ ε _ _ R h fun F1 H1 ρ1 y d R1 s1 r1 h1 => ?_⟩
  obtain ⟨hi, ⟨t, ht⟩, h1⟩ := h1
  obtain ⟨a, d1, fs, g1, g2⟩ := ins_at R1 hi
  rw [g0] at g1
  cases g1
  exact ⟨a, d1, fs, _, rfl, g2, tyN_of R1.ex r1 ht, O.nf _ (tyN_in ht), sp_callE X0 R1 (.c g0 (.d r1 .nil)) h1 fun F' H' ρ' v d A s => q F' H' ρ' v d A (s1.trans s)⟩
theorem snd_cmpN (O : OwnK X.K C) (he : SndN W te dn) : SndE W (tOp (rOwnX X.K C (spOf g) E) (tVar i) te) (dCmpN C g i dn) := by
  intro F H σ τ ρ ε Q k R h q
  obtain ⟨⟨s, c, hs, hc⟩, h⟩ := h
  obtain ⟨v0, fp0, g0, _⟩ := R.cellX hs hc
  refine ⟨v0, g0, he F H σ τ ρ ε _ _ R h fun F1 H1 ρ1 y c1 R1 s1 h1 => ?_⟩
  obtain ⟨hi, hc1, h1⟩ := h1
  obtain ⟨a, d1, fs, g1, g2⟩ := ins_at R1 hi
  rw [g0] at g1
  cases g1
  have R2 := R1.toName
  have hl := R1.len
  have hn : (ρ1 ++ [Slot.ow c1])[ρ1.length]? = some (.ow c1) := by simp
  obtain ⟨b, d2, gs, k1, k2⟩ := ins_at R2 ⟨_, c1, hn, rfl, hc1⟩
  have ky : (σ ++ [some y])[ρ1.length]? = some (some y) := by rw [← hl]; simp
  rw [ky] at k1
  cases k1
  have gi : (σ ++ [some (V.ref b)])[i]? = some (some (V.ref a)) := by rw [get_app (lt_of_get g0)]; exact g0
  have X1 : ExA W (σ ++ [some (V.ref b)]) τ ε E noDX := fun _ _ _ _ _ _ _ hd => hd.elim
  exact ⟨a, d1, fs, _, rfl, g2, O.ty k2, nf_self, sp_callEA X1 R2 (.c gi (.c ky .nil)) h1 fun F' H' ρ' v d A s rv hq => by
    obtain ⟨ρ3, c3, rfl, hq⟩ := hq
    exact q F' H' ρ3 v d (A.ofName fun c z => by cases z).drop (s1.trans s) rv hq⟩
variable {op : CmpOp} {f : Addr} {n : Nat} {fd : FuncData} {ps : List Str} {a b e ce : Expr} {m : Str} {p pos : Pos}
theorem own_op (hop : ∀ a b, compareOp op a b = richCompare op a b) (hm : (cmpInfo op).2.1 = m) (tk : L2N.Takes X (fun cls d _ H => E cls d H)) (F : FnOk X.prog X.w X.K X.mg X.base (L2N.CX X.prog X.w) n f fd ps (spOf g)) (hr : Room n X.A) (M : Meth X.K C m f) (hb : Binds X.K fd ps []) : OpR X (compareOp op) (rOwnX X.K C (spOf g) E) :=
  op_ownX hop (by rw [hm]; exact M.at_) M.fn F hb hr (L2N.passes_call tk fun _ _ _ _ h => h)
theorem de_cmpV (ho : OpR X (compareOp op) (rOwnX X.K C (spOf g) E)) (O : OwnK X.K C) (X0 : ExL W E dx) (ha : PE X a (tVar i)) (hb : PE X b (tVar j)) (hm : behindInMarks op b = false := by rfl) : PDE X W (.Compare a [op] [b] pos) (dCmpV C g i j dx) := ⟨_, pe_cmpR ho ha hb hm, snd_cmpV O X0⟩
theorem dt_cmpV (ho : OpR X (compareOp op) (rOwnX X.K C (spOf g) E)) (O : OwnK X.K C) (X0 : ExL W E dx) (ha : PE X a (tVar i)) (hb : PE X b (tVar j)) (hm : behindInMarks op b = false := by rfl) : PDT X W (.Compare a [op] [b] pos) (dTest (dCmpV C g i j dx)) := ⟨_, pt_cmpR ho ha hb hm, snd_test (snd_cmpV O X0)⟩
theorem de_cmpD (ho : OpR X (compareOp op) (rOwnX X.K C (spOf g) E)) (O : OwnK X.K C) (X0 : ExL W E dx) (ha : PE X a (tVar i)) (hb : PDE X W b de) (hm : behindInMarks op b = false := by rfl) : PDE X W (.Compare a [op] [b] pos) (dCmpD C g i de dx) := by
  obtain ⟨te, b1, b2⟩ := hb.ex
  exact ⟨_, pe_cmpR ho ha b1 hm, snd_cmpD O X0 b2⟩
theorem dt_cmpD (ho : OpR X (compareOp op) (rOwnX X.K C (spOf g) E)) (O : OwnK X.K C) (X0 : ExL W E dx) (ha : PE X a (tVar i)) (hb : PDE X W b de) (hm : behindInMarks op b = false := by rfl) : PDT X W (.Compare a [op] [b] pos) (dTest (dCmpD C g i de dx)) := by
  obtain ⟨te, b1, b2⟩ := hb.ex
  exact ⟨_, pt_cmpR ho ha b1 hm, snd_test (snd_cmpD O X0 b2)⟩
theorem de_cmpN (ho : OpR X (compareOp op) (rOwnX X.K C (spOf g) E)) (O : OwnK X.K C) (ha : PE X a (tVar i)) (hb : PDN X W b dn) (hm : behindInMarks op b = false := by rfl) : PDE X W (.Compare a [op] [b] pos) (dCmpN C g i dn) := by
  obtain ⟨te, b1, b2⟩ := hb.ex
  exact ⟨_, pe_cmpR ho ha b1 hm, snd_cmpN O b2⟩
theorem dt_cmpN (ho : OpR X (compareOp op) (rOwnX X.K C (spOf g) E)) (O : OwnK X.K C) (ha : PE X a (tVar i)) (hb : PDN X W b dn) (hm : behindInMarks op b = false := by rfl) : PDT X W (.Compare a [op] [b] pos) (dTest (dCmpN C g i dn)) := by
  obtain ⟨te, b1, b2⟩ := hb.ex
  exact ⟨_, pt_cmpR ho ha b1 hm, snd_test (snd_cmpN O b2)⟩
theorem de_isB (O : OwnK X.K C) (hg : Gl X "isinstance") (hm : X.mg "isinstance" = none) (he : PE X e (tVar j)) (hc : PE X ce (tC (.ref C)))
    (hs : starEach [e, ce] X.env = (false, eval e X.env) :: starEach [ce] X.env := by rfl) (hs2 : starEach [ce] X.env = (false, eval ce X.env) :: starEach [] X.env := by rfl) (hpl : (backTo pos (starEach [ce] X.env)).any (·.1) = false := by rfl) :
    PDE X W (.Call (.Name "isinstance" p) [e, ce] [] pos) (dIsB C j) := by
  refine ⟨_, pe_callB call_isi hg hm (by decide +kernel) (pa_cons he (pa_cons hc pa_nil hs2) hs) (by decide) (by decide) hs hpl, fun F H σ τ ρ ε Q kk R h q => ?_⟩
  rcases h with ⟨hj, h⟩ | ⟨d, t, hj, ht, h⟩
  · obtain ⟨b, d2, gs, k1, k2⟩ := ins_at R hj
    exact ⟨_, k1, _, _, _, _, true, rfl, .own C, O.ty k2, O.is.me, q F H ρ _ _ R (Same.refl _) (.bl true) h⟩
  · obtain ⟨v, k1, k2⟩ := R.var hj
    exact ⟨_, k1, _, _, _, _, false, rfl, .own C, tyN_of R.ex k2 ht, O.kf _ (tyN_in ht), q F H ρ _ _ R (Same.refl _) (.bl false) h⟩
/-- d == e, dicts of words by pairs -/
theorem de_eqT {da db : DE} (hu : X.A.units + 64 < cLine) (ha : PDE X W a da) (hb : PDE X W b db) (hm : behindInMarks .Eq b = false := by rfl) : PDE X W (.Compare a [.Eq] [b] pos) (dOp gEqT da db) := de_cmp (op_eqT hu) od_eqT ha hb hm
end

/-! RD45: a name's list, lent for one call: as the last of a display, or as the last argument of a make -/
open PySem L2
/-! ### displays and arguments, the last a name that holds a list -/
structure PDAL (X : Cx) (W : Ent) (es : List Expr) (i : Nat) (da : DA) : Prop where
  ex : ∃ ta, PA X es ta ∧ ∀ F H σ τ ρ ε (Q : List D → Rho → Prop) (k : List V → Hp → Prop), At W F H σ τ ρ ε → da ρ Q →
    (∀ F' H' ρ' vs ds L, At W F' H' σ τ ρ' ε → Same F F' → Reps F' vs ds → σ[i]? = some (some (.ref L)) → (∃ ys, H' L = some (.lst ys)) → Q ds ρ' → k (vs ++ [.ref L]) H') → ta σ H k
def dLast (i : Nat) : DA := fun ρ Q => (∃ s xs, ρ[i]? = some s ∧ s.cell = some (.l xs)) ∧ Q [] ρ
section
variable {X : Cx} {W : Ent} {e : Expr} {es : List Expr} {i : Nat} {de : DE} {da : DA}
theorem dl_one (h : PE X e (tVar i)) (hs : starEach [e] X.env = (false, eval e X.env) :: starEach [] X.env := by rfl) : PDAL X W [e] i (dLast i) := ⟨_, pa_cons h pa_nil hs, fun F H σ τ ρ ε Q k R hd q => by
  obtain ⟨⟨s, xs, h1, h2⟩, hd⟩ := hd
  obtain ⟨v, fp, g1, ⟨L, ys, rfl, _, g2, _⟩, _⟩ := R.cellX h1 h2
  exact ⟨_, g1, q F H ρ [] [] L R (Same.refl _) .nil g1 ⟨ys, g2⟩ hd⟩⟩
theorem dl_cons (he : PDE X W e de) (h : PDAL X W es i da) (hs : starEach (e :: es) X.env = (false, eval e X.env) :: starEach es X.env := by rfl) : PDAL X W (e :: es) i (dCons de da) := by
  obtain ⟨te, a1, a2⟩ := he.ex
  obtain ⟨ta, b1, b2⟩ := h.ex
  refine ⟨_, pa_cons a1 b1 hs, fun F H σ τ ρ ε Q k R hd q => a2 F H σ τ ρ ε _ _ R hd fun F1 H1 ρ1 x d R1 s1 r1 h1 => ?_⟩
  exact b2 F1 H1 σ τ ρ1 ε _ _ R1 h1 fun F2 H2 ρ2 vs ds L R2 s2 r2 hv hL h2 => q F2 H2 ρ2 (x :: vs) (d :: ds) L R2 (s1.trans s2) (.cons (r1.mono s2) r2) hv hL h2
end
def scal : D → Bool
  | .none => true
  | .bool _ => true
  | .int _ => true
  | .str _ => true
  | _ => false
theorem scal_any {F F' : Hp} {v : V} {d : D} (h : scal d = true) (r : Rep F v d) : Rep F' v d := by
  cases d with
  | none => cases r.non_of; exact .non
  | bool b => cases r.bl_of; exact .bl b
  | int i => cases r.int_of; exact .int i
  | str x => cases r.str_of; exact .str x
  | list _ => cases h
  | tuple _ => cases h
  | dict _ => cases h
/-- f([.., x], e), x lent -/
def dLendC (g : GSp) (i : Nat) (da : DA) (d2 : DE) : DE := fun ρ Q => da ρ fun ds ρ1 => ds.length < sizeLine ∧ d2 ρ1 fun e ρ2 => ∃ s xs, ρ2[i]? = some s ∧ s.cell = some (.l xs) ∧ g [.fz (.list (ds ++ [.list xs])), .fz e] (fun r _ => match r with
  | .fz z => scal z = true ∧ Q z ρ2
  | _ => False) (fun _ _ _ => False)
/-- a thing without lists stays what it is where a list is no longer frozen -/
def delF (F : Hp) (L : Addr) : Hp := fun a => if a = L then none else F a
theorem delF_ne {F : Hp} {L a : Addr} (h : a ≠ L) : delF F L a = F a := if_neg h
theorem delF_same {F : Hp} {L : Addr} : delF F L L = none := if_pos rfl
theorem delF_of {F : Hp} {L a : Addr} {o : HO} (h : delF F L a = some o) : a ≠ L ∧ F a = some o := by
  by_cases z : a = L
  · rw [z, delF_same] at h; cases h
  · exact ⟨z, by rw [delF_ne z] at h; exact h⟩
def NoLd (d : D) : Prop := ∀ (F : Hp) (v : V) (L : Addr) (xs : List V), F L = some (.lst xs) → Rep F v d → Rep (delF F L) v d
def NoLc (c : Cell) : Prop := ∀ (F H : Hp) (v : V) (fp : List Addr) (L : Addr) (xs : List V), F L = some (.lst xs) → CellAt F H v fp c → CellAt (delF F L) H v fp c
def NoLf : FV → Prop
  | .d x => NoLd x
  | .c c => NoLc c
theorem nol_str (x : Str) : NoLd (.str x) := fun F v L xs _ r => by cases r.str_of; exact .str x
theorem nol_strs (ka : List (List L2.Key × Str)) : NoLd (dtD (strsD ka)) := fun F v L xs hL r => by
  obtain ⟨a, kvs, rfl, h1, h2, h3⟩ := r.dt_of
  have ea := strsD_of h2 h3
  have ne : a ≠ L := fun z => by rw [z, hL] at h1; cases h1
  have r' : Reps (delF F L) (kvs.map (·.2)) ((strsD ka).map (·.2)) := by
    subst ea
    unfold strsD
    rw [List.map_map, List.map_map]
    clear h1 h2 h3 r
    induction ka with
    | nil => exact .nil
    | cons p r ih => exact .cons (.str p.2) ih
  have e : dtD (strsD ka) = .dict ((.bool true, .none) :: ((kvs.map (·.1)).map keysD).zip ((strsD ka).map (·.2))) := by
    unfold dtD
    rw [h2]
    congr 1
    congr 1
    generalize strsD ka = l
    induction l with
    | nil => rfl
    | cons p r ih => rw [List.map_cons, ih]; rfl
  rw [e]
  exact .dt (by rw [delF_ne ne]; exact h1) r'
theorem nol_dc0 : NoLc (dcC []) := fun F H v fp L xs hL h => by
  obtain ⟨p, kvs, fq, e1, e2, n, h1, h2⟩ := h
  cases h2
  exact ⟨p, _, _, e1, e2, n, h1, .nil⟩
theorem nol_dt0 : NoLc (.dt []) := fun F H v fp L xs hL h => by
  obtain ⟨p, kvs, e1, e2, h1, h2, h3⟩ := h
  refine ⟨p, kvs, e1, e2, h1, h2, ?_⟩
  have : kvs = [] := by cases kvs with
    | nil => rfl
    | cons _ _ => cases h2
  subst this
  exact .nil
theorem fs_nol {F H : Hp} {L : Addr} {xs0 : List V} (hL : F L = some (.lst xs0)) {fs : List (Str × V)} {fq : List Addr} {xs : List (Str × FV)} (h : FsAt F H fs fq xs) : (∀ x ∈ xs, NoLf x.2) → FsAt (delF F L) H fs fq xs := by
  induction h with
  | nil => exact fun _ => .nil
  | @cons n v fp x fs fq xs h1 h2 _ ih =>
    intro k
    refine .cons ?_ h2 (ih fun y m => k y (List.mem_cons_of_mem _ m))
    have kx := k _ List.mem_cons_self
    cases x with
    | d x => exact ⟨h1.1, kx F v L xs0 hL h1.2⟩
    | c c => exact kx F H v fp L xs0 hL h1
theorem nol_rec {C p : Addr} {xs : List (Str × FV)} (k : ∀ x ∈ xs, NoLf x.2) : NoLc (recC C p xs) := fun F H v fp L xs0 hL h => by
  obtain ⟨dx, fs, fq, e1, e2, n0, n1, n2, h1, h2, h3⟩ := h
  exact ⟨dx, fs, fq, e1, e2, n0, n1, n2, h1, h2, fs_nol hL h3 k⟩
/-- C(.., x), x lent -/
def dMakeL (C : Addr) (g : GSp) (i : Nat) (da : DA) : DN := fun ρ Q => da ρ fun ds ρ1 => ∃ s xs, ρ1[i]? = some s ∧ s.cell = some (.l xs) ∧ ∀ p, g (.io (recC C p []) :: (ds ++ [PyData.list xs]).map .fz) (fun r args' => match r with
  | .fz .none => match args' with
    | .io c' :: _ => NoLc c' ∧ Q c' ρ1
    | _ => False
  | _ => False) (fun _ _ _ => False)
theorem reps_app {F : Hp} : ∀ {vs : List V} {ds : List D} {es : List D}, Reps F vs (ds ++ es) → ∃ us ws, vs = us ++ ws ∧ Reps F us ds ∧ Reps F ws es
  | vs, [], es, h => ⟨[], vs, rfl, .nil, h⟩
  | _, d :: ds, es, h => by
    cases h with
    | cons r t =>
      obtain ⟨us, ws, rfl, h1, h2⟩ := reps_app (ds := ds) t
      exact ⟨_ :: us, ws, rfl, .cons r h1, h2⟩
section
variable {X : Cx} {W : Ent} {E : XK} {g : GSp} {da : DA} {d2 : DE} {f C : Addr} {k i : Nat} {fd : FuncData} {ps : List Str} {x : Str} {p pos lpos : Pos} {e : Expr} {es : List Expr}
theorem de_lendC (tk : L2N.Takes X (fun cls d _ H => E cls d H)) (Fn : FnOk X.prog X.w X.K X.mg X.base (L2N.CX X.prog X.w) k f fd ps (spOf g)) (hr : Room k X.A) (hg : Gl X x) (hm : X.mg x = some (.ref f)) (hk : PySem.W.keepIn X.K (.ref f) = true) (hb : Binds X.K fd ps [])
    (ha : PDAL X W es i da) (h2 : PDE X W e d2) (hdb : (x == ("__debug__" : Str)) = false := by decide) (he : starEach [.List es lpos, e] X.env = (false, eval (.List es lpos) X.env) :: starEach [e] X.env := by rfl) (he2 : starEach [e] X.env = (false, eval e X.env) :: starEach [] X.env := by rfl)
    (hpl : (backTo pos (starEach [e] X.env)).any (·.1) = false := by rfl) : PDE X W (.Call (.Name x p) [.List es lpos, e] [] pos) (dLendC g i da d2) := by
  obtain ⟨ta, a1, a2⟩ := ha.ex
  obtain ⟨tb, b1, b2⟩ := h2.ex
  refine ⟨_, pe_call Fn hr hg hm hk hb .nil (L2N.passes_call tk fun _ _ _ _ h => h) (pa_cons (pe_lst a1) (pa_cons b1 pa_nil he2) he) hdb he hpl, fun F H σ τ ρ ε Q kk R h q => ?_⟩
  refine a2 F H σ τ ρ ε _ _ R h fun F1 H1 ρ1 vs ds L R1 s1 r1 hv hL h1 => ?_
  obtain ⟨hlen, h1⟩ := h1
  refine ⟨by rw [List.length_append, r1.length]; show ds.length + 1 ≤ _; omega, fun t ht => ?_⟩
  have tL : t ≠ L := fun z => by
    obtain ⟨ys, hL⟩ := hL
    rw [← z, ht] at hL; cases hL
  -- the display waits
  have R2 : At W F1 (upd H1 t (.lst (vs ++ [.ref L]))) σ (some (.ref t) :: τ) ρ1 (.ow (.l (ds ++ [adrD L])) :: ε) := by
    refine R1.extNew (fpc := [t]) ⟨Same.refl _, fun a o z => ?_, fun a o z => ?_, fun a o z => .inl z⟩ ⟨t, _, rfl, rfl, upd_same, r1.append (.cons (.adr L) .nil)⟩ fun b m => ?_
    · rw [upd_ne (ne_of_none z ht)]; exact z
    · rw [upd_ne (ne_of_none (R1.ex _ _ z) ht)]; exact R1.ex _ _ z
    · rw [List.mem_singleton.mp m]
      exact ⟨R1.ex.free ht, ht⟩
  refine b2 F1 _ σ _ ρ1 _ _ _ R2 h1 fun F3 H3 ρ2 y e2 R3 s3 r3 h3 => ?_
  obtain ⟨s, xs, hs, hc, h3⟩ := h3
  have R3n := R3.toName
  have hn : (ρ2 ++ [Slot.ow (.l (ds ++ [adrD L]))])[ρ2.length]? = some (.ow (.l (ds ++ [adrD L]))) := by simp
  obtain ⟨vt, fpt, k1, ⟨t', ysT, rfl, e5, k3, k4⟩, k5, _⟩ := R3n.cellX hn rfl
  have kt : (σ ++ [some (V.ref t)])[ρ2.length]? = some (some (V.ref t)) := by rw [← R3.len]; simp
  rw [kt] at k1
  cases k1
  obtain ⟨us, ws, rfl, k6, k7⟩ := reps_app k4
  cases k7 with
  | cons k8 k9 =>
  cases k9
  cases k8.adr_of
  have R4 := R3.drop
  obtain ⟨v', fp', g1, ⟨L', xsT, rfl, e4, g3, g4⟩, g5, _⟩ := R4.cellX hs hc
  rw [hv] at g1
  cases g1
  have FL : F3 L = none := g5 L (by rw [e4]; exact List.mem_cons_self)
  have Ft : F3 t = none := k5 t (by rw [e5]; exact List.mem_cons_self)
  let F5 : Hp := upd (upd F3 L (.lst xsT)) t (.lst (us ++ [.ref L]))
  have sF : Same F3 F5 := fun a o z => by
    show upd (upd F3 L _) t _ a = _
    rw [upd_ne (ne_of_none z Ft), upd_ne (ne_of_none z FL)]; exact z
  have hFL : F5 L = some (.lst xsT) := by
    show upd (upd F3 L _) t _ L = _
    rw [upd_ne tL.symm, upd_same]
  have sH : Same F5 H3 := fun a o z => by
    by_cases y1 : a = t
    · subst y1; rw [show F5 a = some (.lst (us ++ [.ref L])) from upd_same] at z; rw [← z]; exact k3
    · by_cases y2 : a = L
      · subst y2; rw [hFL] at z; rw [← z]; exact g3
      · have : F5 a = F3 a := by show upd (upd F3 L _) t _ a = _; rw [upd_ne y1, upd_ne y2]
        rw [this] at z
        exact R4.ex _ _ z
  have rA : Rep F5 (.ref t) (.list (ds ++ [.list xs])) := .lst upd_same ((k6.mono sF).append (.cons (.lst hFL (g4.mono sF)) .nil))
  have rr : Reps F5 [V.ref t, y] [PyData.list (ds ++ [.list xs]), e2] := .cons rA (.cons (r3.mono sF) .nil)
  show spOf g ([V.ref t, y] ++ []) H3 kk E
  rw [List.append_nil]
  refine ⟨F5, fun _ => [], _, _, _, Rel.enter0 sH rr, fun j c' z => ?_, h3, ?_, fun C z args' hz => hz.elim⟩
  · obtain ⟨d, z, _⟩ := fzs_get z
    cases z
  · intro r args' hr' hio v F' H' A
    have ex : Ext F3 H3 F3 H' := ⟨Same.refl _, fun a o z => A.rel.fr a o z fun _ => List.not_mem_nil, fun a o z => A.rel.fr a o (R4.ex _ _ z) fun _ => List.not_mem_nil, fun a o z => .inl z⟩
    cases r with
    | fz z => exact q F3 H' ρ2 v z (R4.ext ex) (s1.trans s3) (scal_any hr'.1 A.outFz) hr'.2
    | ow c' => exact (show False from hr').elim
    | no => exact (show False from hr').elim
    | io c' => cases hio
theorem snd_makeL {ta : TA} (ha : ∀ F H σ τ ρ ε (Q : List D → Rho → Prop) (k : List V → Hp → Prop), At W F H σ τ ρ ε → da ρ Q → (∀ F' H' ρ' vs ds L, At W F' H' σ τ ρ' ε → Same F F' → Reps F' vs ds → σ[i]? = some (some (.ref L)) → (∃ ys, H' L = some (.lst ys)) → Q ds ρ' → k (vs ++ [.ref L]) H') → ta σ H k) :
    SndN W (tMake C (spOf g) [] E ta) (dMakeL C g i da) := by
  intro F H σ τ ρ ε Q k R h q
  refine ha F H σ τ ρ ε _ _ R h fun F1 H1 ρ1 vs ds L R1 s1 r1 hv hL h1 => fun x dxA nx ndx nex => ?_
  obtain ⟨s, xs, hs, hc, h1⟩ := h1
  have h1 := h1 x
  obtain ⟨v', fp', g1, ⟨L', xsT, rfl, e4, g3, g4⟩, g5, _⟩ := R1.cellX hs hc
  rw [hv] at g1
  cases g1
  have FL : F1 L = none := g5 L (by rw [e4]; exact List.mem_cons_self)
  let F5 : Hp := upd F1 L (.lst xsT)
  have hFL : F5 L = some (.lst xsT) := upd_same
  have sF : Same F1 F5 := fun a o z => by
    show upd F1 L _ a = _
    rw [upd_ne (ne_of_none z FL)]; exact z
  have xL : x ≠ L := fun z => by rw [← z, nx] at g3; cases g3
  have dL : dxA ≠ L := fun z => by rw [← z, ndx] at g3; cases g3
  have sH : Same H1 (upd (upd H1 dxA (.own x)) x (.ins C dxA [])) := fun b o e => by
    rw [upd_ne (ne_of_none e nx), upd_ne (ne_of_none e ndx)]; exact e
  have sFH : Same F5 H1 := fun a o z => by
    by_cases y2 : a = L
    · subst y2; rw [hFL] at z; rw [← z]; exact g3
    · have : F5 a = F1 a := upd_ne y2
      rw [this] at z
      exact R1.ex _ _ z
  have hc' : CellAt F5 (upd (upd H1 dxA (.own x)) x (.ins C dxA [])) (.ref x) [x, dxA] (recC C x []) := ⟨dxA, [], [], rfl, fun a => by simp, nex.symm, List.not_mem_nil, List.not_mem_nil, upd_same, by rw [upd_ne nex]; exact upd_same, .nil⟩
  have hfp : ∀ a ∈ [x, dxA], F5 a = none ∧ H1 a = none := fun a ha => by
    rcases List.mem_cons.mp ha with e | e
    · subst e; exact ⟨sFH.free nx, nx⟩
    · rw [List.mem_singleton.mp e]; exact ⟨sFH.free ndx, ndx⟩
  have rr : Reps F5 (vs ++ [V.ref L]) (ds ++ [PyData.list xs]) := (r1.mono sF).append (.cons (.lst hFL (g4.mono sF)) .nil)
  show spOf g (.ref x :: ((vs ++ [V.ref L]) ++ [])) _ _ E
  rw [List.append_nil]
  refine ⟨F5, fun _ => [x, dxA], _, _, _, Rel.enter1 (sFH.trans sH) hc' (fun a ha => (hfp a ha).1) rr, fun j c' e => ?_, h1, ?_, fun C z args' hz => hz.elim⟩
  · cases j with
    | zero => cases e
    | succ j =>
      obtain ⟨d, z, _⟩ := fzs_get (by rw [List.getElem?_cons_succ] at e; exact e)
      cases z
  · intro r args' hr hio v F' H' A
    have nin : ∀ a o, H1 a = some o → a ∉ [x, dxA] := fun a o e m => by rw [(hfp a m).2] at e; cases e
    have f0 : Same F5 F' := A.rel.f0
    have hH : Same H1 H' := fun a o e => A.rel.fr a o (sH a o e) fun _ => nin a o e
    have ex : Ext F1 H1 (delF F' L) H' := ⟨fun a o z => by rw [delF_ne (fun y => by rw [y, FL] at z; cases z)]; exact f0 a o (sF a o z), hH, fun a o z => A.ex a o (delF_of z).2, fun a o z => by
      obtain ⟨n, z⟩ := delF_of z
      rcases A.rel.gr a o z with w | w
      · have : F5 a = F1 a := upd_ne n
        have w : F5 a = some o := w
        rw [this] at w; exact .inl w
      · exact .inr (sH.free w)⟩
    split at hr
    · split at hr
      · next c' rest =>
        obtain ⟨fp', d1, d2⟩ := A.outIo
        have e := A.outFz.non_of
        refine ⟨e, ?_⟩
        refine q (delF F' L) H' ρ1 (.ref x) c' (R1.extNew ex (hr.1 F' H' _ _ L xsT (f0 L _ hFL) d1) fun a ha => ⟨?_, ?_⟩) (s1.trans ex.fF) hr.2
        · by_cases y : a = L
          · rw [y]; exact delF_same
          · rw [delF_ne y]; exact (d2 a ha).1
        · rcases (d2 a ha).2 with z | z
          · exact (hfp a z).2
          · exact sH.free z
      · exact hr.elim
    · exact hr.elim
theorem dn_makeL (tk : L2N.Takes X (fun cls d _ H => E cls d H)) (M : Mk X.K C f) (Fn : FnOk X.prog X.w X.K X.mg X.base (L2N.CX X.prog X.w) k f fd ps (spOf g)) (hr : Room (k + 1) X.A) (hg : Gl X x) (hm : X.mg x = some (.ref C)) (hb : Binds X.K fd ps [])
    (ha : PDAL X W (e :: es) i da) (hdb : (x == ("__debug__" : Str)) = false := by decide) (he : starEach (e :: es) X.env = (false, eval e X.env) :: starEach es X.env := by rfl) (hpl : (backTo pos (starEach es X.env)).any (·.1) = false := by rfl) :
    PDN X W (.Call (.Name x p) (e :: es) [] pos) (dMakeL C g i da) := by
  obtain ⟨ta, a1, a2⟩ := ha.ex
  exact ⟨_, pe_make M Fn hr hg hm hb .nil (L2N.passes_call tk fun _ _ _ _ h => h) a1 hdb he hpl, snd_makeL a2⟩
end

/-! RD46: C(c = .., b = .., a = ..): made by names in the reverse order -/
open PySem L2
def rvM (us ws : List V) : List V := us ++ (ws.reverse ++ [])
def rvMv (us ws : List Value) : List Value := us ++ (ws.reverse ++ [])
theorem kbn_rev4 {K : PySem.W.Frag} {fd : FuncData} {p0 p1 p2 p3 : Str} (h : ∀ x a b c : Value, bindArgs fd ⟨[x], [(p3, a), (p2, b), (p1, c)]⟩ = pure [(p0, x), (p1, c), (p2, b), (p3, a)]) : KBn K fd [p0, p1, p2, p3] 1 [p3, p2, p1] rvMv rvM :=
  ⟨fun s us ws _ h0 hl => by
    match us, ws, h0, hl with
    | [x], [a, b, c], _, _ => exact .of_eq (h x a b c), fun h1 h2 => Vals.app h1 (Vals.app (Vals.rev h2) .nil)⟩
def CalCR (P : Program) (w : World) (K : PySem.W.Frag) (mg : Str → Option Value) (base : Heap) (x : Str) (C : Addr) (k : Nat) (ps : List Str) (g : GSp) : Prop := ∃ (f : Addr) (fd : FuncData), FnOk P w K mg base (L2N.CX P w) k f fd ps (spOf g) ∧ Mk K C f ∧ mg x = some (.ref C) ∧ Binds K fd ps [] ∧ KBn K fd ps 1 ps.tail.reverse rvMv rvM
def dRev3 (da : DA) : DA := fun ρ Q => da ρ fun ds ρ1 => ds.length = 3 ∧ Q ds.reverse ρ1
def dMakeKR (C : Addr) (g : GSp) (dx : DX) (da : DA) : DN := dMakeR C g dx (dRev3 da)
section
variable {X : Cx} {W : Ent} {E : XK} {dx : DX} {g : GSp} {da : DA} {f C : Addr} {k : Nat} {fd : FuncData} {ps : List Str} {p1 p2 p3 x : Str} {p pos : Pos} {kws : List Keyword}
theorem tk_of (X0 : ExL W E dx) (tk : L2N.Takes X (fun cls d _ H => E cls d H)) : L2N.Takes X (fun cls d _ H => E cls d H) := tk
theorem snd_rev3 {ta : TA} (ha : SndA W ta da) : SndA W (fun σ H Q => ta σ H fun zs H2 => ([] : List V).length = 0 ∧ zs.length = 3 ∧ Q zs.reverse H2) (dRev3 da) := by
  intro F H σ τ ρ ε Q kk R h q
  exact ha F H σ τ ρ ε _ _ R h fun F1 H1 ρ1 vs ds R1 s1 r1 h1 => ⟨rfl, by rw [r1.length]; exact h1.1, q F1 H1 ρ1 _ _ R1 s1 r1.reverse h1.2⟩
theorem dn_makeKR (X0 : ExL W E dx) (tk : L2N.Takes X (fun cls d _ H => E cls d H)) (M : Mk X.K C f) (Fn : FnOk X.prog X.w X.K X.mg X.base (L2N.CX X.prog X.w) k f fd ps (spOf g)) (hr : Room (k + 1) X.A) (hg : Gl X x) (hm : X.mg x = some (.ref C)) (hb : KBn X.K fd ps 1 [p1, p2, p3] rvMv rvM)
    (ha : PDK X W kws da) (hall : (backToKw pos (keywordEach kws X.env)).all (·.1.isSome) = true := by rfl) (hks : (backToKw pos (keywordEach kws X.env)).filterMap (·.1) = [p1, p2, p3] := by rfl) (hdb : (x == ("__debug__" : Str)) = false := by decide)
    (hpl : ((backTo pos (starEach [] X.env)).any (·.1) || (backToKw pos (keywordEach kws X.env)).any (·.1.isNone)) = false := by rfl) :
    PDN X W (.Call (.Name x p) [] kws pos) (dMakeKR C g dx da) := by
  obtain ⟨ta, a1, a2⟩ := ha.ex
  exact ⟨_, pe_makeK0 M Fn hr hg hm hb (L2N.passes_call tk fun _ _ _ _ h => h) a1 hall hks hdb hpl, fun F H σ τ ρ ε Q kk R h q => snd_makeR X0 (snd_rev3 a2) F H σ τ ρ ε Q kk R h q⟩
end

/-! RD47: lists and tuples come to their end while an exception is handled -/
open PySem PySem.Spec PyProof.Rows L2 HotX
section
variable {prog : Program} {w : World} {A : Around} {E : Value → Shared → Prop} {s : Shared}
/-- an iterator of two fields is not the exception that is handled -/
theorem hot_ne {x1 it : Addr} {o : Obj} {a b : Value} (hot : HotAt A x1 s.heap) (h : s.heap.get? it = some o) (d : o.data = .fields #[a, b]) : x1 ≠ it := fun z => by
  obtain ⟨_, o1, vs1, h1, d1, c1⟩ := hot
  rw [z, h] at h1
  cases h1
  rw [d] at d1
  cases d1
  cases c1
theorem next_list_end_hot {it l x1 : Addr} {i : Nat} {items : Array Value} {Q : Option Value → Shared → Prop} (hot : HotAt A x1 s.heap) (hit : s.heap.IsListIter it l i) (hl : s.heap.IsList l items) (hx : items[i]? = none)
    (hQ : ∀ h', Heap.ExtBut it s.heap h' → Q none { s with heap := h' }) : wpAny (model prog w) A (pyNext (.ref it)) Q E s := by
  obtain ⟨o, ho, hc, hd⟩ := id hit
  have hne := hot_ne hot ho hd
  obtain ⟨hh, o1, vs1, h1, d1, c1⟩ := hot
  obtain ⟨ol, hol, _, nl, hdl⟩ := hl
  unfold pyNext
  refine wpAny_bind (wpAny_attempt (wpAny_callSpecial?_slot (name := Str.ofString "__next__") hit.typeIs slot_listiter_next (wpAny_call_entry slot_listiter_next hit.typeIs entry_listiter_next ?_ (args_listiter_next _))))
  show wpAny _ _ (field (.ref it) 0 >>= fun _ => _) _ _ s
  refine wpAny_bind (wpAny_field ho hd (x := Value.ref l) rfl ?_)
  show wpAny _ _ (if (Value.ref l == Value.none) = true then _ else _) _ _ s
  rw [if_neg (show ¬ ((Value.ref l == Value.none) = true) from Bool.false_ne_true)]
  show wpAny _ _ (field (.ref it) 1 >>= fun _ => _) _ _ s
  refine wpAny_bind (wpAny_field ho hd (x := Value.int i 0) rfl ?_)
  show wpAny _ _ (seqItems? (.ref l) >>= fun _ => _) _ _ s
  refine wpAny_bind (wpAny_seqItems hol hdl ?_)
  simp only [Int.toNat_natCast, hx]
  refine wpAny_bind (wpAny_rule (wpAny_bind (wpAny_setField ho hd (by simp) ?_)))
  show wpAny _ _ (newExc (.type "StopIteration") [] >>= fun _ => _) _ _ _
  have k0 : ∀ f : Obj → Obj, (s.heap.update it f).get? x1 = some o1 := fun f => by rw [Heap.get?_update_other _ _ hne.symm]; exact h1
  refine wpAny_bind (m := newExc _ _) ?_
  simp only [newExc, newTuple]
  refine wpAny_bind (wpAny_newObj_type ?_ (by size_fits))
  refine wpAny_bind (m := firstArgMember _ _) (wpAny_of_eq (a := Value.none) (by first | rfl | (simp only [firstArgMember]; rfl)) (wpAny_newObj_type ?_ (by size_fits)))
  refine raiseNew_hot ⟨hh, o1, vs1, Heap.get?_push_of_some _ (Heap.get?_push_of_some _ (k0 _)), d1, c1⟩ (Nat.ne_of_lt (Heap.lt_size (Heap.get?_push_of_some _ (k0 _)))) (Heap.get?_push_size _ rfl) rfl (by first | (simp; done) | (simp; omega) | (simp only [Array.size_append]; simp; omega)) ?_
  refine wpAny_bind (wpAny_isInstance (T := "StopIteration") (b := true) ⟨_, Heap.get?_update_self _ (Heap.get?_push_size _ rfl) rfl, rfl⟩ isSubtype_stop (wpAny_pure (hQ _ fun b u hb e => ?_)))
  have e1 : (s.heap.update it (Obj.mapFields (·.setIfInBounds 0 .none))).get? b = some u := by rw [Heap.get?_update_other _ _ (Ne.symm hb)]; exact e
  rw [Heap.get?_update_other _ _ (Nat.ne_of_gt (Heap.lt_size (Heap.get?_push_of_some _ e1)))]
  exact Heap.get?_push_of_some _ (Heap.get?_push_of_some _ e1)
theorem next_tuple_end_hot {it t x1 : Addr} {i : Nat} {items : Array Value} {Q : Option Value → Shared → Prop} (hot : HotAt A x1 s.heap) (hit : IsTupIter s.heap it t i) (ht : IsTup s.heap t items) (hx : items[i]? = none)
    (hQ : ∀ h', Heap.ExtBut it s.heap h' → Q none { s with heap := h' }) : wpAny (model prog w) A (pyNext (.ref it)) Q E s := by
  obtain ⟨o, ho, hc, hd⟩ := id hit
  have hne := hot_ne hot ho hd
  obtain ⟨hh, o1, vs1, h1, d1, c1⟩ := hot
  obtain ⟨ol, hol, _, nl, hdl⟩ := ht
  unfold pyNext
  refine wpAny_bind (wpAny_attempt (wpAny_callSpecial?_slot (name := Str.ofString "__next__") hit.typeIs slot_tupleiter_next (wpAny_call_entry slot_tupleiter_next hit.typeIs entry_tupleiter_next ?_ (args_tupleiter_next _))))
  show wpAny _ _ (field (.ref it) 0 >>= fun _ => _) _ _ s
  refine wpAny_bind (wpAny_field ho hd (x := Value.ref t) rfl ?_)
  show wpAny _ _ (if (Value.ref t == Value.none) = true then _ else _) _ _ s
  rw [if_neg (show ¬ ((Value.ref t == Value.none) = true) from Bool.false_ne_true)]
  show wpAny _ _ (field (.ref it) 1 >>= fun _ => _) _ _ s
  refine wpAny_bind (wpAny_field ho hd (x := Value.int i 0) rfl ?_)
  show wpAny _ _ (seqItems? (.ref t) >>= fun _ => _) _ _ s
  refine wpAny_bind (wpAny_seqItems hol hdl ?_)
  simp only [Int.toNat_natCast, hx]
  refine wpAny_bind (wpAny_rule (wpAny_bind (wpAny_setField ho hd (by simp) ?_)))
  show wpAny _ _ (newExc (.type "StopIteration") [] >>= fun _ => _) _ _ _
  have k0 : ∀ f : Obj → Obj, (s.heap.update it f).get? x1 = some o1 := fun f => by rw [Heap.get?_update_other _ _ hne.symm]; exact h1
  refine wpAny_bind (m := newExc _ _) ?_
  simp only [newExc, newTuple]
  refine wpAny_bind (wpAny_newObj_type ?_ (by size_fits))
  refine wpAny_bind (m := firstArgMember _ _) (wpAny_of_eq (a := Value.none) (by first | rfl | (simp only [firstArgMember]; rfl)) (wpAny_newObj_type ?_ (by size_fits)))
  refine raiseNew_hot ⟨hh, o1, vs1, Heap.get?_push_of_some _ (Heap.get?_push_of_some _ (k0 _)), d1, c1⟩ (Nat.ne_of_lt (Heap.lt_size (Heap.get?_push_of_some _ (k0 _)))) (Heap.get?_push_size _ rfl) rfl (by first | (simp; done) | (simp; omega) | (simp only [Array.size_append]; simp; omega)) ?_
  refine wpAny_bind (wpAny_isInstance (T := "StopIteration") (b := true) ⟨_, Heap.get?_update_self _ (Heap.get?_push_size _ rfl) rfl, rfl⟩ isSubtype_stop (wpAny_pure (hQ _ fun b u hb e => ?_)))
  have e1 : (s.heap.update it (Obj.mapFields (·.setIfInBounds 0 .none))).get? b = some u := by rw [Heap.get?_update_other _ _ (Ne.symm hb)]; exact e
  rw [Heap.get?_update_other _ _ (Nat.ne_of_gt (Heap.lt_size (Heap.get?_push_of_some _ e1)))]
  exact Heap.get?_push_of_some _ (Heap.get?_push_of_some _ e1)
theorem hot_keep {x1 : Addr} {h h' : Heap} (hot : HotAt A x1 h) (k : ∀ o, h.get? x1 = some o → h'.get? x1 = some o) : HotAt A x1 h' := by
  obtain ⟨hh, o, vs, g, d, c⟩ := hot
  exact ⟨hh, o, vs, k o g, d, c⟩
/-- a, b, .. = a tuple, while an exception is handled -/
theorem assign_tuple_hot {env : Env} {elts : List Expr} {k : Nat} {pos : Pos} {t x1 : Addr} {items : Array Value} {Q : Unit → Shared → Prop} (hot : HotAt A x1 s.heap) (ht : IsTup s.heap t items)
    (hn : (assignEach elts env).length = items.size) (hstar : (assignEach elts env).findIdx? (·.1) = none)
    (h : ∀ h', Heap.ExtBut s.heap.objs.size s.heap h' → wpAny (model prog w) A (assignInOrder ((assignEach elts env).map (·.2)) items.toList) Q E { s with heap := h' }) :
    wpAny (model prog w) A (assign (.Tuple elts k pos) env (.ref t)) Q E s := by
  rw [assign_Tuple]
  refine wpAny_bind (wpAny_standAt ?_)
  unfold unpack
  rw [hn, hstar]
  refine wpAny_bind (wpAny_holding ?_)
  have x1lt : x1 < s.heap.objs.size := by
    obtain ⟨_, o1, _, g, _⟩ := hot
    exact Heap.lt_size g
  have hlt : t ≠ s.heap.objs.size := by
    obtain ⟨o, ho, _⟩ := ht
    exact Nat.ne_of_lt (Heap.lt_size ho)
  unfold unpackItems
  refine wpAny_bind (m := notIterableAtAll _) ?_
  unfold notIterableAtAll
  refine wpAny_bind (wpAny_specialOf ht.typeIs slot_tuple_iter.lookup (wpAny_pure ?_))
  simp only [Bool.false_eq_true, if_false]
  refine wpAny_bind (wpAny_holding (iter_tuple ht (wpAny_bind (wpAny_holding (draw_tuple hlt items.size 0 _ _ ⟨_, Heap.get?_push_size _ rfl, rfl, rfl⟩ (ht.push _) (by omega) fun h₁ hit₁ hs₁ => ?_)))))
  have hall : (items.toList.drop 0).take items.size = items.toList := by rw [List.drop_zero]; exact List.take_of_length_le (by simp)
  rw [hall, if_neg (by simp)]
  have ht₁ : IsTup h₁ t items := (ht.push _).extBut hs₁.extBut hlt
  have hot1 : HotAt A x1 h₁ := hot_keep hot fun o g => hs₁.extBut x1 o (Nat.ne_of_lt x1lt) (Heap.get?_push_of_some _ g)
  refine wpAny_bind (wpAny_holding (next_tuple_end_hot hot1 hit₁ ht₁ (by simp) fun h₂ he₂ => ?_))
  simp only [Option.isSome_none, Bool.false_eq_true, if_false]
  exact wpAny_pure (h h₂ fun b o hb e => he₂ b o hb (hs₁.extBut b o hb (Heap.get?_push_of_some _ e)))
end

/-! RD48: list comprehensions while an exception is handled -/
open PySem PySem.Spec PyProof.Rows L2 L2H HotX
/-- a list walked, while an exception is handled -/
theorem turn_listH {P : Program} {w : World} {K : PySem.W.Frag} {tg : Expr} (a i0 : Addr) : TurnH P w K tg (Itl K a) [i0] i0 (fun k h => h.IsListIter i0 a k) where
  mem := List.mem_singleton.mpr rfl
  obj := fun k h st b hb => by
    obtain ⟨o, e, _, d⟩ := st
    rw [List.mem_singleton.mp hb]
    exact ⟨o, e, fun v z => by rw [d] at z; cases z⟩
  keep := fun k h h' st q => st.at fun o e => q i0 (List.mem_singleton.mpr rfl) o e
  item := by
    rintro X rfl rfl rfl hot k ps s σ H E I hf st ⟨xs, x, hq, hx⟩
    obtain ⟨its, rv, pl, _⟩ := I.list hq
    obtain ⟨u, hu, ru⟩ := rv.get hx
    have f := hf i0 (List.mem_singleton.mpr rfl)
    refine wpAny_pyNext_list_item st pl.isList (x := u) (by simpa using hu) fun g st' sb => ?_
    obtain ⟨o, e, c, d⟩ := id st'
    refine ⟨u, rfl, go_of (s := { s with heap := g }) e c d (by decide) ⟨x, H, ?_, ru, ⟨rfl, fun ys hy => by rw [I.list_inj hy hq]; exact hx⟩, st', fun b hb => (hf b hb).1⟩⟩
    exact I.turned (t' := s.toks) (fun b o nb e => (sb.2 b nb).trans e) f.1 f.2.1 f.2.2.2.1 f.2.2.2.2.1 f.2.2.2.2.2
  done := by
    rintro X rfl rfl rfl hot k ps s σ H E I hf st ⟨xs, hq, hx⟩
    obtain ⟨its, rv, pl, _⟩ := I.list hq
    have f := hf i0 (List.mem_singleton.mpr rfl)
    obtain ⟨x1, h1⟩ := hot.at I
    have ln := rv.length
    exact next_list_end_hot h1 st pl.isList (by simp; omega) fun g eb => ⟨rfl, I.turned (t' := s.toks) (fun b o nb e => eb b o nb e) f.1 f.2.1 f.2.2.2.1 f.2.2.2.2.1 f.2.2.2.2.2⟩
  self := fun _ _ _ _ _ st q => wpAny_pyIter_listiter st q
theorem pi_listH {X : Cx} {tg l : Expr} {tl : TE} (hl : PE X l tl) : PIH X tg l (iList X.K tl) := ⟨fun ps s σ H R I h => thn (hl.run ps s σ H _ I h) fun v s1 ⟨x, H1, I1, r1, a, ex, ⟨xs, hq⟩, q⟩ => by
  subst ex
  cases r1
  obtain ⟨its, rv, pl, _⟩ := I1.list hq
  exact wpAny_pyIter_list pl.isList ⟨s1.heap.objs.size, [s1.heap.objs.size], _, _, H1, rfl, I1.kept (t' := s1.toks) fun b o e => Heap.get?_push_of_some _ e, turn_listH a _, ⟨_, Heap.get?_push_size _ rfl, rfl, rfl⟩,
    fun b hb => by rw [List.mem_singleton.mp hb]; exact I1.fpOk (Nat.le_refl _) (I1.hok.fresh (Nat.le_refl _)), q⟩⟩
theorem pg_tupH {X : Cx} {es : List Expr} {k n : Nat} {t : TGs} {pos : Pos} (hot : HotC X) (h : PGs X es t) (hn : (assignEach es X.env).length = n := by rfl) (hst : (assignEach es X.env).findIdx? (·.1) = none := by rfl) : PG X (.Tuple es k pos) (gTup X.K n t) := ⟨fun ps s σ H v u Q I r hw => by
  obtain ⟨a, xs, rfl, hq, hl, hw⟩ := hw
  cases r
  obtain ⟨its, rv, ht, _⟩ := I.tuple hq
  obtain ⟨x1, h1⟩ := hot.at I
  exact assign_tuple_hot h1 ht (by simp [hn, ← hl, rv.length]) hst fun g hx => h.run ps _ σ H xs _ Q (I.kept (t' := s.toks) fun b o e => hx b o (Nat.ne_of_lt (Heap.lt_size e)) e) (by simpa using rv) hw⟩
/-- a block's context that bears the handled exception -/
abbrev bkH (X : Cx) (s : Shared) (H : Hp) (scope : Scope) (cenv : Env) (fp : List Addr) (p : Addr × Obj) : Cx := { X.blk s H scope cenv fp with pn := [p] }
def PinF (fs : List Addr) (L : Addr) (H : Hp) (s : Shared) (p : Addr × Obj) : Prop := s.heap.get? p.1 = some p.2 ∧ H p.1 = none ∧ p.1 ≠ L ∧ p.1 ∉ fs ∧ ∀ v, p.2.data ≠ .cell v
section
variable {X : Cx} {s0 s : Shared} {H0 H : Hp} {scope : Scope} {cenv : Env} {fp : List Addr} {p : Addr × Obj} {ps : List (Addr × Obj)} {σ : L2.St}
theorem bkH_of (I : Inv (X.blk s0 H0 scope cenv fp) [] σ H s) (f : PinF (frs X.stack) cenv.locals H s p) : Inv (bkH X s0 H0 scope cenv fp p) [] σ H s :=
  ⟨⟨I.ok.mod, I.ok.kind, I.ok.glob, I.ok.blt, I.ok.above, I.ok.inj, I.ok.has, I.ok.cab, I.ok.hd, I.ok.frames, I.ok.stk, I.ok.exf, I.ok.bs, I.ok.bsz, I.ok.noex, I.ok.exfs, I.ok.funs, I.ok.frf⟩, I.os, I.bare, I.base, I.loc, I.cell, I.free, I.freeC,
    fun q hq => by rw [List.append_nil, List.mem_singleton] at hq; rw [hq]; exact f, I.hok, I.len⟩
theorem hot_bkH (h : Hot1 X.A p) : HotC (bkH X s0 H0 scope cenv fp p) := ⟨p, h, List.mem_singleton.mpr rfl⟩
end
section
variable {X : Cx} {elt tg iter : Expr} {ifs : List Expr} {scope : Scope} {own : List (Str × Nat)} {pos : Pos} {wi : TI} {g : TG} {tt : TT} {te : TE} {p : Addr × Obj}
/-- the block's loop -/
theorem lc_loopH {ps : List (Addr × Obj)} {s3 s4 : Shared} {σ : L2.St} {H3 : Hp} {Q : VK} {D it : Addr} {fp : List Addr} {ce : Env} {J : It} {tn : Nat → Heap → Prop} {W : Nat → Nat → Hp → Prop} {m0 : Nat} {Qf : Value → Shared → Prop} (hot : Hot1 X.A p)
    (T : TurnH X.prog X.w X.K tg J fp it tn) (I3 : Inv X ps σ H3 s3) (f3 : ∀ b ∈ fp, FpOk X ps H3 b) (pf : ∀ b ∈ fp, p.1 ≠ b) (hcl : ce.locals = s3.heap.objs.size)
    (I4 : Inv (bkH X s3 H3 scope ce fp p) [] (wipe σ (own.map (·.2))) H3 s4) (st4 : tn 0 s4.heap) (w0 : W 0 m0 H3)
    (pg : PG (bkH X s3 H3 scope ce fp p) tg g) (pt : PTs (bkH X s3 H3 scope ce fp p) ifs tt) (pe : PE (bkH X s3 H3 scope ce fp p) elt te)
    (turn : ∀ i m H, W i m H → (J.stop i H ∧ Q (.ref D) H) ∨ (J.go i H ∧ ∃ Nx : Hp → Prop, (∀ H', Nx H' → ∃ m', m' < m ∧ W (i + 1) m' H') ∧ ∀ x H', J.yld i H x H' → g x (wipe σ (own.map (·.2))) H' fun σ2 H2 => wipe σ2 (own.map (·.2)) = wipe σ (own.map (·.2)) ∧ tt σ2 H2 fun b H3 =>
      if b = true then te σ2 H3 fun y H4 => ∃ acc, H4 D = some (.lst acc) ∧ acc.length < sizeLine ∧ Nx (upd H4 D (.lst (acc ++ [y]))) else Nx H3))
    (fin : ∀ s' m H', Inv X ps σ H' s' → Q (.ref D) H' → s'.heap.Ns s3.heap.objs.size m → FpOk X ps H' s3.heap.objs.size → compPost (model X.prog X.w) X.A X.xe none Qf (.ref D) s3.heap.objs.size (.ok .next) s') :
    codeAny (model X.prog X.w) X.A (.compLoop (.ListComp elt [⟨tg, iter, ifs, 0⟩] scope pos) 0 (.ref it) (.ref D) ce) (compPost (model X.prog X.w) X.A X.xe none Qf (.ref D) s3.heap.objs.size) s4 := by
  have hcx := hot_bkH (X := X) (s0 := s3) (H0 := H3) (scope := scope) (cenv := ce) (fp := fp) hot
  have foot : ∀ {σ' : L2.St} {H' : Hp} {s' : Shared}, Inv (bkH X s3 H3 scope ce fp p) [] σ' H' s' → (∀ b ∈ fp, H' b = none) → ∀ b ∈ fp, FpOk (bkH X s3 H3 scope ce fp p) [] H' b := fun I' hn b hb =>
    ⟨hn b hb, (I'.ok.exf b hb).1, I'.ok.exfs b hb, .inl hb, (I'.ok.exf b hb).2, fun q hq => by rw [List.append_nil, List.mem_singleton] at hq; rw [hq]; exact pf b hb⟩
  refine compLoop_any (fun n s' => ∃ k H', Inv (bkH X s3 H3 scope ce fp p) [] (wipe σ (own.map (·.2))) H' s' ∧ tn k s'.heap ∧ (∀ b ∈ fp, H' b = none) ∧ W k n H') ?_ m0 ⟨0, H3, I4, st4, fun b hb => (f3 b hb).1, w0⟩
  rintro n s5 ⟨k, H5, I5, st5, n5, w5⟩
  rcases turn k n H5 w5 with ⟨stop, qq⟩ | ⟨go, Nx, hNx, step⟩
  · -- the end
    refine thnF (T.done (bkH X s3 H3 scope ce fp p) rfl rfl rfl hcx k [] s5 _ H5 (fun _ _ => False) I5 (foot I5 n5) st5 stop) fun r s6 ⟨er, I6⟩ => ?_
    subst er
    have away : H5 s3.heap.objs.size = none := by rw [← hcl]; exact I6.free
    obtain ⟨m, hm, _⟩ := I6.loc
    refine fin s6 m H5 (I3.call' (ch := fp) I6.os I6.base I6.hok I6.bare fun b hb => ⟨(f3 b hb).2.2.2.1, (f3 b hb).2.1, (f3 b hb).2.2.2.2.1, (f3 b hb).2.2.2.2.2⟩) qq ?_ (I3.fpOk (Nat.le_refl _) away)
    rw [← hcl]; exact hm
  · -- one more
    refine thnF (T.item (bkH X s3 H3 scope ce fp p) rfl rfl rfl hcx k [] s5 _ H5 (fun _ _ => False) I5 (foot I5 n5) st5 go) fun r s6 ⟨u, er, h6⟩ => ?_
    subst er
    refine thnF h6 fun _ s7 ⟨x, H7, I7, r7, y7, st7, n7⟩ => ?_
    refine thnF (pg.run _ s7 _ H7 x u _ (I7.pinned (foot I7 n7) (T.obj _ _ st7)) r7 (step x H7 y7)) fun _ s8 ⟨σ8, H8, I8, e8, q8⟩ => ?_
    have again : ∀ {s' : Shared} {H' : Hp}, Inv (bkH X s3 H3 scope ce fp p) ([] ++ pinsAt fp s7.heap) σ8 H' s' → Nx H' → ∃ m, m < n ∧ ∃ k H', Inv (bkH X s3 H3 scope ce fp p) [] (wipe σ (own.map (·.2))) H' s' ∧ tn k s'.heap ∧ (∀ b ∈ fp, H' b = none) ∧ W k m H' := fun {s' H'} I' nx => by
      obtain ⟨m', lt, w'⟩ := hNx H' nx
      have kept : ∀ b ∈ fp, ∀ o, s7.heap.get? b = some o → s'.heap.get? b = some o ∧ H' b = none := fun b hb o e => by
        have z := I'.pin (b, o) (List.mem_append_right _ (List.mem_append_right _ (mem_pinsAt hb e)))
        exact ⟨z.1, z.2.1⟩
      refine ⟨m', lt, k + 1, H', (Inv.unpinned (pins := []) I').weak (by rw [← e8, wipe_length]) (fun j v e => ?_), T.keep _ _ _ st7 fun b hb o e => (kept b hb o e).1, fun b hb => ?_, w'⟩
      · rw [← e8] at e; exact (wipe_some e).1
      · obtain ⟨o, e, _⟩ := T.obj _ _ st7 b hb
        exact (kept b hb o e).2
    refine thnF (pt.run _ s8 σ8 H8 _ I8 q8) fun b s9 ⟨H9, I9, q9⟩ => ?_
    cases b with
    | false =>
      rw [if_neg Bool.false_ne_true] at q9 ⊢
      exact again I9 q9
    | true =>
      rw [if_pos rfl] at q9 ⊢
      refine thnF (pe.run _ s9 σ8 H9 _ I9 q9) fun z s10 hz => ?_
      obtain ⟨yv, H10, I10, r10, acc, hD, few, nx⟩ := hz
      exact app_ok (X := bkH X s3 H3 scope ce fp p) I10 hD few r10 fun s11 I11 => again I11 nx
theorem pe_lcH (hp : Hot1 X.A p) (hm : p ∈ X.pn) (hN : X.N.Nodup) (hi : PIH X tg iter wi) (ok : BlkOk X.N X.env.scope scope own)
    (hg : ∀ (s : Shared) (H : Hp) (C : Addr) (cl : List (Str × Addr)) (fp : List Addr), PG (bkH X s H scope (compEnvC scope cl C X.env) fp p) tg g) (ht : ∀ (s : Shared) (H : Hp) (C : Addr) (cl : List (Str × Addr)) (fp : List Addr), PTs (bkH X s H scope (compEnvC scope cl C X.env) fp p) ifs tt)
    (he : ∀ (s : Shared) (H : Hp) (C : Addr) (cl : List (Str × Addr)) (fp : List Addr), PE (bkH X s H scope (compEnvC scope cl C X.env) fp p) elt te) (hs : ∀ x, foldedSetIterable iter X.env x = pure x := by intro _; rfl) :
    PE X (.ListComp elt [⟨tg, iter, ifs, 0⟩] scope pos) (tLc wi g tt te (own.map (·.2))) := ⟨fun ps s σ H Q I h => by
  rw [eval_ListComp]
  refine wpAny_comprehension_free (use := none) rfl hs (closure_ok fun y hy e => I.ok.has y.1 (ok.free y hy e)) ok.kind (fun y hy e => by rw [ok.uniq y hy, e]) (thn (hi.run ps s σ H _ I h) fun xv s1 hx => thn hx fun itv s2 h2 => ?_)
  obtain ⟨it, fp, tn, J, H2, rfl, I2, T, st2, f2, q⟩ := h2
  refine wpAny_newObj_type (newEnv_comp ?_) (Nat.zero_le sizeLine)
  obtain ⟨W, ⟨m0, w0⟩, turn⟩ := q s2.heap.objs.size (I2.hok.fresh (Nat.le_refl _))
  have I3 : Inv X ps σ (upd H2 s2.heap.objs.size (.lst [])) { s2 with heap := s2.heap.push { cls := .type "list", data := .seq ([] : List Value).toArray } } :=
    I2.laid (t' := s2.toks) (fun b o e => Heap.get?_push_of_some _ e) (Nat.le_refl _) ⟨Nat.zero_le _, [], 0, .nil, Heap.get?_push_size _ rfl⟩
  have old : ∀ b ∈ fp, b < s2.heap.objs.size := fun b hb => by
    obtain ⟨o, e, _⟩ := T.obj _ _ st2 b hb
    exact Heap.lt_size e
  have f3 : ∀ b ∈ fp, FpOk X ps (upd H2 s2.heap.objs.size (.lst [])) b := fun b hb => ⟨by rw [upd_ne (Nat.ne_of_lt (old b hb))]; exact (f2 b hb).1, (f2 b hb).2⟩
  have st3 : tn 0 ({ s2 with heap := s2.heap.push { cls := .type "list", data := .seq ([] : List Value).toArray } } : Shared).heap := T.keep _ _ _ st2 fun b _ o e => Heap.get?_push_of_some _ e
  have lt3 : ∀ b ∈ fp, b < ({ s2 with heap := s2.heap.push { cls := .type "list", data := .seq ([] : List Value).toArray } } : Shared).heap.objs.size := fun b hb => by
    show b < (s2.heap.push _).objs.size
    rw [Heap.size_push]; exact Nat.lt_succ_of_lt (old b hb)
  generalize s2.heap.objs.size = D at I3 w0 turn f3 ⊢
  generalize upd H2 D (.lst []) = H3 at I3 w0 f3
  generalize ({ s2 with heap := s2.heap.push { cls := .type "list", data := .seq ([] : List Value).toArray } } : Shared) = s3 at I3 st3 lt3 ⊢
  have I4 := block_start I3 ok hN fun b hb => ⟨f3 b hb, lt3 b hb⟩
  have pF := I3.pin p (List.mem_append_left _ hm)
  have kp : ∀ b o, s3.heap.get? b = some o → (pushCells (s3.heap.push { cls := .type "dict", data := .dict #[] }) scope.names).get? b = some o := fun b o e => pushCells_keeps _ _ _ _ (Heap.get?_push_of_some _ e)
  have I5 := bkH_of (p := p) I4 ⟨kp _ _ pF.1, pF.2.1, Nat.ne_of_lt (Heap.lt_size pF.1), fun z => (List.mem_cons.mp (I3.stkSub p.1 z)).elim pF.2.2.1 pF.2.2.2.1, pF.2.2.2.2⟩
  have pg := hg s3 H3 s3.heap.objs.size (cellsFrom (s3.heap.objs.size + 1) scope.names (cloFrom X.env.cells scope.names [])) fp
  have pt := ht s3 H3 s3.heap.objs.size (cellsFrom (s3.heap.objs.size + 1) scope.names (cloFrom X.env.cells scope.names [])) fp
  have pe := he s3 H3 s3.heap.objs.size (cellsFrom (s3.heap.objs.size + 1) scope.names (cloFrom X.env.cells scope.names [])) fp
  have st4 : tn 0 (pushCells (s3.heap.push { cls := .type "dict", data := .dict #[] }) scope.names) := T.keep _ _ _ st3 fun b _ o e => kp b o e
  have lp := lc_loopH (pos := pos) (iter := iter) (D := D) (Q := Q) (Qf := EP X ps σ Q) hp T I3 f3 (fun b hb => (f3 b hb).2.2.2.2.2 p (List.mem_append_left _ hm)) rfl I5 st4 w0 pg pt pe turn fun s' m H' I' q hn f => ⟨m, hn, fun g sb => ⟨.ref D, H', I'.turned (t' := s'.toks) (fun b o nb e => (sb.2 b nb).trans e) f.1 f.2.1 f.2.2.2.1 f.2.2.2.2.1 f.2.2.2.2.2, rfl, q⟩⟩
  exact codeAny_compStart_list lp (T.self X.A 0 _ _ _ st4 lp)⟩
end

/-! RD39: try .. except E as e: suite; isinstance(e, ..), e.what in the suite -/
open PySem L2
/-! ### isinstance of a caught error that has a dict of its own -/
structure ExcD (K : PySem.W.Frag) (D : Addr) : Prop where
  cl : (PySem.W.clsIn K D).isSome = true
  ga : PySem.W.findIn K (.ref D) "__getattribute__" = some (some (.builtin "BaseException.__getattribute__"))
  gt : PySem.W.findIn K (.ref D) "__getattr__" = some none
  sb : PySem.W.subIn K (.ref D) (.type "BaseException") = some true
  hd : PySem.W.hasDictIn K D = true
  ca : PySem.W.findIn K (.ref D) "__class__" = some (some (.builtin "object.__class__"))
  cn : PySem.W.specialIn K (.builtin "object.__class__") "__get__" = some (some (.builtin "getset_descriptor.__get__"))
  ct : PySem.W.takesIn K (.builtin "object.__class__") = some true
  mr : PySem.W.mroIn K D (.type "object") = some true
  nw : PySem.W.findIn K (.ref D) "what" = some none
theorem inst_ed {X : Cx} {a D d : Addr} {oe : Obj} {pn pins : List (Addr × Obj)} {σ : L2.St} {H : Hp} {s : Shared} {fs : List (Str × V)} (hz : Zc (.ref D) (some d) oe) (hf : ∃ vs, oe.data = .fields vs) (I : Inv (X.suite a ((a, oe) :: pn)) pins σ H s) (hd : H d = some (.xd fs)) : ∃ od, PySem.W.InstAt s.heap a oe D (some od) := by
  obtain ⟨ha, _⟩ := I.pin (a, oe) (List.mem_append_left _ List.mem_cons_self)
  obtain ⟨vs, hv⟩ := hf
  have hx : ObjOk X.prog X.w H s.heap d (.xd fs) := I.hok d _ hd
  obtain ⟨mA, hns, hr⟩ := hx
  obtain ⟨od, ho, hl⟩ := lookIn_ns hns
  exact ⟨od, ha, hz.1, by unfold PySem.W.notCls; rw [hv] <;> rfl, by rw [hz.2]; exact ho⟩
def rIsEd (K : PySem.W.Frag) (D a d : Addr) : List V → Hp → VK → Prop := fun xs H Q => ∃ (c : V) (u : Value) (b : Bool), xs = [.ref a, c] ∧ (∃ fs, H d = some (.xd fs)) ∧ ClsV c u ∧ PySem.W.kitOne K (.ref D) u = some b ∧ Q (.bl b) H
def rIsEt (K : PySem.W.Frag) (D a d : Addr) : List V → Hp → VK → Prop := fun xs H Q => ∃ (tp : Addr) (cs : List V) (us : List Value) (b : Bool), xs = [.ref a, .ref tp] ∧ (∃ fs, H d = some (.xd fs)) ∧ H tp = some (.tup cs) ∧ Paired ClsV cs us ∧ PySem.W.kitAny K (.ref D) us = some b ∧ Q (.bl b) H
section
variable {X : Cx} {a D d : Addr} {oe : Obj} {pn : List (Addr × Obj)}
theorem call_isEd (C : ExcD X.K D) (hz : Zc (.ref D) (some d) oe) (hf : ∃ vs, oe.data = .fields vs) : CallR (X.suite a ((a, oe) :: pn)) (.builtin "isinstance") (rIsEd X.K D a d) := by
  intro pins s σ H xs us Q I r h
  obtain ⟨c, u, b, rfl, ⟨fs, hd⟩, hc, e, q⟩ := h
  obtain ⟨u1, u2, rfl, r1, r2⟩ := vals2 r
  cases (show u1 = Value.ref a from r1)
  have ec := hc.eq r2
  subst ec
  obtain ⟨od, J⟩ := inst_ed hz hf I hd
  exact PySem.W.kia_one (PySem.W.kitx_exc C.cl C.ga C.gt C.sb C.ca C.cn C.ct C.mr) I.kIn J e (fun z => nomatch z) fun tk => ⟨.bl b, H, I.tok tk, rfl, q⟩
theorem call_isEt (C : ExcD X.K D) (hz : Zc (.ref D) (some d) oe) (hf : ∃ vs, oe.data = .fields vs) : CallR (X.suite a ((a, oe) :: pn)) (.builtin "isinstance") (rIsEt X.K D a d) := by
  intro pins s σ H xs us Q I r h
  obtain ⟨tp, cs, ws, b, rfl, ⟨fs, hd⟩, hT, hc, e, q⟩ := h
  obtain ⟨u1, u2, rfl, r1, r2⟩ := vals2 r
  cases (show u1 = Value.ref a from r1)
  cases (show u2 = Value.ref tp from r2)
  obtain ⟨od, J⟩ := inst_ed hz hf I hd
  obtain ⟨_, its, rv, o, h1, h2, n, h3⟩ := (show ObjOk X.prog X.w H s.heap tp (.tup cs) from I.hok tp _ hT)
  have e3 := ClsV.all hc rv
  subst e3
  obtain ⟨oc, od', dt, sl⟩ := o
  simp only at h2 h3
  subst h2 h3
  exact PySem.W.kia_tup (PySem.W.kitx_exc C.cl C.ga C.gt C.sb C.ca C.cn C.ct C.mr) I.kIn J h1 e (fun z => nomatch z) fun tk => ⟨.bl b, H, I.tok tk, rfl, q⟩
end
/-! ### the caught error, by its name -/
/-- the error at a, its own dict at d, what it says z -/
def cauX (a d : Addr) (z : D) : XCell where
  rel := fun F H v fp => v = .ref a ∧ fp = [d] ∧ ∃ w, H d = some (.xd [(("what" : Str), w)]) ∧ Rep F w z
  loc := by
    rintro F F' H H' v fp ⟨e1, e2, w, h1, h2⟩ s k
    exact ⟨e1, e2, w, by rw [k d (by rw [e2]; exact List.mem_cons_self)]; exact h1, h2.mono s⟩
  there := by
    rintro F H v fp ⟨e1, e2, w, h1, h2⟩ a m
    rw [e2] at m
    rw [List.mem_singleton.mp m]
    exact ⟨_, h1⟩
def cauC (a d : Addr) (z : D) : Cell := .ext (cauX a d z)
theorem cau_ex {a d : Addr} {z : D} : (∃ z', cauC a d z = cauC a d z') = True := eq_true ⟨z, rfl⟩
def dIsE (K : PySem.W.Frag) (D : Addr) (u : Value) (i : Nat) (a d : Addr) : DE := fun ρ Q => (∃ z, ρ[i]? = some (.ow (cauC a d z))) ∧ ∃ b, PySem.W.kitOne K (.ref D) u = some b ∧ Q (.bool b) ρ
def dIsEt (K : PySem.W.Frag) (D : Addr) (us : List Value) (i : Nat) (a d : Addr) : DE := fun ρ Q => (∃ z, ρ[i]? = some (.ow (cauC a d z))) ∧ ∃ b, PySem.W.kitAny K (.ref D) us = some b ∧ Q (.bool b) ρ
def dWhat (i : Nat) (a d : Addr) : DE := fun ρ Q => ∃ z, ρ[i]? = some (.ow (cauC a d z)) ∧ Q z ρ
theorem cau_of {W : Ent} {F H : Hp} {σ τ : L2.St} {ρ ε : Rho} {i : Nat} {a d : Addr} {z : D} (R : At W F H σ τ ρ ε) (h : ρ[i]? = some (.ow (cauC a d z))) : σ[i]? = some (some (.ref a)) ∧ ∃ w, H d = some (.xd [(("what" : Str), w)]) ∧ Rep F w z := by
  obtain ⟨v, fp, g1, ⟨e1, e2, w, h1, h2⟩, _⟩ := R.cellX h rfl
  subst e1
  exact ⟨g1, w, h1, h2⟩
inductive ClsVs (X : Cx) : List Expr → List V → List Value → Prop where
  | nil : ClsVs X [] [] []
  | cons {e : Expr} {c : V} {u : Value} {es : List Expr} {cs : List V} {us : List Value} (h : PE X e (tC c)) (k : ClsV c u) (hs : starEach (e :: es) X.env = (false, eval e X.env) :: starEach es X.env) (t : ClsVs X es cs us) : ClsVs X (e :: es) (c :: cs) (u :: us)
def tAll : List V → TA
  | [] => tNil
  | c :: cs => tCons (tC c) (tAll cs)
theorem ClsVs.pa {X : Cx} : ∀ {es : List Expr} {cs : List V} {us : List Value}, ClsVs X es cs us → PA X es (tAll cs)
  | _, _, _, .nil => pa_nil
  | _, _, _, .cons h k hs t => pa_cons h t.pa hs
theorem ClsVs.paired {X : Cx} : ∀ {es : List Expr} {cs : List V} {us : List Value}, ClsVs X es cs us → Paired ClsV cs us
  | _, _, _, .nil => .nil
  | _, _, _, .cons h k hs t => .cons k t.paired
theorem tAll_all : ∀ {cs : List V} {σ : L2.St} {H : Hp} {Q : List V → Hp → Prop}, Q cs H → tAll cs σ H Q
  | [], _, _, _, h => h
  | c :: cs, σ, H, Q, h => tAll_all (cs := cs) (Q := fun xs H2 => Q (c :: xs) H2) h
section
variable {X : Cx} {W : Ent} {a D d : Addr} {oe : Obj} {pn : List (Addr × Obj)} {e ce : Expr} {es : List Expr} {i k : Nat} {c : V} {u : Value} {cs : List V} {us : List Value} {p pos pt : Pos}
theorem de_isE (C : ExcD X.K D) (hz : Zc (.ref D) (some d) oe) (hf : ∃ vs, oe.data = .fields vs) (hg : Gl X "isinstance") (hm : X.mg "isinstance" = none) (he : PE (X.suite a ((a, oe) :: pn)) e (tVar i)) (hc : PE (X.suite a ((a, oe) :: pn)) ce (tC c)) (hk : ClsV c u)
    (hs : starEach [e, ce] X.env = (false, eval e X.env) :: starEach [ce] X.env := by rfl) (hs2 : starEach [ce] X.env = (false, eval ce X.env) :: starEach [] X.env := by rfl) (hpl : (backTo pos (starEach [ce] X.env)).any (·.1) = false := by rfl) :
    PDE (X.suite a ((a, oe) :: pn)) W (.Call (.Name "isinstance" p) [e, ce] [] pos) (dIsE X.K D u i a d) := by
  refine ⟨_, pe_callB (call_isEd C hz hf) hg hm (by decide +kernel) (pa_cons he (pa_cons hc pa_nil hs2) hs) (by decide) (by decide) hs hpl, fun F H σ τ ρ ε Q kk R h q => ?_⟩
  obtain ⟨⟨z, hi⟩, b, hb, h⟩ := h
  obtain ⟨g1, w, h1, _⟩ := cau_of R hi
  exact ⟨_, g1, c, u, b, rfl, ⟨_, h1⟩, hk, hb, q F H ρ _ _ R (Same.refl _) (.bl b) h⟩
theorem de_isEt (C : ExcD X.K D) (hz : Zc (.ref D) (some d) oe) (hf : ∃ vs, oe.data = .fields vs) (hg : Gl X "isinstance") (hm : X.mg "isinstance" = none) (he : PE (X.suite a ((a, oe) :: pn)) e (tVar i)) (hc : ClsVs (X.suite a ((a, oe) :: pn)) es cs us) (hl : cs.length ≤ 1000)
    (hs : starEach [e, .Tuple es k pt] X.env = (false, eval e X.env) :: starEach [.Tuple es k pt] X.env := by rfl) (hs2 : starEach [.Tuple es k pt] X.env = (false, eval (.Tuple es k pt) X.env) :: starEach [] X.env := by rfl) (hpl : (backTo pos (starEach [.Tuple es k pt] X.env)).any (·.1) = false := by rfl) :
    PDE (X.suite a ((a, oe) :: pn)) W (.Call (.Name "isinstance" p) [e, .Tuple es k pt] [] pos) (dIsEt X.K D us i a d) := by
  refine ⟨_, pe_callB (call_isEt C hz hf) hg hm (by decide +kernel) (pa_cons he (pa_cons (pe_tup hc.pa) pa_nil hs2) hs) (by decide) (by decide) hs hpl, fun F H σ τ ρ ε Q kk R h q => ?_⟩
  obtain ⟨⟨z, hi⟩, b, hb, h⟩ := h
  obtain ⟨g1, w, h1, _⟩ := cau_of R hi
  refine ⟨_, g1, tAll_all ?_⟩
  have hsz : sizeLine = 16777216 := sizeLine_eq
  refine ⟨by omega, fun tp htp => ?_⟩
  have ex := Ext.new (o := .tup cs) R.ex htp
  have hd : upd H tp (.tup cs) d = some (.xd [(("what" : Str), w)]) := by rw [upd_ne (ne_of_none h1 htp)]; exact h1
  exact ⟨tp, cs, us, b, rfl, ⟨_, hd⟩, upd_same, hc.paired, hb, q _ _ ρ _ _ (R.ext ex) ex.fF (.bl b) h⟩
theorem de_what (C : ExcD X.K D) (hz : Zc (.ref D) (some d) oe) (hf : ∃ vs, oe.data = .fields vs) (he : PE (X.suite a ((a, oe) :: pn)) e (tVar i)) (hb : attributeBase e "what" X.env (eval e X.env) = eval e X.env := by rfl) :
    PDE (X.suite a ((a, oe) :: pn)) W (.Attribute e "what" pos) (dWhat i a d) := by
  refine ⟨_, pe_xf (n := "what") ⟨C.ga, C.gt, C.sb, C.hd⟩ C.nw hz hf he hb, fun F H σ τ ρ ε Q kk R h q => ?_⟩
  obtain ⟨z, hi, h⟩ := h
  obtain ⟨g1, w, h1, h2⟩ := cau_of R hi
  exact ⟨_, g1, rfl, rfl, d, _, w, rfl, h1, by rw [List.lookup_cons_self], q F H ρ w z R (Same.refl _) h2 h⟩
end
/-! ### try .. except E as e -/
theorem At.toF {W : Ent} {F H : Hp} {σ τ : L2.St} {ρ ε : Rho} (R : At W F H σ τ ρ ε) : At { W with F0 := F } F H σ τ ρ ε :=
  ⟨R.len, ⟨R.rel.ex, R.rel.len, R.rel.fz, R.rel.io, R.rel.ow, R.rel.fr, R.rel.st, fun a o h => .inl h, Same.refl _⟩, R.nio⟩
theorem At.ofF {W : Ent} {F H F' H' : Hp} {σ τ σ' τ' : L2.St} {ρ ε ρ' ε' : Rho} (R0 : At W F H σ τ ρ ε) (R : At { W with F0 := F } F' H' σ' τ' ρ' ε') : At W F' H' σ' τ' ρ' ε' :=
  ⟨R.len, ⟨R.rel.ex, R.rel.len, R.rel.fz, R.rel.io, R.rel.ow, R.rel.fr, R.rel.st, fun a o h => by
    rcases R.rel.gr a o h with q | q
    · exact R0.rel.gr a o q
    · exact .inr q, R0.rel.f0.trans R.rel.f0⟩, R.nio⟩
theorem At.unset {W : Ent} {F H : Hp} {σ τ : L2.St} {ρ ε : Rho} (R : At W F H σ τ ρ ε) (i : Nat) : At W F H (σ.set i none) τ (ρ.set i .no) ε := by
  have hl := R.len
  refine R.remap (by rw [List.length_set, List.length_set]; exact hl) (by have := R.rel.len; rw [List.length_append, List.length_append] at this ⊢; rw [List.length_set, List.length_set]; exact this) (fun j => j) (fun j s hj => ?_) (fun j c hj => ?_) (fun j k s s' _ _ _ _ e => e) R.nio
  · by_cases z : j = i ∧ i < ρ.length
    · obtain ⟨rfl, hi⟩ := z
      rw [get_app (by rw [List.length_set]; exact hi), List.getElem?_set_self hi] at hj
      exact .inl (Option.some.inj hj).symm
    · have e : (ρ.set i Slot.no ++ ε)[j]? = (ρ ++ ε)[j]? := by
        by_cases y : j < ρ.length
        · rw [get_app (by rw [List.length_set]; exact y), get_app y, List.getElem?_set_ne (fun q => z ⟨q.symm, by rw [q]; exact y⟩)]
        · rw [List.getElem?_append_right (by rw [List.length_set]; omega), List.getElem?_append_right (by omega), List.length_set]
      have e2 : (σ.set i none ++ τ)[j]? = (σ ++ τ)[j]? := by
        by_cases y : j < σ.length
        · rw [get_app (by rw [List.length_set]; exact y), get_app y, List.getElem?_set_ne (fun q => z ⟨q.symm, by rw [q, ← hl]; exact y⟩)]
        · rw [List.getElem?_append_right (by rw [List.length_set]; omega), List.getElem?_append_right (by omega), List.length_set]
      exact .inr ⟨s, by rw [← e]; exact hj, rfl, e2⟩
  · rfl
def ExW (W : Ent) (W' : WX) (dx : DX) : Prop := ∀ F H σ τ ρ ε x z C, At W F H σ (some (.ref x) :: τ) ρ (.ow (errC z) :: ε) → dx C z ρ → W' (.ref C) (some x) σ H
def dTry (i : Nat) (Cs : Addr → Prop) (dB : DX → DS) (dS : Addr → Addr → Addr → DS) : DS := fun D ρ =>
  dB (fun C z ρ' => Cs C ∧ okSet ρ' i = true ∧ ∀ a d, dS a C d { nx := fun r => D.nx (r.set i .no), rt := D.rt, bk := fun r => D.bk (r.set i .no), ct := fun r => D.ct (r.set i .no) } (ρ'.set i (.ow (cauC a d z)))) D ρ
section
variable {X : Cx} {W : Ent} {x n : Str} {CF : Addr} {i : Nat} {body suite : List Stmt} {b₀ : Stmt} {np pos pos' : Pos} {dB : DX → DS} {dS : Addr → Addr → Addr → DS} {Cs : Addr → Prop}
theorem ds_tryAs (hs : X.stack = X.env :: X.outer) (hf : X.env.frame = some X.env.locals) (hN : X.N.Nodup) (hi : X.N[i]? = some n) (hln : X.env.kindOf n = some .local) (hc : Names X x (.ref CF)) (hcl : ∀ C, Cs C → PySem.W.exmOne X.K (.ref C) (.ref CF) = some true)
    (hb : ∀ (W1 : Ent) (W' : WX) (pn : List (Addr × Obj)) (xe : Value → Shared → Prop) (dx : DX), L2N.Takes (X.tr pn xe) W' → PassesOwn (model X.prog X.w) X.A X.env xe → ExW W1 W' dx → PDSs (X.tr pn xe) W1 body (dB dx))
    (hsu : ∀ (a d C : Addr) (oe : Obj) (pn : List (Addr × Obj)), Cs C → Zc (.ref C) (some d) oe → (∃ vs, oe.data = .fields vs) → PDSs (X.suite a ((a, oe) :: pn)) W (b₀ :: suite) (dS a C d)) :
    PDS X W (.Try body [.ExceptHandler (some (.Name x np)) (some n) (b₀ :: suite) pos'] [] [] pos) (dTry i Cs dB dS) := by
  let ts : Addr → Value → Option Addr → TS := fun a cls d D σ H => ∃ C dd F ρ DD, cls = Value.ref C ∧ d = some dd ∧ Cs C ∧ At W F H σ [] ρ [] ∧ Lnk W F D DD ∧ dS a C dd DD ρ
  let tb : WX → TS := fun W' D σ H => ∃ W1 F ρ DD dx, At W1 F H σ [] ρ [] ∧ Lnk W1 F D DD ∧ ExW W1 W' dx ∧ dB dx DD ρ
  have hb' : ∀ (W' : WX) (pn : List (Addr × Obj)) (xe : Value → Shared → Prop), L2N.Takes (X.tr pn xe) W' → PassesOwn (model X.prog X.w) X.A X.env xe → PSs (X.tr pn xe) body (tb W') := fun W' pn xe tk px => ⟨fun pins s σ H D I h => by
    obtain ⟨W1, F, ρ, DD, dx, R, L, ew, h⟩ := h
    obtain ⟨t, q1, q2⟩ := (hb W1 W' pn xe dx tk px ew).ex
    exact q1.run pins s σ H D I (q2 F H σ ρ D DD R L h)⟩
  have hs' : ∀ (a : Addr) (oe : Obj) (cls : Value) (d : Option Addr) (pn : List (Addr × Obj)), L2N.Zn cls d oe → (∃ vs, oe.data = .fields vs) → PSs (X.suite a ((a, oe) :: pn)) (b₀ :: suite) (ts a cls d) := fun a oe cls d pn hz hff => ⟨fun pins s σ H D I h => by
    obtain ⟨C, dd, F, ρ, DD, rfl, rfl, hC, R, L, h⟩ := h
    obtain ⟨t, q1, q2⟩ := (hsu a dd C oe pn hC hz.zc hff).ex
    exact q1.run pins s σ H D I (q2 F H σ ρ D DD R L h)⟩
  refine ⟨_, L2N.ps_try_as hs hf hN hi hln hc takes0N hb' hs', fun F H σ ρ D DD R L h => ?_⟩
  refine ⟨_, F, ρ, DD, _, R.toF, ⟨fun F' H' σ' ρ' R' s' h' => L.nx F' H' σ' ρ' (R.ofF R') s' h', fun F' H' σ' ρ' R' s' h' => L.bk F' H' σ' ρ' (R.ofF R') s' h', fun F' H' σ' ρ' R' s' h' => L.ct F' H' σ' ρ' (R.ofF R') s' h', fun F' H' σ' ρ' v d R' s' r' h' => L.rt F' H' σ' ρ' v d (R.ofF R') s' r' h', fun F' H' σ' ρ' v c R' s' h' => L.rn F' H' σ' ρ' v c (R.ofF R') s' h'⟩, ?_, h⟩
  intro F' H' σ' τ ρ' ε x z C R' hd
  obtain ⟨hC, hok, hS⟩ := hd
  refine ⟨true, hcl C hC, fun _ a ha => ?_, fun q => Bool.noConfusion q⟩
  have sF : Same F F' := R'.rel.f0
  have R1 : At W F' H' σ' [some (.ref x)] ρ' [.ow (errC z)] := (R.ofF R').keep1 fun c q => by cases q
  have R2 := R1.setNew (okSet_lt hok) (okSet_io hok)
  have R3 := R2.revalue (i := i) (c := errC z) (c' := cauC a x z) (v' := .ref a) (List.getElem?_set_self (okSet_lt hok)) (fun v fp hv hc => by
    have hl : i < σ'.length := by rw [R1.len]; exact okSet_lt hok
    rw [List.getElem?_set_self hl] at hv
    cases hv
    obtain ⟨x', w, e1, e2, e3, e4⟩ := hc
    cases e1
    exact ⟨rfl, e2, w, e3, e4⟩)
  rw [List.set_set, List.set_set] at R3
  exact ⟨C, x, F', _, { nx := fun r => DD.nx (r.set i .no), rt := DD.rt, bk := fun r => DD.bk (r.set i .no), ct := fun r => DD.ct (r.set i .no) }, rfl, rfl, hC, R3, ⟨fun F2 H2 σ2 ρ2 RR s2 h2 => L.nx F2 H2 _ _ (RR.unset i) (sF.trans s2) h2, fun F2 H2 σ2 ρ2 RR s2 h2 => L.bk F2 H2 _ _ (RR.unset i) (sF.trans s2) h2, fun F2 H2 σ2 ρ2 RR s2 h2 => L.ct F2 H2 _ _ (RR.unset i) (sF.trans s2) h2, fun F2 H2 σ2 ρ2 v d RR s2 r2 h2 => L.rt F2 H2 σ2 ρ2 v d RR (sF.trans s2) r2 h2, fun F2 H2 σ2 ρ2 v c RR s2 h2 => L.rn F2 H2 σ2 ρ2 v c RR (sF.trans s2) h2⟩, hS a x⟩
end
/-! a call in the body of a try -/
section
variable {X : Cx} {W : Ent} {W' : WX} {dx : DX} {g : GSp} {f C : Addr} {k i : Nat} {fd : FuncData} {ps : List Str} {x m : Str} {p pos apos : Pos} {e o : Expr} {es : List Expr} {ags : List AG}
theorem ExW.at {σ τ : L2.St} {ε : Rho} (h : ExW W W' dx) : ExA W σ τ ε (fun cls d H => W' cls d σ H) dx := fun F H ρ x z C R hd => h F H σ τ ρ ε x z C R hd
theorem de_callGT (X0 : ExW W W' dx) (tk : L2N.Takes X W') (Fn : FnOk X.prog X.w X.K X.mg X.base (L2N.CX X.prog X.w) k f fd ps (spOf g)) (hr : Room k X.A) (hg : Gl X x) (hm : X.mg x = some (.ref f)) (hk : PySem.W.keepIn X.K (.ref f) = true) (hb : Binds X.K fd ps [])
    (ha : PDAG X W (e :: es) ags) (hdb : (x == ("__debug__" : Str)) = false := by decide) (he : starEach (e :: es) X.env = (false, eval e X.env) :: starEach es X.env := by rfl) (hpl : (backTo pos (starEach es X.env)).any (·.1) = false := by rfl) :
    PDE X W (.Call (.Name x p) (e :: es) [] pos) (dCallG g ags dx) := by
  obtain ⟨ta, a1, a2⟩ := ha.ex
  refine ⟨_, pe_callS Fn hr hg hm hk hb (fun σ => L2N.passAt tk σ) a1 hdb he hpl, fun F H σ τ ρ ε Q k' R h q => a2 F H σ τ ρ ε _ _ R h fun F1 H1 ρ1 vs l R1 s1 r1 h1 => ?_⟩
  exact sp_callEA X0.at R1 r1 h1 fun F' H' ρ' v d A s => q F' H' ρ' v d A (s1.trans s)
end

/-! RD49: a def called with the error that the suite handles -/
open PySem L2 L2H
section
variable {X : Cx} {W : Ent} {x n : Str} {CF : Addr} {i : Nat} {body suite : List Stmt} {b₀ : Stmt} {np pos pos' : Pos} {dB : DX → DS} {dS : Addr → Addr → Addr → DS} {Cs : Addr → Prop}
theorem ds_tryAsN (hs : X.stack = X.env :: X.outer) (hf : X.env.frame = some X.env.locals) (hN : X.N.Nodup) (hi : X.N[i]? = some n) (hln : X.env.kindOf n = some .local) (hc : Names X x (.ref CF)) (hcl : ∀ C, Cs C → PySem.W.exmOne X.K (.ref C) (.ref CF) = some true)
    (hb : ∀ (W1 : Ent) (W' : WX) (pn : List (Addr × Obj)) (xe : Value → Shared → Prop) (dx : DX), L2N.Takes (X.tr pn xe) W' → PassesOwn (model X.prog X.w) X.A X.env xe → ExW W1 W' dx → PDSs (X.tr pn xe) W1 body (dB dx))
    (hsu : ∀ (a d C : Addr) (oe : Obj) (pn : List (Addr × Obj)), Cs C → L2N.Zn (.ref C) (some d) oe → (∃ vs, oe.data = .fields vs) → PDSs (X.suite a ((a, oe) :: pn)) W (b₀ :: suite) (dS a C d)) :
    PDS X W (.Try body [.ExceptHandler (some (.Name x np)) (some n) (b₀ :: suite) pos'] [] [] pos) (dTry i Cs dB dS) := by
  let ts : Addr → Value → Option Addr → TS := fun a cls d D σ H => ∃ C dd F ρ DD, cls = Value.ref C ∧ d = some dd ∧ Cs C ∧ At W F H σ [] ρ [] ∧ Lnk W F D DD ∧ dS a C dd DD ρ
  let tb : WX → TS := fun W' D σ H => ∃ W1 F ρ DD dx, At W1 F H σ [] ρ [] ∧ Lnk W1 F D DD ∧ ExW W1 W' dx ∧ dB dx DD ρ
  have hb' : ∀ (W' : WX) (pn : List (Addr × Obj)) (xe : Value → Shared → Prop), L2N.Takes (X.tr pn xe) W' → PassesOwn (model X.prog X.w) X.A X.env xe → PSs (X.tr pn xe) body (tb W') := fun W' pn xe tk px => ⟨fun pins s σ H D I h => by
    obtain ⟨W1, F, ρ, DD, dx, R, L, ew, h⟩ := h
    obtain ⟨t, q1, q2⟩ := (hb W1 W' pn xe dx tk px ew).ex
    exact q1.run pins s σ H D I (q2 F H σ ρ D DD R L h)⟩
  have hs' : ∀ (a : Addr) (oe : Obj) (cls : Value) (d : Option Addr) (pn : List (Addr × Obj)), L2N.Zn cls d oe → (∃ vs, oe.data = .fields vs) → PSs (X.suite a ((a, oe) :: pn)) (b₀ :: suite) (ts a cls d) := fun a oe cls d pn hz hff => ⟨fun pins s σ H D I h => by
    obtain ⟨C, dd, F, ρ, DD, rfl, rfl, hC, R, L, h⟩ := h
    obtain ⟨t, q1, q2⟩ := (hsu a dd C oe pn hC hz hff).ex
    exact q1.run pins s σ H D I (q2 F H σ ρ D DD R L h)⟩
  refine ⟨_, L2N.ps_try_as hs hf hN hi hln hc takes0N hb' hs', fun F H σ ρ D DD R L h => ?_⟩
  refine ⟨_, F, ρ, DD, _, R.toF, ⟨fun F' H' σ' ρ' R' s' h' => L.nx F' H' σ' ρ' (R.ofF R') s' h', fun F' H' σ' ρ' R' s' h' => L.bk F' H' σ' ρ' (R.ofF R') s' h', fun F' H' σ' ρ' R' s' h' => L.ct F' H' σ' ρ' (R.ofF R') s' h', fun F' H' σ' ρ' v d R' s' r' h' => L.rt F' H' σ' ρ' v d (R.ofF R') s' r' h', fun F' H' σ' ρ' v c R' s' h' => L.rn F' H' σ' ρ' v c (R.ofF R') s' h'⟩, ?_, h⟩
  intro F' H' σ' τ ρ' ε x z C R' hd
  obtain ⟨hC, hok, hS⟩ := hd
  refine ⟨true, hcl C hC, fun _ a ha => ?_, fun q => Bool.noConfusion q⟩
  have sF : Same F F' := R'.rel.f0
  have R1 : At W F' H' σ' [some (.ref x)] ρ' [.ow (errC z)] := (R.ofF R').keep1 fun c q => by cases q
  have R2 := R1.setNew (okSet_lt hok) (okSet_io hok)
  have R3 := R2.revalue (i := i) (c := errC z) (c' := cauC a x z) (v' := .ref a) (List.getElem?_set_self (okSet_lt hok)) (fun v fp hv hc => by
    have hl : i < σ'.length := by rw [R1.len]; exact okSet_lt hok
    rw [List.getElem?_set_self hl] at hv
    cases hv
    obtain ⟨x', w, e1, e2, e3, e4⟩ := hc
    cases e1
    exact ⟨rfl, e2, w, e3, e4⟩)
  rw [List.set_set, List.set_set] at R3
  exact ⟨C, x, F', _, { nx := fun r => DD.nx (r.set i .no), rt := DD.rt, bk := fun r => DD.bk (r.set i .no), ct := fun r => DD.ct (r.set i .no) }, rfl, rfl, hC, R3, ⟨fun F2 H2 σ2 ρ2 RR s2 h2 => L.nx F2 H2 _ _ (RR.unset i) (sF.trans s2) h2, fun F2 H2 σ2 ρ2 RR s2 h2 => L.bk F2 H2 _ _ (RR.unset i) (sF.trans s2) h2, fun F2 H2 σ2 ρ2 RR s2 h2 => L.ct F2 H2 _ _ (RR.unset i) (sF.trans s2) h2, fun F2 H2 σ2 ρ2 v d RR s2 r2 h2 => L.rt F2 H2 σ2 ρ2 v d RR (sF.trans s2) r2 h2, fun F2 H2 σ2 ρ2 v c RR s2 h2 => L.rn F2 H2 σ2 ρ2 v c RR (sF.trans s2) h2⟩, hS a x⟩
end
/-! ### what such a def promises: p the error, D its class, d its dict -/
structure FnX (P : Program) (w : World) (K : PySem.W.Frag) (mg : Str → Option Value) (base : Heap) (Cs : Addr → Prop) (k : Nat) (f : Addr) (fd : FuncData) (ps : List Str) (g : Addr → Addr → Addr → GSp) : Prop where
  len : ∀ a D d vs H Q E, spOf (g a D d) vs H Q E → vs.length = ps.length
  run : ∀ (A : Around) (outer : List Env) (s : Shared) (H : Hp) (args : Args) (us : List Value) (vs : List V) (Q : VK) (E : XK) (p : Addr × Obj) (D d : Addr), RoomH k A → Hot1 A p → PinOk outer H s p → Cs D → Zc (.ref D) (some d) p.2 → Env0 P w K mg base A outer s H → BindsTo s fd args (ps.zip us) → Vals vs us → spOf (g p.1 D d) vs H Q E →
    codeAny (model P w) A (.call (.ref f) args) (CR (L2N.CX P w) outer P w H s Q E) s
section
variable {P : Program} {w : World} {K : PySem.W.Frag} {mg : Str → Option Value} {base : Heap} {Cs : Addr → Prop}
theorem fn_dX {x qual : Str} {st : Stmt} {f : Addr} {fd : FuncData} {N ps : List Str} {k : Nat} {g : Addr → Addr → Addr → GSp} (Fn : Fun K x qual st f fd) (S : FnScope N ps (defScope st)) (hlen : ∀ a D d args Q E, g a D d args Q E → args.length = ps.length)
    (hbody : ∀ (cdv : Value) (A : Around) (outer : List Env) (s : Shared) (H : Hp) (W : Ent) (p : Addr × Obj) (D d : Addr), RoomH k (A.deeper (PyProof.Rows.envOfC qual (defScope st) s.heap.objs.size f cdv)) → Hot1 A p → Cs D → Zc (.ref D) (some d) p.2 → (∃ vs, p.2.data = .fields vs) →
      ∃ ds, (∀ E, PDSs (cxH (L2N.CX P w) P w K mg base N qual (defScope st) f cdv A outer s H E p) W (defBody st) ds) ∧
        ∀ args Q Eg, g p.1 D d args Q Eg → ds (bodyEnds ps.length Q) (bodyEnv ps.length N.length args)) : FnX P w K mg base Cs (k + 1) f fd ps g := by
  have hpl : ps.length ≤ N.length := by have := congrArg List.length S.pre; rw [List.length_take] at this; omega
  have ln : ∀ a D d vs H Q E, spOf (g a D d) vs H Q E → vs.length = ps.length := fun a D d vs H Q E h => by
    obtain ⟨F, fp, args, Q0, E0, R, _, hg, _⟩ := h
    have := R.len
    rw [List.length_map] at this
    rw [this]; exact hlen _ _ _ _ _ _ hg
  obtain ⟨oc, od, kV, doc, pm, an, cdv, ct, osl, rfl, lk, hcd⟩ := Fn.ex
  refine ⟨ln, fun A outer s H cargs us vs Q E p D d hr hot hpin hCs hz e0 hb r h => ?_⟩
  have hl := ln _ _ _ _ _ _ _ h
  obtain ⟨hh, vsp, hd0, hc0⟩ := id hot
  -- the body's reading
  have rd : ∃ ts, PSs (cxH (L2N.CX P w) P w K mg base N qual (defScope st) f cdv A outer s H E p) (defBody st) ts ∧ ts { nx := fun _ H' => Q .non H', rt := Q } (start N vs) H := by
    obtain ⟨F, fp, args, Q0, E0, R, now, hg, hQ, hE⟩ := h
    have hal := hlen _ _ _ _ _ _ hg
    have hvl : vs.length = ps.length := hl
    obtain ⟨ds, hps, hd⟩ := hbody cdv A outer s H (entOf H F fp vs) p D d (hr.deeper _) hot hCs hz ⟨vsp, hd0⟩
    obtain ⟨ts, hp, hs⟩ := (hps E).ex
    refine ⟨ts, hp, ?_⟩
    have h0 := hd args Q0 E0 hg
    have hst : start N vs = vs.map some ++ List.replicate (N.length - vs.length) none := rfl
    have hrl : (List.replicate (N.length - ps.length) (none : Option V)).length = (List.replicate (N.length - ps.length) Slot.no).length := by rw [List.length_replicate, List.length_replicate]
    have R1 : At (entOf H F fp vs) F H (start N vs) [] (bodyEnv ps.length N.length args) [] := by
      have hl2 : (start N vs).length = (bodyEnv ps.length N.length args).length := by
        rw [hst]
        unfold bodyEnv
        rw [List.length_append, List.length_append, List.length_map, List.length_replicate, List.length_replicate, hal, hvl]
      refine ⟨hl2, R.remap rfl rfl rfl (fun j => j) (by rw [List.append_nil, List.append_nil]; exact hl2) (fun j s hj => ?_) (fun j c hj => ?_) (fun i j s s' _ _ _ _ e => e), fun j c hj => by cases hj⟩
      · rw [List.append_nil] at hj
        by_cases z : j < args.length
        · unfold bodyEnv at hj
          rw [get_app z] at hj
          refine .inr ⟨s, hj, rfl, ?_⟩
          rw [List.append_nil, hst, get_app (by rw [List.length_map]; omega)]
        · refine .inl ?_
          unfold bodyEnv at hj
          rw [List.getElem?_append_right (by omega), List.getElem?_replicate] at hj
          split at hj
          · exact (Option.some.inj hj).symm
          · cases hj
      · rw [List.append_nil] at hj ⊢
        have z : j < args.length := by
          by_cases z : j < args.length
          · exact z
          · unfold bodyEnv at hj
            rw [List.getElem?_append_right (by omega), List.getElem?_replicate] at hj
            split at hj <;> cases hj
        rw [hst, get_app (by rw [List.length_map]; omega)]
        exact ⟨rfl, rfl⟩
    -- the walk's ends
    refine hs F H (start N vs) _ { nx := fun _ H' => Q .non H', rt := Q } (bodyEnds ps.length Q0) R1 ⟨fun F' H' σ ρ R' _ q => ?_, fun _ _ _ _ _ _ q => q.elim, fun _ _ _ _ _ _ q => q.elim, fun F' H' σ ρ v d R' _ r' q => ?_, fun F' H' σ ρ v c R' _ q => ?_⟩ h0
    · have R2 := (R'.pushFz (v := .non) (d := .none) .non).leave (by rw [hvl]; exact q.1)
      rw [hvl] at R2
      exact hQ _ _ q.2 rfl .non F' H' R2
    · have R2 := (R'.pushFz r').leave (by rw [hvl]; exact q.1)
      rw [hvl] at R2
      exact hQ _ _ q.2 rfl v F' H' R2
    · have R2 := R'.leave (by rw [hvl]; exact q.1)
      rw [hvl] at R2
      exact hQ _ _ q.2 rfl v F' H' R2
  -- the call
  have KX : K.In s.heap := e0.mod.kin.keeps fun b o e => (e0.bs b o e).1
  have lim : s.heap.NoLimit := e0.mod.nolimit.keeps fun b o e => (e0.bs b o e).1
  refine codeAny_call_function hr.depth (KX _ _ lk) rfl S.co S.gen rfl (PySem.W.codeRec_of KX hcd) (hb _ _ _ _ (wpAny_newFunctionEnv_cells S.kind (fun y hy => ?_) fun env he s1 xx => ?_))
  · rcases S.par y.1 (List.of_mem_zip (a := y.1) (b := y.2) hy).1 with q | q
    · exact .inl q
    · exact .inr ⟨q, PySem.W.cellsFrom_some _ _ _ (.inl q)⟩
  · subst he
    refine ⟨lim.keeps xx.toInCall.keep, codeAny_func ?_⟩
    obtain ⟨t, ht, hq⟩ := rd
    have I := inv_startH (CX := L2N.CX P w) (E := E) S hpin e0 hl r xx
    refine wpAny_mono (ht.run [] s1 (start N vs) H _ I hq) (fun fl s' hs => ?_) fun e s' hs => hs
    cases fl with
    | ret u =>
      obtain ⟨v, σ', H', J, rv, q⟩ := hs
      exact ⟨v, H', J.os, J.bare, J.base, J.hok, rv, q⟩
    | next =>
      obtain ⟨σ', H', J, q⟩ := hs
      exact ⟨V.non, H', J.os, J.bare, J.base, J.hok, rfl, q⟩
    | brk => exact (hs.elim fun _ z => z.elim fun _ z => z.2).elim
    | cont => exact (hs.elim fun _ z => z.elim fun _ z => z.2).elim
end

/-! RD50: the readings of such a def's body, and of its call -/
open PySem L2 L2H
section
variable {X : Cx} {a D d : Addr} {oe : Obj}
theorem call_isP (hp : (a, oe) ∈ X.pn) (C : ExcD X.K D) (hz : Zc (.ref D) (some d) oe) (hf : ∃ vs, oe.data = .fields vs) : CallR X (.builtin "isinstance") (rIsEd X.K D a d) := by
  intro pins s σ H xs us Q I r h
  obtain ⟨c, u, b, rfl, ⟨fs, hd⟩, hc, e, q⟩ := h
  obtain ⟨u1, u2, rfl, r1, r2⟩ := vals2 r
  cases (show u1 = Value.ref a from r1)
  have ec := hc.eq r2
  subst ec
  obtain ⟨ha, _⟩ := I.pin (a, oe) (List.mem_append_left _ hp)
  obtain ⟨vs, hv⟩ := hf
  have hx : ObjOk X.prog X.w H s.heap d (.xd fs) := I.hok d _ hd
  obtain ⟨mA, hns, hr⟩ := hx
  obtain ⟨od, ho, hl⟩ := lookIn_ns hns
  have J : PySem.W.InstAt s.heap a oe D (some od) := ⟨ha, hz.1, by unfold PySem.W.notCls; rw [hv] <;> rfl, by rw [hz.2]; exact ho⟩
  exact PySem.W.kia_one (PySem.W.kitx_exc C.cl C.ga C.gt C.sb C.ca C.cn C.ct C.mr) I.kIn J e (fun z => nomatch z) fun tk => ⟨.bl b, H, I.tok tk, rfl, q⟩
def tXfP (a d : Addr) (f : Str) (te : TE) : TE := fun σ H Q => te σ H fun x H1 => x = .ref a ∧ ∃ (fs : List (Str × V)) (v : V), H1 d = some (.xd fs) ∧ fs.lookup f = some v ∧ Q v H1
theorem pe_xfP {e : Expr} {te : TE} {pos : Pos} {n : Str} (hp : (a, oe) ∈ X.pn) (C : ExcD X.K D) (hno : PySem.W.findIn X.K (.ref D) n = some none) (hz : Zc (.ref D) (some d) oe) (hf : ∃ vs, oe.data = .fields vs) (he : PE X e te) (hb : attributeBase e n X.env (eval e X.env) = eval e X.env := by rfl) :
    PE X (.Attribute e n pos) (tXfP a d n te) := ⟨fun ps s σ H Q I h => attr_of hb (thn (he.run ps s σ H _ I h) fun u s1 ⟨x, H1, I1, rx, ex, fs, v, ea, l, q⟩ => by
  subst ex
  cases (show u = Value.ref a from rx)
  obtain ⟨vs, hv⟩ := hf
  have hx : ObjOk X.prog X.w H1 s1.heap d (.xd fs) := I1.hok d _ ea
  obtain ⟨mA, hns, hr⟩ := hx
  obtain ⟨od, ho, hl⟩ := lookIn_ns hns
  have J : PySem.W.InstAt s1.heap a oe D (some od) := ⟨(I1.pin (a, oe) (List.mem_append_left _ hp)).1, hz.1, by unfold PySem.W.notCls; rw [hv] <;> rfl, by rw [hz.2]; exact ho⟩
  obtain ⟨y, hu, ru⟩ := RelO.some_of (v := v) (o := mA n) (by rw [← l]; exact hr n)
  exact HandSPX.exc_get I1.kIn J C.ga C.gt C.sb (PySem.W.findObj_own C.hd hno rfl (by rw [hl, hu])) (handed_of ru) ⟨v, H1, I1.tok _, ru, q⟩)⟩
end
/-! ### data -/
def dIsK (K : PySem.W.Frag) (D : Addr) (u : Value) (i : Nat) (a d : Addr) : DE := fun ρ Q => (∃ s z, ρ[i]? = some s ∧ s.cell = some (cauC a d z)) ∧ ∃ b, PySem.W.kitOne K (.ref D) u = some b ∧ Q (.bool b) ρ
def dWhatK (i : Nat) (a d : Addr) : DE := fun ρ Q => ∃ s z, ρ[i]? = some s ∧ s.cell = some (cauC a d z) ∧ Q z ρ
theorem cau_ofK {W : Ent} {F H : Hp} {σ τ : L2.St} {ρ ε : Rho} {i : Nat} {a d : Addr} {s : Slot} {z : D} (R : At W F H σ τ ρ ε) (h : ρ[i]? = some s) (hc : s.cell = some (cauC a d z)) : σ[i]? = some (some (.ref a)) ∧ ∃ w, H d = some (.xd [(("what" : Str), w)]) ∧ Rep F w z := by
  obtain ⟨v, fp, g1, ⟨e1, e2, w, h1, h2⟩, _⟩ := R.cellX h hc
  subst e1
  exact ⟨g1, w, h1, h2⟩
structure PDIH (X : Cx) (W : Ent) (tg iter : Expr) (di : DI) : Prop where
  ex : ∃ wi, PIH X tg iter wi ∧ SndI W wi di
section
variable {X : Cx} {W : Ent} {a D d : Addr} {oe : Obj} {e ce : Expr} {i : Nat} {c : V} {u : Value} {p pos : Pos}
theorem de_isK (hp : (a, oe) ∈ X.pn) (C : ExcD X.K D) (hz : Zc (.ref D) (some d) oe) (hf : ∃ vs, oe.data = .fields vs) (hg : Gl X "isinstance") (hm : X.mg "isinstance" = none) (he : PE X e (tVar i)) (hc : PE X ce (tC c)) (hk : ClsV c u)
    (hs : starEach [e, ce] X.env = (false, eval e X.env) :: starEach [ce] X.env := by rfl) (hs2 : starEach [ce] X.env = (false, eval ce X.env) :: starEach [] X.env := by rfl) (hpl : (backTo pos (starEach [ce] X.env)).any (·.1) = false := by rfl) :
    PDE X W (.Call (.Name "isinstance" p) [e, ce] [] pos) (dIsK X.K D u i a d) := by
  refine ⟨_, pe_callB (call_isP hp C hz hf) hg hm (by decide +kernel) (pa_cons he (pa_cons hc pa_nil hs2) hs) (by decide) (by decide) hs hpl, fun F H σ τ ρ ε Q kk R h q => ?_⟩
  obtain ⟨⟨s, z, hi, hz⟩, b, hb, h⟩ := h
  obtain ⟨g1, w, h1, _⟩ := cau_ofK R hi hz
  exact ⟨_, g1, c, u, b, rfl, ⟨_, h1⟩, hk, hb, q F H ρ _ _ R (Same.refl _) (.bl b) h⟩
theorem de_whatK (hp : (a, oe) ∈ X.pn) (C : ExcD X.K D) (hz : Zc (.ref D) (some d) oe) (hf : ∃ vs, oe.data = .fields vs) (he : PE X e (tVar i)) (hb : attributeBase e "what" X.env (eval e X.env) = eval e X.env := by rfl) :
    PDE X W (.Attribute e "what" pos) (dWhatK i a d) := by
  refine ⟨_, pe_xfP (n := "what") hp C C.nw hz hf he hb, fun F H σ τ ρ ε Q kk R h q => ?_⟩
  obtain ⟨s, z, hi, hz, h⟩ := h
  obtain ⟨g1, w, h1, h2⟩ := cau_ofK R hi hz
  exact ⟨_, g1, rfl, _, w, h1, by rw [List.lookup_cons_self], q F H ρ w z R (Same.refl _) h2 h⟩
end
section
variable {X : Cx} {W : Ent} {elt tg iter l : Expr} {ifs ts : List Expr} {scope : Scope} {own : List (Str × Nat)} {pos : Pos} {di : DI} {dg : DG} {dt : DT} {de : DE} {sl : List Nat} {p : Addr × Obj} {gs : DGs} {k n : Nat}
theorem di_listH (he : PDE X W l de) : PDIH X W tg l (diList de) := by
  obtain ⟨t, a1, a2⟩ := he.ex
  refine ⟨_, pi_listH a1, fun F H σ τ ρ ε Q R At0 h q => a2 F H σ τ ρ ε _ _ At0 h fun F' H' ρ' v d R' s' r' h' => ?_⟩
  split at h'
  · obtain ⟨b, xs, rfl, h1, h2⟩ := r'.lst_of
    exact ⟨b, rfl, ⟨xs, SqL.of (R'.ex _ _ h1)⟩, q F' H' ρ' _ _ R' s' (walk_list h1 h2) h'⟩
  · exact h'.elim
theorem dg_tupH (hot : HotC X) (h : PDGs X W ts gs sl) (hn : (assignEach ts X.env).length = n := by rfl) (hst : (assignEach ts X.env).findIdx? (·.1) = none := by rfl) : PDG X W (.Tuple ts k pos) (dgTup n gs) sl := by
  obtain ⟨t, a1, a2⟩ := h.ex
  refine ⟨_, pg_tupH hot a1 hn hst, fun F H σ τ ρ ε v d Q kk R r h q => ?_⟩
  unfold dgTup at h
  split at h
  · obtain ⟨b, xs, rfl, h1, h2⟩ := rep_tupH R.ex r
    exact ⟨b, xs, rfl, SqT.of h1, by rw [h2.length]; exact h.1, a2 F H σ τ ρ ε xs _ _ _ R h2 h.2 q⟩
  · exact h.elim
theorem dn_lcIfH {c : Expr} (hp : Hot1 X.A p) (hm : p ∈ X.pn) (hN : X.N.Nodup) (hi : PDIH X W tg iter di) (ok : BlkOk X.N X.env.scope scope own)
    (hg : ∀ (s : Shared) (H : Hp) (C : Addr) (cl : List (Str × Addr)) (fp : List Addr), PDG (bkH X s H scope (compEnvC scope cl C X.env) fp p) W tg dg sl)
    (ht : ∀ (s : Shared) (H : Hp) (C : Addr) (cl : List (Str × Addr)) (fp : List Addr), PDT (bkH X s H scope (compEnvC scope cl C X.env) fp p) W c dt)
    (he : ∀ (s : Shared) (H : Hp) (C : Addr) (cl : List (Str × Addr)) (fp : List Addr), PDE (bkH X s H scope (compEnvC scope cl C X.env) fp p) W elt de)
    (hsl : ∀ i ∈ sl, i ∈ own.map (·.2) := by decide) (hs : ∀ x, foldedSetIterable iter X.env x = pure x := by intro _; rfl) : PDN X W (.ListComp elt [⟨tg, iter, [c], 0⟩] scope pos) (dLc di dg dt de (own.map (·.2))) := by
  obtain ⟨t, a1, a2⟩ := hi.ex
  exact ⟨_, pe_lcH hp hm hN a1 ok (fun s H C cl fp => (hg s H C cl fp).can) (fun s H C cl fp => pts_one (ht s H C cl fp).can) (fun s H C cl fp => (he s H C cl fp).can) hs, snd_lc a2 snd_canG snd_canT snd_canE hsl⟩
end
/-! ### the call -/
def dCallX (g : Addr → Addr → Addr → GSp) (i : Nat) (a D d : Addr) : DE := fun ρ Q => (∃ z, ρ[i]? = some (.ow (cauC a d z))) ∧ gCall (g a D d) [.inr i] (fun _ _ _ => False) ρ (QE Q)
section
variable {X : Cx} {W : Ent} {a D d f : Addr} {oe : Obj} {pn : List (Addr × Obj)} {g : Addr → Addr → Addr → GSp} {Cs : Addr → Prop} {k i : Nat} {fd : FuncData} {ps : List Str} {e : Expr} {x : Str} {p pos : Pos}
theorem de_callX (Fn : FnX X.prog X.w X.K X.mg X.base Cs k f fd ps g) (hr : Room k X.A) (hC : Cs D) (hz : L2N.Zn (.ref D) (some d) oe) (hf : ∃ vs, oe.data = .fields vs) (hg : Gl (X.suite a ((a, oe) :: pn)) x) (hm : X.mg x = some (.ref f)) (hk : PySem.W.keepIn X.K (.ref f) = true) (hb : Binds X.K fd ps [])
    (he : PE (X.suite a ((a, oe) :: pn)) e (tVar i)) (hdb : (x == ("__debug__" : Str)) = false := by decide) (hs : starEach [e] X.env = (false, eval e X.env) :: starEach [] X.env := by rfl) (hpl : (backTo pos (starEach [] X.env)).any (·.1) = false := by rfl) :
    PDE (X.suite a ((a, oe) :: pn)) W (.Call (.Name x p) [e] [] pos) (dCallX g i a D d) := by
  obtain ⟨vsp, hd0⟩ := hf
  have hot : Hot1 (X.suite a ((a, oe) :: pn)).A (a, oe) := ⟨rfl, vsp, hd0, hz.2.2 vsp hd0⟩
  refine ⟨tCallS (spOf (g a D d)) (fun _ _ _ _ => False) (tCons (tVar i) tNil), ⟨fun pins s σ H Q I h => ?_⟩, fun F H σ τ ρ ε Q kk R h q => ?_⟩
  · refine wpAny_Call_Name_kw (ld_glob I hg hm ?_ hdb)
    refine PySem.W.callWith_K (h₀ := X.base) I.ok.mod.kin hk (thn ((pa_cons he pa_nil hs).run pos pins s σ H _ I h) fun us s1 ⟨vs, H1, I1, r, q⟩ => ⟨I1.kIn, ?_⟩) hs hpl
    have P1 := I1.pin (a, oe) (List.mem_append_left _ List.mem_cons_self)
    have hl : us.length = ps.length := by rw [← r.length]; exact Fn.len _ _ _ _ _ _ _ q
    have b := hb s1 us I1.kIn (by rw [List.append_nil]; exact hl)
    rw [List.append_nil] at b
    refine wpAny_call (codeAny_mono (Fn.run _ X.stack s1 H1 ⟨us, []⟩ us vs Q _ (a, oe) D d ⟨hr.dp, hr.un⟩ hot ⟨P1.1, P1.2.1, fun hm => (List.mem_cons.mp (I1.stkSub a hm)).elim P1.2.2.1 P1.2.2.2.1, P1.2.2.2.2⟩ hC hz.zc I1.env0 b r q) fun r' s' hq => ?_)
    cases r' with
    | error e => exact L2N.passAt (X := X.suite a ((a, oe) :: pn)) takes0N σ pins H1 s1 e s' I1 hq
    | ok fl =>
      cases fl with
      | ret u => exact I1.after hq
      | next => exact hq.elim
      | brk => exact hq.elim
      | cont => exact hq.elim
  · obtain ⟨⟨z, hi⟩, h⟩ := h
    obtain ⟨g1, _⟩ := cau_of R hi
    exact ⟨_, g1, (show spOf (g a D d) [V.ref a] H kk (fun _ _ _ => False) from sp_callEA (dx := fun _ _ _ => False) (fun _ _ _ _ _ _ _ hd => hd.elim) R (.c g1 .nil) h q)⟩
end

/-! RD51: x.split(sep); items of a held list as targets of an unpacking -/
open PySem L2 L2H
def strD (ys : List Str) : List D := ys.map PyData.str
theorem reps_strs {F : Hp} : ∀ ys : List Str, Reps F (ys.map V.str) (strD ys)
  | [] => .nil
  | y :: ys => .cons (.str y) (reps_strs ys)
def gSplit : D → GA := fun d ds Q => match d, ds with
  | .str a, [.str b] => (b.length == 0) = false ∧ a.length + 2 ≤ sizeLine ∧ Q (.list (strD (Txt.split a b)))
  | _, _ => False
theorem md_split : MtD (fun x xs H Q => ∃ a b, x = .str a ∧ xs = [.str b] ∧ (b.length == 0) = false ∧ a.length + 2 ≤ sizeLine ∧ rNewStrs (Txt.split a b) H Q) gSplit := by
  intro F H x d xs ds Q k s rx rxs h q
  unfold gSplit at h
  split at h
  · next a b =>
    cases rx.str_of
    obtain ⟨v, rfl, r1⟩ := reps1 rxs
    cases r1.str_of
    exact ⟨a, b, rfl, rfl, h.1, h.2.1, ext_lst s (reps_strs _) h.2.2 q⟩
  · exact h.elim
def dSplitN (de db : DE) : DN := fun ρ Q => de ρ fun d ρ1 => tyD "str" d ∧ db ρ1 fun e ρ2 => match d, e with
  | .str a, .str b => (b.length == 0) = false ∧ a.length + 2 ≤ sizeLine ∧ Q (.l (strD (Txt.split a b))) ρ2
  | _, _ => False
def dgIx (i : Nat) (dk : DE) : DG := fun d ρ Q => (∃ s es, ρ[i]? = some s ∧ s.cell = some (.l es)) ∧ dk ρ fun y ρ2 => ∃ s es j, ρ2[i]? = some s ∧ s.cell = some (.l es) ∧ (match y with
  | .int z => ixN es.length z = some j
  | _ => False) ∧ Q (ρ2.set i (s.put (.l (es.set j d))))
section
variable {X : Cx} {W : Ent} {o e k : Expr} {de db dA : DE} {da : DA} {y : Str} {pos p py apos cpos : Pos} {i : Nat}
theorem de_split (ho : PDE X W o de) (ha : PDA X W [e] da)
    (hbase : attributeBase o "split" X.env (eval o X.env) = eval o X.env := by rfl) (hline : (apos.endLine == cpos.line) = true := by rfl) (hs : starEach [e] X.env = (false, eval e X.env) :: starEach [] X.env := by rfl)
    (hfew : ((backTo cpos (starEach [e] X.env)).all (fun x => !x.1) && (backToKw cpos (keywordEach [] X.env)).all (fun x => x.1.isSome) && decide ([e].length + ([] : List Keyword).length + (if ([] : List Keyword).isEmpty then 0 else 1) < 30)) = true := by rfl) : PDE X W (.Call (.Attribute o "split" apos) [e] [] cpos) (dMtT "str" gSplit de da) :=
  de_bm PySem.F.plainAttrs_str PySem.F.slot_str_split PySem.F.type_str_split mt_split md_split ho ha hbase hfew hline hs (by rfl)
theorem dn_split (ho : PDE X W o de) (hb : PDE X W e db)
    (hbase : attributeBase o "split" X.env (eval o X.env) = eval o X.env := by rfl) (hline : (apos.endLine == cpos.line) = true := by rfl) (hs : starEach [e] X.env = (false, eval e X.env) :: starEach [] X.env := by rfl)
    (hfew : ((backTo cpos (starEach [e] X.env)).all (fun x => !x.1) && (backToKw cpos (keywordEach [] X.env)).all (fun x => x.1.isSome) && decide ([e].length + ([] : List Keyword).length + (if ([] : List Keyword).isEmpty then 0 else 1) < 30)) = true := by rfl) : PDN X W (.Call (.Attribute o "split" apos) [e] [] cpos) (dSplitN de db) := by
  obtain ⟨te, a1, a2⟩ := ho.ex
  obtain ⟨tb, b1, b2⟩ := hb.ex
  refine ⟨_, pe_bm PySem.F.plainAttrs_str PySem.F.slot_str_split PySem.F.type_str_split mt_split a1 (pa_cons b1 pa_nil hs) hbase hfew hline hs (by rfl), fun F H σ τ ρ ε Q kk R h q => a2 F H σ τ ρ ε _ _ R h fun F1 H1 ρ1 x d R1 s1 r1 h1 => ?_⟩
  refine ⟨tyD_V R1.ex r1 h1.1, b2 F1 H1 σ τ ρ1 ε _ _ R1 h1.2 fun F2 H2 ρ2 z c R2 s2 r2 h2 => ?_⟩
  · split at h2
    · cases r1.str_of
      cases r2.str_of
      exact ⟨_, _, rfl, rfl, h2.1, h2.2.1, fun l hl => q F2 _ ρ2 _ (.l _) (R2.new hl ⟨l, _, rfl, rfl, upd_same, reps_strs _⟩) (s1.trans s2) h2.2.2⟩
    · exact h2.elim
theorem dg_ix (hy : PE X (.Name y py) (tVar i)) (hk : PDE X W k dA)
    (ha : ∀ v, assign (.Subscript (.Name y py) k pos) X.env v = (do
      let ov ← holding [v] (eval (.Name y py) X.env)
      let iv ← holding [v, ov] (eval k X.env)
      standAt pos
      holding [v, ov, iv] (setItem ov iv v)
      release [v, ov, iv] []) := by intro _; rfl) : PDG X W (.Subscript (.Name y py) k pos) (dgIx i dA) [] := by
  obtain ⟨tk, c1, c2⟩ := hk.ex
  refine ⟨_, pg_sub hy c1 set_list ha, fun F H σ τ ρ ε v d Q kk R r h q => ?_⟩
  obtain ⟨⟨s, es0, hs0, hc0⟩, h⟩ := h
  obtain ⟨p0, xs0, g1, _⟩ := cell_upd R hs0 hc0
  refine ⟨_, g1, c2 F H σ τ ρ ε _ _ R h fun F2 H2 ρ2 w z R2 s2 r2 h2 => ?_⟩
  obtain ⟨s', es1, j, hs1, hc1, hj, h2⟩ := h2
  obtain ⟨p1, xs1, k1, k2, k3, _, mk⟩ := cell_upd R2 hs1 hc1
  rw [g1] at k1
  cases k1
  split at hj
  · cases r2.int_of
    exact ⟨p0, xs1, _, j, rfl, rfl, k2, by rw [k3.length]; exact hj, q F2 _ σ _ (mk _ _ (k3.set (r.mono s2) j)) s2 Off.refl h2⟩
  · exact hj.elim
end

/-! T1: texts split at a sign -/
open PySem L2
def splitC (c : Nat) : List Nat → List (List Nat)
  | [] => [[]]
  | x :: l => if x = c then [] :: splitC c l else match splitC c l with
    | [] => [[x]]
    | h :: t => (x :: h) :: t
def joinC (c : Nat) : List (List Nat) → List Nat
  | [] => []
  | [p] => p
  | p :: q :: r => p ++ c :: joinC c (q :: r)
theorem splitC_ne (c : Nat) : ∀ l, splitC c l ≠ []
  | [] => by simp [splitC]
  | x :: l => by
    unfold splitC
    split
    · simp
    · split <;> simp
theorem splitC_hit {c : Nat} (l : List Nat) : splitC c (c :: l) = [] :: splitC c l := by rw [splitC, if_pos rfl]
theorem splitC_app {c : Nat} : ∀ {a : List Nat} (b : List Nat), c ∉ a → splitC c (a ++ c :: b) = a :: splitC c b
  | [], b, _ => splitC_hit b
  | x :: a, b, h => by
    have hx : ¬ x = c := fun z => h (by rw [z]; exact List.mem_cons_self)
    rw [List.cons_append, splitC, if_neg hx, splitC_app b fun m => h (List.mem_cons_of_mem _ m)]
theorem splitC_none {c : Nat} : ∀ {l : List Nat}, c ∉ l → splitC c l = [l]
  | [], _ => rfl
  | x :: l, h => by
    have hx : ¬ x = c := fun z => h (by rw [z]; exact List.mem_cons_self)
    rw [splitC, if_neg hx, splitC_none fun m => h (List.mem_cons_of_mem _ m)]
theorem first_of {c : Nat} : ∀ {l : List Nat}, c ∈ l → ∃ a b, l = a ++ c :: b ∧ c ∉ a
  | x :: l, h => by
    by_cases e : x = c
    · exact ⟨[], l, by rw [e]; rfl, List.not_mem_nil⟩
    · rcases List.mem_cons.mp h with z | z
      · exact absurd z.symm e
      · obtain ⟨a, b, e1, e2⟩ := first_of z
        exact ⟨x :: a, b, by rw [e1]; rfl, fun m => (List.mem_cons.mp m).elim (fun z => e z.symm) e2⟩
/-- parts without the sign are found again -/
theorem split_join {c : Nat} : ∀ {ps : List (List Nat)}, ps ≠ [] → (∀ p ∈ ps, c ∉ p) → splitC c (joinC c ps) = ps
  | [], h, _ => absurd rfl h
  | [p], _, h => splitC_none (h p List.mem_cons_self)
  | p :: q :: r, _, h => by
    rw [joinC, splitC_app _ (h p List.mem_cons_self), split_join (by simp) fun x hx => h x (List.mem_cons_of_mem _ hx)]
theorem join_mkS (c : Nat) : ∀ ps : List (List Nat), Str.join (mkS [c]) (ps.map mkS) = mkS (joinC c ps)
  | [] => rfl
  | [p] => rfl
  | p :: q :: r => by
    have ih := join_mkS c (q :: r)
    show mkS p ++ mkS [c] ++ Str.join (mkS [c]) ((q :: r).map mkS) = _
    rw [ih, mkS_app, mkS_app, joinC, List.append_assoc]
    rfl
theorem split_one (c : Nat) (l : List Nat) : Txt.split (mkS l) (mkS [c]) = (splitC c l).map mkS := by
  have h1 := StrLaws.join_split (mkS l) (mkS [c])
  have h2 := StrLaws.split_free (mkS l) c
  have hm : Txt.split (mkS l) (mkS [c]) = ((Txt.split (mkS l) (mkS [c])).map fun x => x.cps.toList).map mkS := by
    rw [List.map_map]
    exact (List.map_id _).symm
  have hne : (Txt.split (mkS l) (mkS [c])).map (fun x => x.cps.toList) ≠ [] := fun z => by
    have := (PyProof.Rows.fact_split (mkS l) (mkS [c])).1
    rw [List.map_eq_nil_iff] at z
    rw [z] at this
    exact absurd this (by decide)
  rw [hm] at h1
  rw [join_mkS, mkS_inj] at h1
  rw [hm]
  congr 1
  have e := congrArg (splitC c) h1
  rw [split_join hne fun p hp => by
    obtain ⟨x, hx, rfl⟩ := List.mem_map.mp hp
    exact h2 x hx] at e
  exact e
/-! ### how long -/
def lens (ys : List Str) : Nat := (ys.map (·.length)).sum
theorem split_lens (x y : Str) : lens (Txt.split x y) + ((Txt.split x y).length - 1) * y.length = x.length := by
  have h1 := congrArg Str.length (StrLaws.join_split x y)
  rw [← StrLaws.glued_eq_join, size_glued] at h1
  exact h1
theorem join_lens (y : Str) (ys : List Str) : (Txt.join y ys).length = lens ys + (ys.length - 1) * y.length := size_glued y ys
theorem cutX_tlT {α : Type} {l : List α} {i : Int} (h : 0 ≤ i) : cutX l (some i) none = l.drop i.toNat := by
  unfold cutX
  rw [sIx_no, sIx_pos h]
  have e : l.drop (min i.toNat l.length) = l.drop i.toNat := by
    by_cases z : i.toNat ≤ l.length
    · rw [Nat.min_eq_left z]
    · rw [Nat.min_eq_right (by omega), List.drop_length, List.drop_eq_nil_of_le (by omega)]
  rw [e]
  refine List.take_of_length_le ?_
  rw [List.length_drop]
  omega

open PySem L2

/-! what the families of laws have in common -/
theorem c_2_61 : CPowX 2 61 := ⟨by decide, by decide +kernel⟩
theorem c_10_18 : CPowX 10 18 := ⟨by decide, by decide +kernel⟩
theorem c_div {i j : Int} (h : 0 < j) (h2 : j < 2 ^ 200) : CDivW i j := by
  refine ⟨h, ?_⟩
  have : j.natAbs < 2 ^ 200 := by omega
  have := Nat.log2_lt (n := j.natAbs) (k := 200) (by omega) |>.mpr this
  omega
/-- a round's text -/
def RoundS (x : Str) : Prop := ∃ l : List Nat, x = mkS l ∧ (1 ≤ l.length ∧ l.length ≤ 40) ∧ ∀ a ∈ l, 97 ≤ a ∧ a ≤ 102
/-! rows -/
abbrev wF : Str := "first"
abbrev wS : Str := "second"
abbrev wO : Str := "other"
def isWord (w : Str) : Prop := w = wF ∨ w = wS ∨ w = wO
abbrev Row := Nat × Nat × Str
def rowD (r : Row) : D := .tuple [.str (mkS [r.1]), .str (mkS [r.2.1]), .str r.2.2]
def rowP (r : Row) : Nat × Nat := (r.1, r.2.1)
/-- rows of letters a to f and of words, no pair twice -/
structure RowsS (rs : List Row) : Prop where
  nd : (rs.map rowP).Nodup
  ok : ∀ r ∈ rs, (97 ≤ r.1 ∧ r.1 ≤ 102) ∧ (97 ≤ r.2.1 ∧ r.2.1 ≤ 102) ∧ isWord r.2.2
  len : rs.length ≤ 36
/-- rows so far: the pairs ahead of the j-th of the k-th letter -/
structure RowsAt (k j : Nat) (rs : List Row) : Prop where
  nd : (rs.map rowP).Nodup
  ok : ∀ r ∈ rs, (97 ≤ r.1 ∧ r.1 ≤ 102) ∧ (97 ≤ r.2.1 ∧ r.2.1 ≤ 102) ∧ isWord r.2.2
  lt : ∀ r ∈ rs, r.1 < 97 + k ∨ (r.1 = 97 + k ∧ r.2.1 < 97 + j)
  len : rs.length ≤ 6 * k + j
theorem RowsAt.skip {k j : Nat} {rs : List Row} (h : RowsAt k j rs) : RowsAt k (j + 1) rs := ⟨h.nd, h.ok, fun r hr => by
  rcases h.lt r hr with z | z
  · exact .inl z
  · exact .inr ⟨z.1, by omega⟩, by have := h.len; omega⟩
theorem RowsAt.turn {k : Nat} {rs : List Row} (h : RowsAt k 6 rs) : RowsAt (k + 1) 0 rs := ⟨h.nd, h.ok, fun r hr => by
  rcases h.lt r hr with z | z
  · exact .inl (by omega)
  · exact .inl (by omega), by have := h.len; omega⟩
theorem RowsAt.put {k j : Nat} {rs : List Row} {w : Str} {i : Nat} (h : RowsAt k j rs) (hk : k < 6) (hj : j < 6) (hw : isWord w) : RowsAt k (j + 1) (rs.take i ++ [(97 + k, 97 + j, w)] ++ rs.drop i) := by
  have hmem : ∀ r, r ∈ rs.take i ++ [(97 + k, 97 + j, w)] ++ rs.drop i → r = (97 + k, 97 + j, w) ∨ r ∈ rs := fun r hr => by
    rcases List.mem_append.mp hr with z | z
    · rcases List.mem_append.mp z with z | z
      · exact .inr (List.mem_of_mem_take z)
      · exact .inl (List.mem_singleton.mp z)
    · exact .inr (List.mem_of_mem_drop z)
  have hp : (rs.take i ++ [(97 + k, 97 + j, w)] ++ rs.drop i).Perm ((97 + k, 97 + j, w) :: rs) := by
    rw [List.append_assoc]
    refine (List.perm_middle (a := (97 + k, 97 + j, w)) (l₁ := rs.take i) (l₂ := rs.drop i)).trans ?_
    rw [List.take_append_drop]
  refine ⟨(hp.map rowP).nodup_iff.mpr ?_, fun r hr => ?_, fun r hr => ?_, ?_⟩
  · rw [List.map_cons, List.nodup_cons]
    refine ⟨fun z => ?_, h.nd⟩
    obtain ⟨r, hr, e⟩ := List.mem_map.mp z
    unfold rowP at e
    have e1 : r.1 = 97 + k := congrArg Prod.fst e
    have e2 : r.2.1 = 97 + j := congrArg Prod.snd e
    rcases h.lt r hr with q | q <;> omega
  · rcases hmem r hr with z | z
    · subst z; exact ⟨⟨by show 97 ≤ 97 + k; omega, by show 97 + k ≤ 102; omega⟩, ⟨by show 97 ≤ 97 + j; omega, by show 97 + j ≤ 102; omega⟩, hw⟩
    · exact h.ok r z
  · rcases hmem r hr with z | z
    · subst z; exact .inr ⟨rfl, by show 97 + j < 97 + (j + 1); omega⟩
    · rcases h.lt r z with q | q
      · exact .inl q
      · exact .inr ⟨q.1, by omega⟩
  · have := hp.length_eq
    rw [List.length_cons] at this
    have := h.len
    omega
theorem RowsAt.snoc {k j : Nat} {rs : List Row} {w : Str} (h : RowsAt k j rs) (hk : k < 6) (hj : j < 6) (hw : isWord w) : RowsAt k (j + 1) (rs ++ [(97 + k, 97 + j, w)]) := by
  have := h.put (i := rs.length) hk hj hw
  rw [List.take_length, List.drop_length, List.append_nil] at this
  exact this
theorem abc_get {k : Nat} {x : D} (h : ((mkS [97, 98, 99, 100, 101, 102]).cps.toList.map fun c => PyData.str ⟨#[c]⟩)[k]? = some x) : k < 6 ∧ x = .str (mkS [97 + k]) := by
  have hk : k < 6 := by have := lt_of_get h; rw [List.length_map, mkS_list] at this; simpa using this
  refine ⟨hk, ?_⟩
  have : k = 0 ∨ k = 1 ∨ k = 2 ∨ k = 3 ∨ k = 4 ∨ k = 5 := by omega
  rcases this with z | z | z | z | z | z <;> subst z <;> cases h <;> rfl
/-! alike -/
/-- data that alike tells alike, less deep than n -/
def okA : Nat → D → Prop
  | 0, _ => False
  | n + 1, d => match d with
    | .list xs => xs.length ≤ 2 ^ 24 ∧ ∀ x ∈ xs, okA n x
    | .tuple xs => xs.length ≤ 2 ^ 24 ∧ ∀ x ∈ xs, okA n x
    | .dict _ => False
    | _ => True
/-! the book of words -/
def keyR (a b : Nat) : List L2.Key := [.inr (mkS [a]), .inr (mkS [b])]
theorem keyR_D (a b : Nat) : keysD (keyR a b) = .tuple [.str (mkS [a]), .str (mkS [b])] := rfl
theorem keyR_inj {a b c d : Nat} (h : keyR a b = keyR c d) : a = c ∧ b = d := by
  unfold keyR at h
  simp only [List.cons.injEq, Sum.inr.injEq, mkS_inj, and_true] at h
  exact h
def bookK (rs : List Row) : List (List L2.Key × D) := rs.map fun r => (keyR r.1 r.2.1, .str r.2.2)
def bookD (rs : List Row) : D := dtD (bookK rs)
/-- the word of a pair of letters -/
def wordOf (rs : List Row) (a b : Nat) : Str := ((rs.find? fun r => decide (r.1 = a ∧ r.2.1 = b)).map fun r => r.2.2).getD wO
theorem book_word (rs : List Row) (a b : Nat) : (valX (bookK rs) (keyR a b)).getD (.str wO) = .str (wordOf rs a b) := by
  unfold wordOf
  induction rs with
  | nil => rfl
  | cons r rs ih =>
    show (valX ((keyR r.1 r.2.1, PyData.str r.2.2) :: bookK rs) (keyR a b)).getD _ = _
    by_cases h : r.1 = a ∧ r.2.1 = b
    · rw [valX_pos (by rw [h.1, h.2]), List.find?_cons_of_pos (by simpa using h)]
      rfl
    · rw [valX_neg fun z => h (keyR_inj z), ih, List.find?_cons_of_neg (by simpa using h)]
theorem book_nd {rs : List Row} (h : (rs.map rowP).Nodup) : ((bookK rs).map (·.1)).Nodup := by
  unfold bookK
  rw [List.map_map]
  rw [List.nodup_iff_pairwise_ne, List.pairwise_map] at h ⊢
  refine h.imp fun hne e => hne ?_
  obtain ⟨e1, e2⟩ := keyR_inj e
  show (_, _) = (_, _)
  rw [e1, e2]
/-! words and ticks -/
def RoundL (l : List Nat) : Prop := (1 ≤ l.length ∧ l.length ≤ 40) ∧ ∀ a ∈ l, 97 ≤ a ∧ a ≤ 102
def wordAt (one two : List Nat) (rs : List Row) (x y : Nat) : Str := wordOf rs (one.getD x 0) (two.getD y 0)
def lateS (b : Bool) : Str := if b = true then wF else wS
/-- a standing: places, and whether the first was last -/
abbrev Stand := Nat × Nat × Bool
def standD (s : Stand) : D := .tuple [.int s.1, .int s.2.1, .str (lateS s.2.2)]
def InS (one two : List Nat) (s : Stand) : Prop := s.1 < one.length ∧ s.2.1 < two.length
def tickN (one two : List Nat) (rs : List Row) (s : Stand) : Stand :=
  if wordAt one two rs s.1 s.2.1 = wF ∨ (wordAt one two rs s.1 s.2.1 = wO ∧ s.2.2 = false) then ((s.1 + 1) % one.length, s.2.1, true) else (s.1, (s.2.1 + 1) % two.length, false)
theorem tick_in {one two : List Nat} {rs : List Row} {s : Stand} (h : InS one two s) : InS one two (tickN one two rs s) := by
  unfold tickN
  split
  · exact ⟨Nat.mod_lt _ (by have := h.1; omega), h.2⟩
  · exact ⟨h.1, Nat.mod_lt _ (by have := h.2; omega)⟩
theorem atI_getD {l : List Nat} {x : Nat} (h : x < l.length) : L2.atI l (x : Int) = some (l.getD x 0) := by
  rw [atI_nat (List.getElem?_eq_getElem h), List.getD_eq_getElem?_getD, List.getElem?_eq_getElem h]
  rfl
theorem w_ne : ¬ wF = wS := by decide +kernel
theorem late_s {b : Bool} : (lateS b = wS) ↔ b = false := by
  cases b
  · exact ⟨fun _ => rfl, fun _ => rfl⟩
  · exact ⟨fun h => absurd h w_ne, fun h => by cases h⟩
theorem mod61 (x : Int) : 0 ≤ x % 2305843009213693951 ∧ x % 2305843009213693951 < 2 ^ 61 := ⟨Int.emod_nonneg _ (by omega), Int.lt_trans (Int.emod_lt_of_pos _ (by omega)) (by omega)⟩
theorem join_none (l : List Nat) : PySem.Txt.join (mkS []) (l.map fun a => mkS [a]) = mkS l := by
  have key : ∀ l : List Nat, TL.joinL [] ((l.map fun a => mkS [a]).map TL.tl) = l := fun l => by
    induction l with
    | nil => rfl
    | cons a l ih =>
      cases l with
      | nil => rfl
      | cons b l =>
        rw [List.map_cons, List.map_cons, List.map_cons, List.map_cons] at *
        unfold TL.joinL
        rw [ih]
        rfl
  rw [TL.join_eq, mkS_of (Str.join _ _)]
  congr 1
  have := TL.tl_join (mkS []) (l.map fun a => mkS [a])
  rw [show TL.tl (mkS []) = [] from rfl, key] at this
  exact this
theorem strs_of (l : List Nat) : strsOf (l.map fun a => PyData.str (mkS [a])) = some (l.map fun a => mkS [a]) := by
  induction l with
  | nil => rfl
  | cons a l ih => rw [List.map_cons, strsOf, ih]; rfl
/-! the table of words -/
def tabD (one two : List Nat) (rs : List Row) : D := .list (one.map fun a => .list (two.map fun b => .str (wordOf rs a b)))
theorem signs_get {l : List Nat} {k : Nat} {x : D} (h : ((mkS l).cps.toList.map fun c => PyData.str ⟨#[c]⟩)[k]? = some x) : ∃ a, l[k]? = some a ∧ x = .str (mkS [a]) := by
  rw [mkS_list, List.getElem?_map] at h
  cases e : l[k]? with
  | none => rw [e] at h; cases h
  | some a => rw [e] at h; cases h; exact ⟨a, rfl, rfl⟩
theorem signs_len {l : List Nat} : (signs (mkS l)).length = l.length := by rw [signs_mkS, List.length_map]
theorem take_snoc {α β : Type} {l : List α} {k : Nat} {a : α} (f : α → β) (h : l[k]? = some a) : (l.take (k + 1)).map f = (l.take k).map f ++ [f a] := by
  rw [List.take_add_one, h, List.map_append]
  rfl

open PySem L2
/-! ### walks, mathematically -/
section
variable (one two : List Nat) (rs : List Row)
def goN (s : Stand) : Nat → Stand
  | 0 => s
  | n + 1 => tickN one two rs (goN s n)
/-- the first reader's steps behind n ticks -/
def fN (s : Stand) : Nat → Nat
  | 0 => 0
  | n + 1 => fN s n + if (goN one two rs s (n + 1)).2.2 = true then 1 else 0
end
section
variable {one two : List Nat} {rs : List Row} {s : Stand}
theorem goN_add (m : Nat) : ∀ n, goN one two rs s (m + n) = goN one two rs (goN one two rs s m) n
  | 0 => rfl
  | n + 1 => by
    show tickN one two rs (goN one two rs s (m + n)) = _
    rw [goN_add m n]
    rfl
theorem goN_in (h : InS one two s) : ∀ n, InS one two (goN one two rs s n)
  | 0 => h
  | n + 1 => tick_in (goN_in h n)
theorem fN_le : ∀ n, fN one two rs s n ≤ n
  | 0 => Nat.le_refl _
  | n + 1 => by
    have := fN_le n
    show fN one two rs s n + (if _ then 1 else 0) ≤ n + 1
    split <;> omega
theorem fN_add (m : Nat) : ∀ n, fN one two rs s (m + n) = fN one two rs s m + fN one two rs (goN one two rs s m) n
  | 0 => rfl
  | n + 1 => by
    show fN one two rs s (m + n) + (if (goN one two rs s (m + n + 1)).2.2 = true then 1 else 0) = fN one two rs s m + (fN one two rs (goN one two rs s m) n + (if (goN one two rs (goN one two rs s m) (n + 1)).2.2 = true then 1 else 0))
    rw [fN_add m n, Nat.add_assoc m n 1, goN_add m (n + 1), Nat.add_assoc]
theorem tick_late (s : Stand) : (tickN one two rs s).2.2 = true ∧ (tickN one two rs s).1 = (s.1 + 1) % one.length ∧ (tickN one two rs s).2.1 = s.2.1 ∨ (tickN one two rs s).2.2 = false ∧ (tickN one two rs s).1 = s.1 ∧ (tickN one two rs s).2.1 = (s.2.1 + 1) % two.length := by
  unfold tickN
  split
  · exact .inl ⟨rfl, rfl, rfl⟩
  · exact .inr ⟨rfl, rfl, rfl⟩
/-- the places behind n ticks -/
theorem goN_place (h : InS one two s) : ∀ n, (goN one two rs s n).1 = (s.1 + fN one two rs s n) % one.length ∧ (goN one two rs s n).2.1 = (s.2.1 + (n - fN one two rs s n)) % two.length
  | 0 => ⟨(Nat.mod_eq_of_lt h.1).symm, (Nat.mod_eq_of_lt h.2).symm⟩
  | n + 1 => by
    obtain ⟨h1, h2⟩ := goN_place h n
    have hl := fN_le (one := one) (two := two) (rs := rs) (s := s) n
    have hin := goN_in (rs := rs) h n
    have e1 : goN one two rs s (n + 1) = tickN one two rs (goN one two rs s n) := rfl
    have e2 : fN one two rs s (n + 1) = fN one two rs s n + if (goN one two rs s (n + 1)).2.2 = true then 1 else 0 := rfl
    rcases tick_late (one := one) (two := two) (rs := rs) (goN one two rs s n) with ⟨q1, q2, q3⟩ | ⟨q1, q2, q3⟩
    · rw [e1] at e2 ⊢
      rw [q1, if_pos rfl] at e2
      rw [e2, q2, q3, h1, h2, show n + 1 - (fN one two rs s n + 1) = n - fN one two rs s n by omega, Nat.mod_add_mod, Nat.add_assoc]
      exact ⟨rfl, rfl⟩
    · rw [e1] at e2 ⊢
      rw [q1, if_neg (by decide)] at e2
      rw [e2, q2, q3, h1, h2, Nat.add_zero, show n + 1 - fN one two rs s n = n - fN one two rs s n + 1 by omega, Nat.mod_add_mod, Nat.add_assoc]
      exact ⟨rfl, rfl⟩
theorem fN_step (n : Nat) : (goN one two rs s (n + 1)).2.2 = decide (fN one two rs s n < fN one two rs s (n + 1)) := by
  show _ = decide (fN one two rs s n < fN one two rs s n + if (goN one two rs s (n + 1)).2.2 = true then 1 else 0)
  cases (goN one two rs s (n + 1)).2.2
  · simp
  · simp
/-- where it has come again it goes round -/
theorem lap_go {a l : Nat} (h : goN one two rs s (a + l) = goN one two rs s a) : ∀ t, goN one two rs s (a + t + l) = goN one two rs s (a + t) := fun t => by
  rw [show a + t + l = (a + l) + t by omega, goN_add (a + l) t, h, ← goN_add a t]
theorem lap_f {a l : Nat} (h : goN one two rs s (a + l) = goN one two rs s a) : ∀ t, fN one two rs s (a + t + l) + fN one two rs s a = fN one two rs s (a + t) + fN one two rs s (a + l)
  | 0 => by rw [Nat.add_zero, Nat.add_comm]
  | t + 1 => by
    have ih := lap_f h t
    have e1 : fN one two rs s (a + (t + 1) + l) = fN one two rs s (a + t + l) + if (goN one two rs s (a + t + l + 1)).2.2 = true then 1 else 0 := by
      rw [show a + (t + 1) + l = a + t + l + 1 by omega]; rfl
    have e2 : fN one two rs s (a + (t + 1)) = fN one two rs s (a + t) + if (goN one two rs s (a + t + 1)).2.2 = true then 1 else 0 := rfl
    have e3 : goN one two rs s (a + t + l + 1) = goN one two rs s (a + t + 1) := by
      have := lap_go h (t + 1)
      rw [show a + (t + 1) + l = a + t + l + 1 by omega] at this
      exact this
    rw [e1, e2, e3]
    omega
theorem laps_go {a l : Nat} (h : goN one two rs s (a + l) = goN one two rs s a) (t : Nat) : ∀ q, goN one two rs s (a + t + q * l) = goN one two rs s (a + t)
  | 0 => by rw [Nat.zero_mul]; rfl
  | q + 1 => by
    have := lap_go h (t + q * l)
    rw [show a + (t + q * l) + l = a + t + (q + 1) * l by rw [Nat.succ_mul]; omega] at this
    rw [this, ← laps_go h t q]
    congr 1
    omega
theorem laps_f {a l : Nat} (h : goN one two rs s (a + l) = goN one two rs s a) (t : Nat) : ∀ q, fN one two rs s (a + t + q * l) + q * fN one two rs s a = fN one two rs s (a + t) + q * fN one two rs s (a + l)
  | 0 => by rw [Nat.zero_mul, Nat.zero_mul, Nat.zero_mul]; rfl
  | q + 1 => by
    have k := lap_f h (t + q * l)
    have e0 : a + t + (q + 1) * l = a + (t + q * l) + l := by rw [Nat.succ_mul]; omega
    have e1 : a + (t + q * l) = a + t + q * l := by omega
    have ih := laps_f h t q
    rw [e1] at k
    rw [e0, e1, Nat.succ_mul q (fN one two rs s a), Nat.succ_mul q (fN one two rs s (a + l))]
    omega
end
/-! pigeonholes -/
theorem nodup_lt : ∀ (n : Nat) (l : List Nat), l.Nodup → (∀ x ∈ l, x < n) → l.length ≤ n
  | 0, l, _, h => by
    cases l with
    | nil => exact Nat.le_refl _
    | cons x l => exact absurd (h x List.mem_cons_self) (Nat.not_lt_zero _)
  | n + 1, l, nd, h => by
    have h1 : (l.erase n).length ≤ n := nodup_lt n (l.erase n) (nd.erase n) fun x hx => by
      have m := (List.Nodup.mem_erase_iff nd).mp hx
      have := h x m.2
      omega
    have h2 : l.length ≤ (l.erase n).length + 1 := by
      rw [List.length_erase]
      split <;> omega
    omega

open PySem L2

/-! ### the first family's draws -/
/-- what stands of a tray: the great cells' rests, the one begun, the fold, how many were mixed (at most u) -/
def TrayS (u : Int) (c : Cell) : Prop := ∃ (gs : List Int) (c0 f t : Int), c = .nl gs [c0, f, t] ∧ (∀ g ∈ gs, 0 ≤ g) ∧ 0 ≤ c0 ∧ (0 ≤ f ∧ f < 2 ^ 61) ∧ 0 ≤ t ∧ t ≤ u
theorem TrayS.mono {u u' : Int} {c : Cell} (h : TrayS u c) (hu : u ≤ u') : TrayS u' c := by
  obtain ⟨gs, c0, f, t, e, h1, h2, h3, h4, h5⟩ := h
  exact ⟨gs, c0, f, t, e, h1, h2, h3, h4, by omega⟩

def ds_tray (dx : DX) : DS :=
  dSeq (dAsg (dC (.int 314159265358979)) (dgName 1))
  (dSeq (dSetN 2 (dLstN dNil))
  (dSeq (dFor (diList (dVar 0)) (dgName 3) (dSeq (dAsg (dOp (gInt2 (fun _ j => 0 < j) fun i j => .int (i % j)) (dOp gAdd (dOp gMulA (dVar 1) (dC (.int 1000003))) (dVar 3)) (dOp (gI2 fun i j => .int (i - j)) (dOp (gInt2 CPowX fun i j => .int (i ^ j.toNat)) (dC (.int 2)) (dC (.int 61))) (dC (.int 1)))) (dgName 1))
  (dSeq (dAsg (dCa gMax2 (dCons (dVar 3) (dCons (dOp (gI2 fun i j => .int (i - j)) (dC (.int 0)) (dVar 3)) dNil))) (dgName 4))
  (dIf (dTest (dOp fGe (dVar 4) (dOp (gInt2 CPowX fun i j => .int (i ^ j.toNat)) (dC (.int 10)) (dC (.int 18))))) (dDrop (dLM 2 lAppend (dCons (dOp (gI2 fun i j => .int (i - j)) (dVar 4) (dOp (gInt2 CPowX fun i j => .int (i ^ j.toNat)) (dC (.int 10)) (dC (.int 18)))) dNil))) dNext))))
  (dRetC (dXNew 2 (dCons (dC (.int 0)) (dCons (dVar 1) (dCons (dC (.int 0)) dNil)))))))
def g_tray : GSp := fun args Q _ => ∃ ns : List Int, args = [.fz (.list (ns.map PyData.int))] ∧ ns.length ≤ 63 ∧ ∀ c args', TrayS 0 c → Q (.ow c) args'
theorem len_tray : ∀ args Q E, g_tray args Q E → args.length = ["script"].length := by
  rintro args Q E ⟨ns, rfl, _⟩
  rfl
theorem do_tray (args : List Slot) (Q : Slot → List Slot → Prop) (Eg : Addr → D → List Slot → Prop) (h : g_tray args Q Eg) : ds_tray (bodyDX 1 Eg) (bodyEnds 1 Q) (bodyEnv 1 5 args) := by
  obtain ⟨ns, rfl, hn, hq⟩ := h
  unfold ds_tray
  simp_arith [10]
  refine ⟨Nat.zero_le _, dLoop_ind (fun k ρ => ∃ (fold : Int) (gs : List Int) (s3 s4 : Slot), ρ = [.fz (.list (ns.map PyData.int)), .fz (.int fold), .ow (.l (gs.map PyData.int)), s3, s4] ∧ s3.isIo = false ∧ s4.isIo = false ∧ (0 ≤ fold ∧ fold < 2 ^ 61) ∧ (∀ g ∈ gs, 0 ≤ g) ∧ gs.length ≤ k)
    ⟨_, [], _, _, rfl, rfl, rfl, by omega, by simp, Nat.zero_le _⟩ ?_ ?_⟩
  · rintro ρ ⟨fold, gs, s3, s4, rfl, h3, h4, hf, hg, hl⟩
    simp_arith [10]
    refine ⟨⟨gs, rfl⟩, gs, rfl, [0, fold, 0], rfl, by simp, hq _ _ ⟨gs, 0, fold, 0, rfl, hg, by omega, hf, by omega, by omega⟩⟩
  · rintro k x ρ N hk ⟨fold, gs, s3, s4, rfl, h3, h4, hf, hg, hl⟩ hN
    rw [List.getElem?_map] at hk
    cases e : ns[k]? with
    | none => rw [e] at hk; cases hk
    | some n =>
      rw [e] at hk
      cases hk
      have hkl := lt_of_get e
      simp_arith [10, h3, h4]
      refine ⟨.inl (.inr ⟨by omega, by omega⟩), c_2_61, by omega, c_10_18, ?_⟩
      have hm : 0 ≤ (fold * 1000003 + n) % 2305843009213693951 ∧ (fold * 1000003 + n) % 2305843009213693951 < 2 ^ 61 := ⟨Int.emod_nonneg _ (by omega), Int.lt_trans (Int.emod_lt_of_pos _ (by omega)) (by omega)⟩
      split
      · next hd =>
        have hd := of_decide_eq_true hd
        refine ⟨c_10_18, ?_, hN _ ⟨_, gs ++ [(if 0 - n > n then 0 - n else n) - 1000000000000000000], _, _, by rw [List.map_append]; rfl, rfl, rfl, hm, ?_, by rw [List.length_append]; simpa using hl⟩⟩
        · have : sizeLine = 16777216 := sizeLine_eq
          rw [List.length_map]; omega
        · intro g hgm
          rcases List.mem_append.mp hgm with z | z
          · exact hg g z
          · rw [List.mem_singleton.mp z]; omega
      · exact hN _ ⟨_, gs, _, _, rfl, rfl, rfl, hm, hg, by omega⟩
def ds_draw (dx : DX) : DS :=
  dSeq (dWhile (dAnd (dTest (dOp fLt (dXG 0 0) (dC (.int 2)))) (dXE 0)) (dXS 0 0 (dXP 0)))
  (dSeq (dIf (dTest (dOp fGe (dXG 0 0) (dC (.int 2)))) (dSeq (dAsg (dOp (gInt2 (fun _ j => 0 < j) fun i j => .int (i % j)) (dXG 0 0) (dVar 1)) (dgName 3))
  (dSeq (dXS 0 0 (dOp (gInt2 CDivW fun i j => .int (i / j)) (dXG 0 0) (dVar 1)))
  (dRet (dVar 3)))) dNext)
  (dSeq (dXS 0 2 (dOp gAdd (dXG 0 2) (dC (.int 1))))
  (dSeq (dAsg (dOp (gInt2 (fun _ j => 0 < j) fun i j => .int (i % j)) (dOp gAdd (dOp gMulA (dOp gAdd (dXG 0 1) (dC (.int 5))) (dOp (gInt2 CPowX fun i j => .int (i ^ j.toNat)) (dOp gAdd (dXG 0 2) (dC (.int 2))) (dC (.int 3)))) (dOp gMulA (dC (.int 1000003)) (dXG 0 2))) (dOp (gI2 fun i j => .int (i - j)) (dOp (gInt2 CPowX fun i j => .int (i ^ j.toNat)) (dC (.int 2)) (dC (.int 61))) (dC (.int 1)))) (dgName 2))
  (dRet (dOp (gInt2 (fun _ j => 0 < j) fun i j => .int (i % j)) (dOp (gInt2 CDivW fun i j => .int (i / j)) (dOp (gInt2 (fun _ j => 0 < j) fun i j => .int (i % j)) (dOp (gInt2 CPowX fun i j => .int (i ^ j.toNat)) (dVar 2) (dC (.int 5))) (dOp gAdd (dOp (gInt2 CPowX fun i j => .int (i ^ j.toNat)) (dC (.int 10)) (dC (.int 18))) (dC (.int 9)))) (dC (.int 64))) (dVar 1))))))
/-- a draw below many -/
def g_draw : GSp := fun args Q _ => ∃ (c : Cell) (u many : Int), args = [.io c, .fz (.int many)] ∧ TrayS u c ∧ u < 2 ^ 40 ∧ (0 < many ∧ many < 2 ^ 200) ∧ ∀ v c' r, 0 ≤ v → v < many → TrayS (u + 1) c' → Q (.fz (.int v)) (.io c' :: r)
theorem len_draw : ∀ args Q E, g_draw args Q E → args.length = ["tray", "many"].length := by
  rintro args Q E ⟨c, u, many, rfl, _⟩
  rfl
theorem mix_ok {f t m : Int} (hf : 0 ≤ f ∧ f < 2 ^ 61) (ht : 0 ≤ t ∧ t < 2 ^ 40) (hm : 0 ≤ m ∧ m < 2 ^ 61) : CPowX (t + 1 + 2) 3 ∧ COKMul (f + 5) ((t + 1 + 2) ^ 3) ∧ COKMul 1000003 (t + 1) ∧ CPowX m 5 :=
  ⟨cpow_n (n := 41) (j := 3) (by omega) (by omega) (by omega), .inl (.inl ⟨by omega, by omega⟩), .inl (.inl ⟨by omega, by omega⟩), cpow_n (n := 61) (j := 5) hm.1 hm.2 (by omega)⟩
theorem do_draw (args : List Slot) (Q : Slot → List Slot → Prop) (Eg : Addr → D → List Slot → Prop) (h : g_draw args Q Eg) : ds_draw (bodyDX 2 Eg) (bodyEnds 2 Q) (bodyEnv 2 4 args) := by
  obtain ⟨c, u, many, rfl, ⟨gs, c0, f, t, rfl, hg, hc, hf, ht, hu⟩, hu2, hm, hq⟩ := h
  unfold ds_draw
  simp_arith [10]
  refine dWhile_ind (fun n ρ => ∃ (gs : List Int) (c0 : Int), n = gs.length ∧ ρ = [.io (.nl gs [c0, f, t]), .fz (.int many), .no, .no] ∧ (∀ g ∈ gs, 0 ≤ g) ∧ 0 ≤ c0) ⟨gs, c0, rfl, rfl, hg, hc⟩ ?_
  rintro n ρ N ⟨gs, c0, rfl, rfl, hg, hc⟩ hN
  have hmx : ∀ x : Int, 0 ≤ x % 2305843009213693951 ∧ x % 2305843009213693951 < 2 ^ 61 := fun x => ⟨Int.emod_nonneg _ (by omega), Int.lt_trans (Int.emod_lt_of_pos _ (by omega)) (by omega)⟩
  have mx := mix_ok hf ⟨ht, by omega⟩ (hmx ((f + 5) * (t + 1 + 2) ^ 3 + 1000003 * (t + 1)))
  have hmod : ∀ x : Int, 0 ≤ x % many ∧ x % many < many := fun x => ⟨Int.emod_nonneg _ (by omega), Int.emod_lt_of_pos _ hm.1⟩
  simp_arith [10]
  -- the two ends
  have eA : 2 ≤ c0 → 0 < many ∧ CDivW c0 many ∧ Q (.fz (.int (c0 % many))) [.io (.nl gs [c0 / many, f, t]), .no] := fun h2 =>
    ⟨hm.1, c_div hm.1 hm.2, hq _ _ _ (hmod _).1 (hmod _).2 ⟨gs, c0 / many, f, t, rfl, hg, Int.ediv_nonneg hc (by omega), hf, ht, by omega⟩⟩
  have eB : CPowX (t + 1 + 2) 3 ∧ COKMul (f + 5) ((t + 1 + 2) ^ 3) ∧ COKMul 1000003 (t + 1) ∧ CPowX 2 61 ∧ (0 : Int) < 2305843009213693951 ∧ CPowX (((f + 5) * (t + 1 + 2) ^ 3 + 1000003 * (t + 1)) % 2305843009213693951) 5 ∧ CPowX 10 18 ∧ (0 : Int) < 1000000000000000009 ∧
      CDivW ((((f + 5) * (t + 1 + 2) ^ 3 + 1000003 * (t + 1)) % 2305843009213693951) ^ 5 % 1000000000000000009) 64 ∧ 0 < many ∧
      Q (.fz (.int ((((f + 5) * (t + 1 + 2) ^ 3 + 1000003 * (t + 1)) % 2305843009213693951) ^ 5 % 1000000000000000009 / 64 % many))) [.io (.nl gs [c0, f, t + 1]), .no] :=
    ⟨mx.1, mx.2.1, mx.2.2.1, c_2_61, by omega, mx.2.2.2, c_10_18, by omega, c_div (by omega) (by omega), hm.1, hq _ _ _ (hmod _).1 (hmod _).2 ⟨gs, c0, f, t + 1, rfl, hg, hc, hf, by omega, by omega⟩⟩
  have fin : match decide (2 ≤ c0) with
      | true => 0 < many ∧ CDivW c0 many ∧ Q (.fz (.int (c0 % many))) [.io (.nl gs [c0 / many, f, t]), .no]
      | false => CPowX (t + 1 + 2) 3 ∧ COKMul (f + 5) ((t + 1 + 2) ^ 3) ∧ COKMul 1000003 (t + 1) ∧ CPowX 2 61 ∧ (0 : Int) < 2305843009213693951 ∧ CPowX (((f + 5) * (t + 1 + 2) ^ 3 + 1000003 * (t + 1)) % 2305843009213693951) 5 ∧ CPowX 10 18 ∧ (0 : Int) < 1000000000000000009 ∧
      CDivW ((((f + 5) * (t + 1 + 2) ^ 3 + 1000003 * (t + 1)) % 2305843009213693951) ^ 5 % 1000000000000000009) 64 ∧ 0 < many ∧
      Q (.fz (.int ((((f + 5) * (t + 1 + 2) ^ 3 + 1000003 * (t + 1)) % 2305843009213693951) ^ 5 % 1000000000000000009 / 64 % many))) [.io (.nl gs [c0, f, t + 1]), .no] := by
    split
    · next hd => exact eA (of_decide_eq_true hd)
    · exact eB
  split
  · split
    · next hd =>
      cases gs with
      | nil => exact absurd rfl (of_decide_eq_true hd)
      | cons g gs => exact ⟨g, gs, rfl, hN _ _ (by simp) ⟨gs, g, rfl, rfl, fun z hz => hg z (List.mem_cons_of_mem _ hz), hg g List.mem_cons_self⟩⟩
    · exact fin
  · exact fin

/-- a draw, come to -/
theorem draw_ok {c : Cell} {u many : Int} {Q : Slot → List Slot → Prop} {E : Addr → D → List Slot → Prop} (hc : TrayS u c) (hu : u < 2 ^ 40) (h0 : 0 < many) (h1 : many < 2 ^ 200) (h : ∀ v c', 0 ≤ v → v < many → TrayS (u + 1) c' → ∀ r, Q (.fz (.int v)) (.io c' :: r)) : g_draw [.io c, .fz (.int many)] Q E :=
  ⟨c, u, many, rfl, hc, hu, ⟨h0, h1⟩, fun v c' r hv hv2 h' => h v c' hv hv2 h' r⟩
def g_round : GSp := fun args Q _ => ∃ (c : Cell) (u : Int), args = [.io c] ∧ TrayS u c ∧ u < 2 ^ 39 ∧ ∀ x c' r, RoundS x → TrayS (u + 64) c' → Q (.fz (.str x)) (.io c' :: r)
theorem len_round : ∀ args Q E, g_round args Q E → args.length = ["tray"].length := by
  rintro args Q E ⟨c, u, rfl, _⟩
  rfl
def ds_round (dx : DX) : DS :=
  dSeq (dAsg (dSl (dC (.str "abcdef")) doNone (doSome (dOp gAdd (dC (.int 1)) (dCallR g_draw 0 dx (dCons (dC (.int 6)) dNil))))) (dgName 1))
  (dSeq (dAsg (dOp gAdd (dC (.int 1)) (dCallR g_draw 0 dx (dCons (dOp gIx (dFrz (dLstN (dCons (dC (.int 1)) (dCons (dC (.int 3)) (dCons (dC (.int 12)) (dCons (dC (.int 12)) (dCons (dC (.int 40)) dNil))))))) (dCallR g_draw 0 dx (dCons (dC (.int 5)) dNil))) dNil))) (dgName 2))
  (dSeq (dAsg (dC (.str "")) (dgName 3))
  (dSeq (dFor (diR1 (dCons (dVar 2) dNil)) (dgName 4) (dAsg (dOp gAdd (dVar 3) (dOp gIx (dVar 1) (dCallR g_draw 0 dx (dCons (dCa gLen (dCons (dVar 1) dNil)) dNil)))) (dgName 3)))
  (dSeq (dAsg (dOp gAdd (dC (.int 1)) (dCallR g_draw 0 dx (dCons (dVar 2) dNil))) (dgName 5))
  (dRet (dIfE (dTest (dOp fGt (dCallR g_draw 0 dx (dCons (dC (.int 3)) dNil)) (dC (.int 0)))) (dVar 3) (dSl (dOp gMulA (dSl (dVar 3) doNone (doSome (dVar 5))) (dVar 2)) doNone (doSome (dVar 2)))))))))
theorem do_round (args : List Slot) (Q : Slot → List Slot → Prop) (Eg : Addr → D → List Slot → Prop) (h : g_round args Q Eg) : ds_round (bodyDX 1 Eg) (bodyEnds 1 Q) (bodyEnv 1 6 args) := by
  obtain ⟨c, u, rfl, hc, hu, hq⟩ := h
  unfold ds_round
  rw [s_abcdef, s_none]
  simp_arith [10, mkS_len]
  refine draw_ok hc (by omega) (by omega) (by omega) fun v1 c1 hv1 hw1 hc1 r => ?_
  simp_arith [10, mkS_len]
  refine ⟨by decide, by decide, draw_ok hc1 (by omega) (by omega) (by omega) fun v2 c2 hv2 hw2 hc2 r => ?_⟩
  obtain ⟨m, hm, e2⟩ := atI_ints (xs := [1, 3, 12, 12, 40]) hv2 (by simpa using hw2)
  have hm2 : 1 ≤ m ∧ m ≤ 40 := by
    simp only [List.mem_cons, List.not_mem_nil, or_false] at hm
    omega
  simp only [List.map_cons, List.map_nil] at e2
  simp_arith [10, e2]
  refine draw_ok hc2 (by omega) (by omega) (by omega) fun v3 c3 hv3 hw3 hc3 r => ?_
  simp_arith [10]
  refine ⟨by omega, by omega, ?_⟩
  rw [mkS_head (by omega)]
  obtain ⟨fl, hfl, hfl1, hfl2⟩ : ∃ fl, List.take (1 + v1).toNat [97, 98, 99, 100, 101, 102] = fl ∧ (1 ≤ fl.length ∧ fl.length ≤ 6) ∧ ∀ a ∈ fl, 97 ≤ a ∧ a ≤ 102 := by
    refine ⟨_, rfl, ?_, fun a ha => ?_⟩
    · rw [List.length_take]
      simp only [List.length_cons, List.length_nil]
      omega
    · have := List.mem_of_mem_take ha
      simp only [List.mem_cons, List.not_mem_nil, or_false] at this
      omega
  rw [hfl]
  have hsz : sizeLine = 16777216 := sizeLine_eq
  refine dLoop_ind (fun k ρ => ∃ (c' : Cell) (l : List Nat) (s4 : Slot), ρ = [.io c', .fz (.str (mkS fl)), .fz (.int (1 + v3)), .fz (.str (mkS l)), s4, .no] ∧ TrayS (u + 3 + k) c' ∧ l.length = k ∧ (∀ a ∈ l, 97 ≤ a ∧ a ≤ 102) ∧ s4.isIo = false)
    ⟨_, [], _, rfl, hc3.mono (by omega), rfl, by simp, rfl⟩ ?_ ?_
  · rintro ρ ⟨c', l, s4, rfl, hc', hl, hla, hs4⟩
    rw [dInts_len] at hc' hl
    have hl40 : l.length ≤ 40 ∧ 1 ≤ l.length := by omega
    simp_arith [10]
    refine draw_ok hc' (by omega) (by omega) (by omega) fun v4 c4 hv4 hw4 hc4 r => ?_
    simp_arith [10]
    refine draw_ok hc4 (by omega) (by omega) (by omega) fun v5 c5 hv5 hw5 hc5 r => ?_
    simp_arith [10]
    split
    · exact hq _ _ _ ⟨l, rfl, by omega, hla⟩ (hc5.mono (by omega))
    · simp_arith [10, mkS_len]
      rw [mkS_head (by omega), mkS_rep, mkS_head (by omega), mkS_len, mkS_len, List.length_take, flat_len, List.length_take]
      have h1 : min (1 + v4).toNat l.length ≤ 40 := by omega
      have h0 : 1 ≤ min (1 + v4).toNat l.length := by omega
      have h2 : min (1 + v4).toNat l.length * (1 + v3).toNat ≤ 40 * 40 := Nat.mul_le_mul h1 (by omega)
      refine ⟨by omega, by omega, by omega, by omega, by rw [Nat.mul_comm]; omega, hq _ _ _ ⟨_, rfl, ?_, fun a ha => hla a ?_⟩ (hc5.mono (by omega))⟩
      · rw [List.length_take, flat_len, List.length_take]
        have h3 : (1 + v3).toNat ≤ (1 + v3).toNat * min (1 + v4).toNat l.length := Nat.le_mul_of_pos_right _ h0
        omega
      · exact List.mem_of_mem_take (flat_mem (List.mem_of_mem_take ha))
  · rintro k x ρ N hk ⟨c', l, s4, rfl, hc', hl, hla, hs4⟩ hN
    have hk2 : k < (1 + v3).toNat := by have := lt_of_get hk; rw [dInts_len] at this; exact this
    rw [dInts_get, if_pos hk2] at hk
    cases hk
    simp_arith [10, hs4, mkS_len]
    refine ⟨by omega, ?_⟩
    refine draw_ok hc' (by omega) (by omega) (by omega) fun v4 c4 hv4 hw4 hc4 r => ?_
    simp_arith [10, mkS_len, mkS_list]
    obtain ⟨a, ha, e4⟩ := atI_mem (xs := fl) hv4 hw4
    rw [e4]
    refine ⟨by omega, ?_⟩
    simp_arith [10]
    refine ⟨by show l.length + 1 ≤ _; omega, hN _ ⟨c4, l ++ [a], _, by rw [← mkS_app]; rfl, hc4.mono (by omega), by rw [List.length_append]; simp [hl], fun b hb => ?_, rfl⟩⟩
    rcases List.mem_append.mp hb with z | z
    · exact hla b z
    · rw [List.mem_singleton.mp z]; exact hfl2 a ha

def g_rows : GSp := fun args Q _ => ∃ (c : Cell) (u : Int), args = [.io c] ∧ TrayS u c ∧ u < 2 ^ 39 ∧ ∀ rs c' r, RowsS rs → TrayS (u + 128) c' → Q (.fz (.list (rs.map rowD))) (.io c' :: r)
theorem len_rows : ∀ args Q E, g_rows args Q E → args.length = ["tray"].length := by
  rintro args Q E ⟨c, u, rfl, _⟩
  rfl
def ds_rows (dx : DX) : DS :=
  dSeq (dAsg (dFrz (dLstN (dCons (dFrz (dLstN (dCons (dC (.str "first")) (dCons (dC (.str "second")) (dCons (dC (.str "other")) dNil))))) (dCons (dFrz (dLstN (dCons (dC (.str "other")) (dCons (dC (.str "other")) (dCons (dC (.str "first")) (dCons (dC (.str "second")) dNil)))))) (dCons (dFrz (dLstN (dCons (dC (.str "first")) (dCons (dC (.str "second")) dNil)))) dNil))))) (dgName 1))
  (dSeq (dAsg (dOp gIx (dOp gAdd (dVar 1) (dFrz (dLstN (dCons (dFrz (dLstN (dCons (dC (.str "first")) (dCons (dC (.str "other")) dNil)))) dNil)))) (dCallR g_draw 0 dx (dCons (dC (.int 4)) dNil))) (dgName 2))
  (dSeq (dAsg (dOp gIx (dFrz (dLstN (dCons (dC (.int 1)) (dCons (dC (.int 3)) (dCons (dC (.int 6)) (dCons (dC (.int 6)) dNil)))))) (dCallR g_draw 0 dx (dCons (dC (.int 4)) dNil))) (dgName 3))
  (dSeq (dSetN 4 (dLstN dNil))
  (dSeq (dFor (diStr (dC (.str "abcdef"))) (dgName 5) (dFor (diStr (dC (.str "abcdef"))) (dgName 6) (dIf (dTest (dOp fLt (dCallR g_draw 0 dx (dCons (dC (.int 6)) dNil)) (dVar 3))) (dDrop (dLM 4 lInsert (dCons (dCallR g_draw 0 dx (dCons (dOp gAdd (dLenV 4) (dC (.int 1))) dNil)) (dCons (dTup (dCons (dVar 5) (dCons (dVar 6) (dCons (dOp gIx (dVar 2) (dCallR g_draw 0 dx (dCons (dCa gLen (dCons (dVar 2) dNil)) dNil))) dNil)))) dNil)))) dNext)))
  (dRet (dVar 4))))))
theorem do_rows (args : List Slot) (Q : Slot → List Slot → Prop) (Eg : Addr → D → List Slot → Prop) (h : g_rows args Q Eg) : ds_rows (bodyDX 1 Eg) (bodyEnds 1 Q) (bodyEnv 1 7 args) := by
  obtain ⟨c, u, rfl, hc, hu, hq⟩ := h
  unfold ds_rows
  rw [s_abcdef]
  have hsz : sizeLine = 16777216 := sizeLine_eq
  simp_arith [10]
  refine ⟨by omega, by omega, by omega, by omega, by omega, by omega, by omega, draw_ok hc (by omega) (by omega) (by omega) fun v1 c1 hv1 hw1 hc1 r => ?_⟩
  dsimp only
  obtain ⟨ws, e1, hws, hwl⟩ : ∃ ws : List Str, L2.atI [PyData.list [.str wF, .str wS, .str wO], .list [.str wO, .str wO, .str wF, .str wS], .list [.str wF, .str wS], .list [.str wF, .str wO]] v1 = some (.list (ws.map PyData.str)) ∧ (∀ x ∈ ws, isWord x) ∧ (1 ≤ ws.length ∧ ws.length ≤ 4) := by
    have : v1 = 0 ∨ v1 = 1 ∨ v1 = 2 ∨ v1 = 3 := by omega
    unfold isWord
    rcases this with z | z | z | z <;> subst z
    · exact ⟨[wF, wS, wO], rfl, by simp, by simp⟩
    · exact ⟨[wO, wO, wF, wS], rfl, by simp, by simp⟩
    · exact ⟨[wF, wS], rfl, by simp, by simp⟩
    · exact ⟨[wF, wO], rfl, by simp, by simp⟩
  simp_arith [10, e1]
  refine ⟨by omega, draw_ok hc1 (by omega) (by omega) (by omega) fun v2 c2 hv2 hw2 hc2 r => ?_⟩
  dsimp only
  obtain ⟨often, ho, e2⟩ := atI_ints (xs := [1, 3, 6, 6]) hv2 (by simpa using hw2)
  simp only [List.map_cons, List.map_nil] at e2
  simp_arith [10, e2]
  refine ⟨by omega, ?_⟩
  generalize PyData.list [PyData.list [.str wF, .str wS, .str wO], .list [.str wO, .str wO, .str wF, .str wS], .list [.str wF, .str wS]] = some_
  let I : Nat → Nat → Rho → Prop := fun k j ρ => ∃ (c' : Cell) (rs : List Row) (s6 : Slot), ρ = [.io c', .fz some_, .fz (.list (ws.map PyData.str)), .fz (.int often), .ow (.l (rs.map rowD)), .fz (.str (mkS [97 + k])), s6] ∧ TrayS (u + 2 + 18 * k + 3 * j) c' ∧ RowsAt k j rs ∧ s6.isIo = false
  refine dLoop_ind (fun k ρ => ∃ (c' : Cell) (rs : List Row) (s5 s6 : Slot), ρ = [.io c', .fz some_, .fz (.list (ws.map PyData.str)), .fz (.int often), .ow (.l (rs.map rowD)), s5, s6] ∧ TrayS (u + 2 + 18 * k) c' ∧ RowsAt k 0 rs ∧ s5.isIo = false ∧ s6.isIo = false)
    ⟨_, [], _, _, rfl, hc2.mono (by omega), ⟨List.nodup_nil, by simp, by simp, by simp⟩, rfl, rfl⟩ ?_ ?_
  · rintro ρ ⟨c', rs, s5, s6, rfl, hc', hr, h5, h6⟩
    simp_arith [10]
    have h36 : 18 * (((mkS [97, 98, 99, 100, 101, 102]).cps.toList.map fun c => PyData.str ⟨#[c]⟩).length : Int) = 108 := rfl
    have h37 : 6 * (((mkS [97, 98, 99, 100, 101, 102]).cps.toList.map fun c => PyData.str ⟨#[c]⟩).length : Nat) = 36 := rfl
    have hl := hr.len
    unfold signs at hc' hl
    exact hq _ _ _ ⟨hr.nd, hr.ok, by omega⟩ (hc'.mono (by omega))
  · rintro k x ρ N hk ⟨c', rs, s5, s6, rfl, hc', hr, h5, h6⟩ hN
    obtain ⟨hk6, rfl⟩ := abc_get hk
    simp_arith [10, h5]
    refine dLoop_ind (I k) ⟨c', rs, _, rfl, hc'.mono (by omega), hr, h6⟩ ?_ ?_
    · rintro ρ ⟨c', rs, s6, rfl, hc', hr, h6⟩
      have h36 : 3 * (((mkS [97, 98, 99, 100, 101, 102]).cps.toList.map fun c => PyData.str ⟨#[c]⟩).length : Int) = 18 := rfl
      unfold signs at hc'
      exact hN _ ⟨c', rs, _, _, rfl, hc'.mono (by omega), RowsAt.turn hr, rfl, h6⟩
    · rintro j x ρ N' hj ⟨c', rs, s6, rfl, hc', hr, h6⟩ hN'
      obtain ⟨hj6, rfl⟩ := abc_get hj
      have hl := hr.len
      simp_arith [10, h6]
      refine draw_ok hc' (by omega) (by omega) (by omega) fun v3 c3 hv3 hw3 hc3 r => ?_
      simp_arith [10]
      split
      · have hlm : (rs.map rowD).length = rs.length := List.length_map ..
        have hlw : (ws.map PyData.str).length = ws.length := List.length_map ..
        refine draw_ok hc3 (by omega) (by omega) (by omega) fun v4 c4 hv4 hw4 hc4 r => ?_
        simp_arith [10]
        refine draw_ok hc4 (by omega) (by omega) (by omega) fun v5 c5 hv5 hw5 hc5 r => ?_
        obtain ⟨wd, hwd, e5⟩ := atI_strs (xs := ws) hv5 (by omega)
        simp_arith [10, e5]
        refine ⟨by omega, by omega, by omega, by omega, hN' _ ⟨c5, rs.take v4.toNat ++ [(97 + k, 97 + j, wd)] ++ rs.drop v4.toNat, .fz (.str (mkS [97 + j])), ?_, hc5.mono (by omega), hr.put hk6 hj6 (hws wd hwd), rfl⟩⟩
        rw [List.map_append, List.map_append, List.map_take, List.map_drop]
        rfl
      · exact hN' _ ⟨_, rs, _, rfl, hc3.mono (by omega), hr.skip, rfl⟩

def g_alike (n : Nat) : GSp := fun args Q _ => ∃ d, args = [.fz d, .fz d] ∧ okA n d ∧ ∀ r, Q (.fz (.bool true)) r
theorem len_alike (n : Nat) : ∀ args Q E, g_alike n args Q E → args.length = ["found", "due"].length := by
  rintro args Q E ⟨d, rfl, _⟩
  rfl
def ds_alike (g_alike : GSp) (dx : DX) : DS :=
  dSeq (dIf (dTest (dOp (gIsN fun k => k) (dVar 1) (dC .none))) (dRet (dOp (gIsN fun k => k) (dVar 0) (dC .none))) dNext)
  (dSeq (dIf (dTest (dIsi "bool" (dVar 1))) (dRet (dAndV (dIsi "bool" (dVar 0)) (dOp gEq (dVar 0) (dVar 1)))) dNext)
  (dSeq (dIf (dTest (dIsi "int" (dVar 1))) (dRet (dAndV (dIsi "int" (dVar 0)) (dAndV (dNotV (dIsi "bool" (dVar 0))) (dOp gEq (dVar 0) (dVar 1))))) dNext)
  (dSeq (dIf (dTest (dIsi "str" (dVar 1))) (dRet (dAndV (dIsi "str" (dVar 0)) (dOp gEq (dVar 0) (dVar 1)))) dNext)
  (dSeq (dIf (dOr (dTest (dOp gNe (dIsi "list" (dVar 0)) (dIsi "list" (dVar 1)))) (dTest (dOp gNe (dIsi "tuple" (dVar 0)) (dIsi "tuple" (dVar 1))))) (dRet (dC (.bool false))) dNext)
  (dSeq (dIf (dTest (dOp gNe (dCa gLen (dCons (dVar 0) dNil)) (dCa gLen (dCons (dVar 1) dNil)))) (dRet (dC (.bool false))) dNext)
  (dSeq (dFor (diR1 (dCons (dCa gLen (dCons (dVar 1) dNil)) dNil)) (dgName 2) (dIf (dNot (dTest (dCall g_alike [] dx (dCons (dOp gIx (dVar 0) (dVar 2)) (dCons (dOp gIx (dVar 1) (dVar 2)) dNil))))) (dRet (dC (.bool false))) dNext))
  (dRet (dC (.bool true)))))))))
theorem do_alike (n : Nat) (args : List Slot) (Q : Slot → List Slot → Prop) (Eg : Addr → D → List Slot → Prop) (h : g_alike (n + 1) args Q Eg) : ds_alike (g_alike n) (bodyDX 2 Eg) (bodyEnds 2 Q) (bodyEnv 2 3 args) := by
  obtain ⟨d, rfl, hd, hq⟩ := h
  unfold ds_alike
  cases d with
  | none => simp_arith [11]; exact hq _
  | bool b => simp_arith [11]; exact hq _
  | int i => simp_arith [11]; exact hq _
  | str x => simp_arith [11]; exact hq _
  | list xs =>
    obtain ⟨hl, hx⟩ := hd
    simp_arith [11]
    refine ⟨by omega, by omega, dLoop_ind (fun k ρ => ∃ s, ρ = [.fz (.list xs), .fz (.list xs), s] ∧ s.isIo = false) ⟨_, rfl, rfl⟩ ?_ ?_⟩
    · rintro ρ ⟨s, rfl, hs⟩
      simp_arith [11]
      exact hq _
    · rintro k x ρ N hk ⟨s, rfl, hs⟩ hN
      have hk2 := lt_of_get hk
      rw [dInts_len] at hk2
      rw [dInts_get, if_pos hk2] at hk
      cases hk
      obtain ⟨z, hz, e⟩ := atI_mem (xs := xs) (i := 0 + (k : Int)) (by omega) (by omega)
      simp_arith [11, hs, e]
      exact ⟨z, rfl, hx z hz, fun r => by simp_arith [11]; exact hN _ ⟨_, rfl, rfl⟩⟩
  | tuple xs =>
    obtain ⟨hl, hx⟩ := hd
    simp_arith [11]
    refine ⟨by omega, by omega, dLoop_ind (fun k ρ => ∃ s, ρ = [.fz (.tuple xs), .fz (.tuple xs), s] ∧ s.isIo = false) ⟨_, rfl, rfl⟩ ?_ ?_⟩
    · rintro ρ ⟨s, rfl, hs⟩
      simp_arith [11]
      exact hq _
    · rintro k x ρ N hk ⟨s, rfl, hs⟩ hN
      have hk2 := lt_of_get hk
      rw [dInts_len] at hk2
      rw [dInts_get, if_pos hk2] at hk
      cases hk
      obtain ⟨z, hz, e⟩ := atI_mem (xs := xs) (i := 0 + (k : Int)) (by omega) (by omega)
      simp_arith [11, hs, e]
      exact ⟨z, rfl, hx z hz, fun r => by simp_arith [11]; exact hN _ ⟨_, rfl, rfl⟩⟩
  | dict xs => exact hd.elim

def g_book : GSp := fun args Q _ => ∃ rs : List Row, args = [.fz (.list (rs.map rowD))] ∧ (rs.map rowP).Nodup ∧ rs.length ≤ 1000 ∧ ∀ r, Q (.fz (bookD rs)) r
theorem len_book : ∀ args Q E, g_book args Q E → args.length = ["rows"].length := by
  rintro args Q E ⟨rs, rfl, _⟩
  rfl
def ds_book (dx : DX) : DS :=
  dRet (dFrz (dDictT (dCons (dFrz (dLc (diList (dVar 0)) (dgTup 3 (dgCons (dgName 1) (dgCons (dgName 2) (dgCons (dgName 3) dgNil)))) dYes (dTup (dCons (dTup (dCons (dVar 1) (dCons (dVar 2) dNil))) (dCons (dVar 3) dNil))) [1, 2, 3])) dNil)))
theorem do_book (args : List Slot) (Q : Slot → List Slot → Prop) (Eg : Addr → D → List Slot → Prop) (h : g_book args Q Eg) : ds_book (bodyDX 1 Eg) (bodyEnds 1 Q) (bodyEnv 1 4 args) := by
  obtain ⟨rs, rfl, hnd, hl, hq⟩ := h
  unfold ds_book
  have hsz : sizeLine = 16777216 := sizeLine_eq
  simp_arith [12]
  refine dLc_ind (fun k acc ρ => ρ = [.fz (.list (rs.map rowD)), .no, .no, .no] ∧ acc = (rs.take k).map fun r => .tuple [keysD (keyR r.1 r.2.1), .str r.2.2]) ⟨rfl, rfl⟩ ?_ ?_
  · rintro acc ρ ⟨rfl, rfl⟩
    rw [List.length_map, List.take_length]
    simp_arith [12]
    refine ⟨bookK rs, ?_, book_nd hnd, hq _⟩
    unfold bookK
    rw [List.map_map]
    rfl
  · rintro k x acc ρ N hk ⟨rfl, rfl⟩ hN
    rw [List.getElem?_map] at hk
    cases e : rs[k]? with
    | none => rw [e] at hk; cases hk
    | some r =>
      rw [e] at hk
      cases hk
      unfold rowD
      simp_arith [12]
      have hlen : ((rs.take k).map fun r => PyData.tuple [keysD (keyR r.1 r.2.1), .str r.2.2]).length ≤ 1000 := by rw [List.length_map, List.length_take]; omega
      refine ⟨by omega, by omega, by omega, hN _ _ ⟨rfl, ?_⟩⟩
      rw [List.take_add_one, e, List.map_append]
      rfl

def g_word : GSp := fun args Q _ => ∃ (one two : List Nat) (rs : List Row) (x y : Nat), args = [.fz (.str (mkS one)), .fz (.str (mkS two)), .fz (bookD rs), .fz (.int x), .fz (.int y)] ∧ RoundL one ∧ RoundL two ∧ x < one.length ∧ y < two.length ∧ ∀ r, Q (.fz (.str (wordAt one two rs x y))) r
theorem len_word : ∀ args Q E, g_word args Q E → args.length = ["one", "two", "book", "x", "y"].length := by
  rintro args Q E ⟨one, two, rs, x, y, rfl, _⟩
  rfl
def ds_word (dx : DX) : DS :=
  dRet (dDGet2 (dVar 2) (dTup (dCons (dOp gIx (dVar 0) (dVar 3)) (dCons (dOp gIx (dVar 1) (dVar 4)) dNil))) (dC (.str "other")))
theorem do_word (args : List Slot) (Q : Slot → List Slot → Prop) (Eg : Addr → D → List Slot → Prop) (h : g_word args Q Eg) : ds_word (bodyDX 5 Eg) (bodyEnds 5 Q) (bodyEnv 5 5 args) := by
  obtain ⟨one, two, rs, x, y, rfl, h1, h2, hx, hy, hq⟩ := h
  have hsz : sizeLine = 16777216 := sizeLine_eq
  have l1 := h1.1.2
  have l2 := h2.1.2
  unfold ds_word
  simp_arith [12, mkS_len, mkS_list, atI_getD hx, atI_getD hy]
  refine ⟨⟨_, _, DLook.t (bookK rs) []⟩, by omega, by omega, by omega, _, DLook.t (bookK rs) (keyR (one.getD x 0) (two.getD y 0)), ?_⟩
  rw [book_word]
  exact hq _
def g_tick : GSp := fun args Q _ => ∃ (one two : List Nat) (rs : List Row) (s : Stand), args = [.fz (.str (mkS one)), .fz (.str (mkS two)), .fz (bookD rs), .fz (standD s)] ∧ RoundL one ∧ RoundL two ∧ InS one two s ∧ ∀ r, Q (.fz (standD (tickN one two rs s))) r
theorem len_tick : ∀ args Q E, g_tick args Q E → args.length = ["one", "two", "book", "stood"].length := by
  rintro args Q E ⟨one, two, rs, s, rfl, _⟩
  rfl
def ds_tick (dx : DX) : DS :=
  dSeq (dAsg (dVar 3) (dgTup 3 (dgCons (dgName 5) (dgCons (dgName 6) (dgCons (dgName 7) dgNil)))))
  (dSeq (dAsg (dCall g_word [] dx (dCons (dVar 0) (dCons (dVar 1) (dCons (dVar 2) (dCons (dVar 5) (dCons (dVar 6) dNil)))))) (dgName 4))
  (dSeq (dIf (dOr (dTest (dOp gEq (dVar 4) (dC (.str "first")))) (dAnd (dTest (dOp gEq (dVar 4) (dC (.str "other")))) (dTest (dOp gEq (dVar 7) (dC (.str "second")))))) (dRet (dTup (dCons (dOp (gInt2 (fun _ j => 0 < j) fun i j => .int (i % j)) (dOp gAdd (dVar 5) (dC (.int 1))) (dCa gLen (dCons (dVar 0) dNil))) (dCons (dVar 6) (dCons (dC (.str "first")) dNil))))) dNext)
  (dRet (dTup (dCons (dVar 5) (dCons (dOp (gInt2 (fun _ j => 0 < j) fun i j => .int (i % j)) (dOp gAdd (dVar 6) (dC (.int 1))) (dCa gLen (dCons (dVar 1) dNil))) (dCons (dC (.str "second")) dNil)))))))
theorem do_tick (args : List Slot) (Q : Slot → List Slot → Prop) (Eg : Addr → D → List Slot → Prop) (h : g_tick args Q Eg) : ds_tick (bodyDX 4 Eg) (bodyEnds 4 Q) (bodyEnv 4 8 args) := by
  obtain ⟨one, two, rs, ⟨x, y, b⟩, rfl, h1, h2, ⟨hx, hy⟩, hq⟩ := h
  have hsz : sizeLine = 16777216 := sizeLine_eq
  have l1 := h1.1.2
  have l2 := h2.1.2
  have hx : x < one.length := hx
  have hy : y < two.length := hy
  unfold ds_tick standD
  simp_arith [12]
  refine ⟨one, two, rs, x, y, rfl, h1, h2, hx, hy, fun r => ?_⟩
  simp_arith [12, mkS_len, late_s]
  have gA : tickN one two rs (x, y, b) = ((x + 1) % one.length, y, true) → one.length ≤ sizeLine ∧ 0 < (one.length : Int) ∧ 3 ≤ sizeLine ∧ Q (.fz (.tuple [.int (((x : Int) + 1) % (one.length : Int)), .int y, .str wF])) [.no, .no, .no, .no] := fun e => by
    have := hq [.no, .no, .no, .no]
    rw [e] at this
    refine ⟨by omega, by omega, by omega, ?_⟩
    have e2 : (((x + 1) % one.length : Nat) : Int) = ((x : Int) + 1) % (one.length : Int) := by rw [Int.natCast_emod]; rfl
    unfold standD at this
    rw [← e2]
    exact this
  have gB : tickN one two rs (x, y, b) = (x, (y + 1) % two.length, false) → two.length ≤ sizeLine ∧ 0 < (two.length : Int) ∧ 3 ≤ sizeLine ∧ Q (.fz (.tuple [.int x, .int (((y : Int) + 1) % (two.length : Int)), .str wS])) [.no, .no, .no, .no] := fun e => by
    have := hq [.no, .no, .no, .no]
    rw [e] at this
    refine ⟨by omega, by omega, by omega, ?_⟩
    have e2 : (((y + 1) % two.length : Nat) : Int) = ((y : Int) + 1) % (two.length : Int) := by rw [Int.natCast_emod]; rfl
    unfold standD at this
    rw [← e2]
    exact this
  unfold tickN at gA gB
  split
  · next hd => exact gA (if_pos (.inl (of_decide_eq_true hd)))
  · next hd =>
    have hd := of_decide_eq_false hd
    split
    · next hd2 =>
      have hd2 := of_decide_eq_true hd2
      split
      · next hd3 => exact gA (if_pos (.inr ⟨hd2, of_decide_eq_true hd3⟩))
      · next hd3 => exact gB (if_neg fun z => z.elim (fun z => hd z) fun z => of_decide_eq_false hd3 z.2)
    · next hd2 => exact gB (if_neg fun z => z.elim (fun z => hd z) fun z => of_decide_eq_false hd2 z.1)
def g_great : GSp := fun args Q _ => ∃ (c : Cell) (u : Int), args = [.io c] ∧ TrayS u c ∧ u < 2 ^ 39 ∧ ∀ v c' r, 0 ≤ v → v < 10 ^ 59 → TrayS (u + 4) c' → Q (.fz (.int v)) (.io c' :: r)
theorem len_great : ∀ args Q E, g_great args Q E → args.length = ["tray"].length := by
  rintro args Q E ⟨c, u, rfl, _⟩
  rfl
def ds_great (dx : DX) : DS :=
  dSeq (dAsg (dCallR g_draw 0 dx (dCons (dOp (gInt2 CPowX fun i j => .int (i ^ j.toNat)) (dC (.int 10)) (dC (.int 14))) dNil)) (dgName 1))
  (dSeq (dFor (diR1 (dCons (dC (.int 3)) dNil)) (dgName 2) (dAsg (dOp gAdd (dOp gMulA (dVar 1) (dOp (gInt2 CPowX fun i j => .int (i ^ j.toNat)) (dC (.int 10)) (dC (.int 15)))) (dCallR g_draw 0 dx (dCons (dOp (gInt2 CPowX fun i j => .int (i ^ j.toNat)) (dC (.int 10)) (dC (.int 15))) dNil))) (dgName 1)))
  (dRet (dVar 1)))
theorem do_great (args : List Slot) (Q : Slot → List Slot → Prop) (Eg : Addr → D → List Slot → Prop) (h : g_great args Q Eg) : ds_great (bodyDX 1 Eg) (bodyEnds 1 Q) (bodyEnv 1 3 args) := by
  obtain ⟨c, u, rfl, hc, hu, hq⟩ := h
  unfold ds_great
  simp_arith [11]
  refine ⟨⟨by decide, by decide +kernel⟩, draw_ok hc (by omega) (by omega) (by omega) fun v1 c1 hv1 hw1 hc1 r => ?_⟩
  simp_arith [11]
  refine ⟨by omega, by omega, dLoop_ind (fun k ρ => ∃ (c' : Cell) (v : Int) (s : Slot), ρ = [.io c', .fz (.int v), s] ∧ s.isIo = false ∧ TrayS (u + 1 + k) c' ∧ 0 ≤ v ∧ v < 10 ^ (14 + 15 * k)) ⟨_, _, _, rfl, rfl, hc1.mono (by omega), hv1, by omega⟩ ?_ ?_⟩
  · rintro ρ ⟨c', v, s, rfl, hs, hc', h0, h1⟩
    simp_arith [11]
    exact hq _ _ _ h0 (by rw [dInts_len] at h1; exact h1) (by rw [dInts_len] at hc'; exact hc'.mono (by omega))
  · rintro k x ρ N hk ⟨c', v, s, rfl, hs, hc', h0, h1⟩ hN
    have hk2 := lt_of_get hk
    rw [dInts_len] at hk2
    have hk3 : k < 3 := hk2
    rw [dInts_get, if_pos hk2] at hk
    cases hk
    simp_arith [11, hs]
    refine ⟨⟨by decide, by decide +kernel⟩, .inl (.inr ⟨by omega, by omega⟩), ⟨by decide, by decide +kernel⟩, draw_ok hc' (by omega) (by omega) (by omega) fun v2 c2 hv2 hw2 hc2 r => ?_⟩
    simp_arith [11, hs]
    refine hN _ ⟨c2, _, _, rfl, rfl, hc2.mono (by omega), by omega, ?_⟩
    have : (10 : Int) ^ (14 + 15 * (k + 1)) = 10 ^ (14 + 15 * k) * 1000000000000000 := by
      rw [show 14 + 15 * (k + 1) = (14 + 15 * k) + 15 by omega, Int.pow_add]; rfl
    omega


open PySem L2
local macro_rules
  | `(tactic| simp_arith [15]) => `(tactic| simp_arith [15, true_and])
  | `(tactic| simp_arith [15, $ls,*]) => `(tactic| simp_arith [14, diScr, dLenScr, dSlScr, dIxScr, dCallRN, Cell.ext.injEq, $ls,*])
theorem scr_inj {K : PySem.W.Frag} {ns ms : List Int} {o : Option Cell} (h : o = some (scrC K ns)) : o = some (scrC K ns) := h
/-! ### the first family's tray, of the script -/
def g_trayK (K : PySem.W.Frag) : GSp := fun args Q _ => ∃ ns : List Int, args = [.io (scrC K ns)] ∧ ns.length ≤ 63 ∧ ∀ c r, TrayS 0 c → Q (.ow c) (.io (scrC K ns) :: r)
theorem len_trayK (K : PySem.W.Frag) : ∀ args Q E, g_trayK K args Q E → args.length = ["script"].length := by
  rintro args Q E ⟨ns, rfl, _⟩
  rfl
def ds_trayK (K : PySem.W.Frag) (dx : DX) : DS :=
  dSeq (dAsg (dC (.int 314159265358979)) (dgName 1))
  (dSeq (dSetN 2 (dLstN dNil))
  (dSeq (dFor (diScr K 0) (dgName 3) (dSeq (dAsg (dOp (gInt2 (fun _ j => 0 < j) fun i j => .int (i % j)) (dOp gAdd (dOp gMulA (dVar 1) (dC (.int 1000003))) (dVar 3)) (dOp (gI2 fun i j => .int (i - j)) (dOp (gInt2 CPowX fun i j => .int (i ^ j.toNat)) (dC (.int 2)) (dC (.int 61))) (dC (.int 1)))) (dgName 1))
  (dSeq (dAsg (dCa gMax2 (dCons (dVar 3) (dCons (dOp (gI2 fun i j => .int (i - j)) (dC (.int 0)) (dVar 3)) dNil))) (dgName 4))
  (dIf (dTest (dOp fGe (dVar 4) (dOp (gInt2 CPowX fun i j => .int (i ^ j.toNat)) (dC (.int 10)) (dC (.int 18))))) (dDrop (dLM 2 lAppend (dCons (dOp (gI2 fun i j => .int (i - j)) (dVar 4) (dOp (gInt2 CPowX fun i j => .int (i ^ j.toNat)) (dC (.int 10)) (dC (.int 18)))) dNil))) dNext))))
  (dRetC (dXNew 2 (dCons (dC (.int 0)) (dCons (dVar 1) (dCons (dC (.int 0)) dNil)))))))
theorem do_trayK (K : PySem.W.Frag) (args : List Slot) (Q : Slot → List Slot → Prop) (Eg : Addr → D → List Slot → Prop) (h : g_trayK K args Q Eg) : ds_trayK K (bodyDX 1 Eg) (bodyEnds 1 Q) (bodyEnv 1 5 args) := by
  obtain ⟨ns, rfl, hn, hq⟩ := h
  unfold ds_trayK
  simp_arith [10]
  refine ⟨Nat.zero_le _, _, ns, rfl, rfl, dLoop_ind (fun k ρ => ∃ (fold : Int) (gs : List Int) (s3 s4 : Slot), ρ = [.io (scrC K ns), .fz (.int fold), .ow (.l (gs.map PyData.int)), s3, s4] ∧ s3.isIo = false ∧ s4.isIo = false ∧ (0 ≤ fold ∧ fold < 2 ^ 61) ∧ (∀ g ∈ gs, 0 ≤ g) ∧ gs.length ≤ k)
    ⟨_, [], _, _, rfl, rfl, rfl, by omega, by simp, Nat.zero_le _⟩ ?_ ?_⟩
  · rintro ρ ⟨fold, gs, s3, s4, rfl, h3, h4, hf, hg, hl⟩
    simp_arith [10]
    refine ⟨⟨gs, rfl⟩, gs, rfl, [0, fold, 0], rfl, by simp, hq _ _ ⟨gs, 0, fold, 0, rfl, hg, by omega, hf, by omega, by omega⟩⟩
  · rintro k x ρ N hk ⟨fold, gs, s3, s4, rfl, h3, h4, hf, hg, hl⟩ hN
    rw [List.getElem?_map] at hk
    cases e : ns[k]? with
    | none => rw [e] at hk; cases hk
    | some n =>
      rw [e] at hk
      cases hk
      have hkl := lt_of_get e
      simp_arith [10, h3, h4]
      refine ⟨.inl (.inr ⟨by omega, by omega⟩), c_2_61, by omega, c_10_18, ?_⟩
      have hm : 0 ≤ (fold * 1000003 + n) % 2305843009213693951 ∧ (fold * 1000003 + n) % 2305843009213693951 < 2 ^ 61 := ⟨Int.emod_nonneg _ (by omega), Int.lt_trans (Int.emod_lt_of_pos _ (by omega)) (by omega)⟩
      split
      · next hd =>
        have hd := of_decide_eq_true hd
        refine ⟨c_10_18, ?_, hN _ ⟨_, gs ++ [(if 0 - n > n then 0 - n else n) - 1000000000000000000], _, _, by rw [List.map_append]; rfl, rfl, rfl, hm, ?_, by rw [List.length_append]; simpa using hl⟩⟩
        · have : sizeLine = 16777216 := sizeLine_eq
          rw [List.length_map]; omega
        · intro g hgm
          rcases List.mem_append.mp hgm with z | z
          · exact hg g z
          · rw [List.mem_singleton.mp z]; omega
      · exact hN _ ⟨_, gs, _, _, rfl, rfl, rfl, hm, hg, by omega⟩

open PySem L2
/-! ### names of fields -/
theorem nf_origin_at : (("origin" : Str) = "at") = False := eq_false (by decide +kernel)
theorem nf_origin_firsts : (("origin" : Str) = "firsts") = False := eq_false (by decide +kernel)
theorem nf_origin_begun : (("origin" : Str) = "begun") = False := eq_false (by decide +kernel)
theorem nf_origin_since : (("origin" : Str) = "since") = False := eq_false (by decide +kernel)
theorem nf_origin_lap : (("origin" : Str) = "lap") = False := eq_false (by decide +kernel)
theorem nf_at_origin : (("at" : Str) = "origin") = False := eq_false (by decide +kernel)
theorem nf_at_firsts : (("at" : Str) = "firsts") = False := eq_false (by decide +kernel)
theorem nf_at_begun : (("at" : Str) = "begun") = False := eq_false (by decide +kernel)
theorem nf_at_since : (("at" : Str) = "since") = False := eq_false (by decide +kernel)
theorem nf_at_lap : (("at" : Str) = "lap") = False := eq_false (by decide +kernel)
theorem nf_firsts_origin : (("firsts" : Str) = "origin") = False := eq_false (by decide +kernel)
theorem nf_firsts_at : (("firsts" : Str) = "at") = False := eq_false (by decide +kernel)
theorem nf_firsts_begun : (("firsts" : Str) = "begun") = False := eq_false (by decide +kernel)
theorem nf_firsts_since : (("firsts" : Str) = "since") = False := eq_false (by decide +kernel)
theorem nf_firsts_lap : (("firsts" : Str) = "lap") = False := eq_false (by decide +kernel)
theorem nf_begun_origin : (("begun" : Str) = "origin") = False := eq_false (by decide +kernel)
theorem nf_begun_at : (("begun" : Str) = "at") = False := eq_false (by decide +kernel)
theorem nf_begun_firsts : (("begun" : Str) = "firsts") = False := eq_false (by decide +kernel)
theorem nf_begun_since : (("begun" : Str) = "since") = False := eq_false (by decide +kernel)
theorem nf_begun_lap : (("begun" : Str) = "lap") = False := eq_false (by decide +kernel)
theorem nf_since_origin : (("since" : Str) = "origin") = False := eq_false (by decide +kernel)
theorem nf_since_at : (("since" : Str) = "at") = False := eq_false (by decide +kernel)
theorem nf_since_firsts : (("since" : Str) = "firsts") = False := eq_false (by decide +kernel)
theorem nf_since_begun : (("since" : Str) = "begun") = False := eq_false (by decide +kernel)
theorem nf_since_lap : (("since" : Str) = "lap") = False := eq_false (by decide +kernel)
theorem nf_lap_origin : (("lap" : Str) = "origin") = False := eq_false (by decide +kernel)
theorem nf_lap_at : (("lap" : Str) = "at") = False := eq_false (by decide +kernel)
theorem nf_lap_firsts : (("lap" : Str) = "firsts") = False := eq_false (by decide +kernel)
theorem nf_lap_begun : (("lap" : Str) = "begun") = False := eq_false (by decide +kernel)
theorem nf_lap_since : (("lap" : Str) = "since") = False := eq_false (by decide +kernel)
theorem nf_firstW_second : (("_first" : Str) = "_second") = False := eq_false (by decide +kernel)
theorem nf_firstW_words : (("_first" : Str) = "_words") = False := eq_false (by decide +kernel)
theorem nf_firstW_walks : (("_first" : Str) = "_walks") = False := eq_false (by decide +kernel)
theorem nf_firstW_ways : (("_first" : Str) = "_ways") = False := eq_false (by decide +kernel)
theorem nf_secondW_first : (("_second" : Str) = "_first") = False := eq_false (by decide +kernel)
theorem nf_secondW_words : (("_second" : Str) = "_words") = False := eq_false (by decide +kernel)
theorem nf_secondW_walks : (("_second" : Str) = "_walks") = False := eq_false (by decide +kernel)
theorem nf_secondW_ways : (("_second" : Str) = "_ways") = False := eq_false (by decide +kernel)
theorem nf_wordsW_first : (("_words" : Str) = "_first") = False := eq_false (by decide +kernel)
theorem nf_wordsW_second : (("_words" : Str) = "_second") = False := eq_false (by decide +kernel)
theorem nf_wordsW_walks : (("_words" : Str) = "_walks") = False := eq_false (by decide +kernel)
theorem nf_wordsW_ways : (("_words" : Str) = "_ways") = False := eq_false (by decide +kernel)
theorem nf_walksW_first : (("_walks" : Str) = "_first") = False := eq_false (by decide +kernel)
theorem nf_walksW_second : (("_walks" : Str) = "_second") = False := eq_false (by decide +kernel)
theorem nf_walksW_words : (("_walks" : Str) = "_words") = False := eq_false (by decide +kernel)
theorem nf_walksW_ways : (("_walks" : Str) = "_ways") = False := eq_false (by decide +kernel)
theorem nf_waysW_first : (("_ways" : Str) = "_first") = False := eq_false (by decide +kernel)
theorem nf_waysW_second : (("_ways" : Str) = "_second") = False := eq_false (by decide +kernel)
theorem nf_waysW_words : (("_ways" : Str) = "_words") = False := eq_false (by decide +kernel)
theorem nf_waysW_walks : (("_ways" : Str) = "_walks") = False := eq_false (by decide +kernel)
local macro_rules
  | `(tactic| simp_arith [16]) => `(tactic| simp_arith [16, true_and])
  | `(tactic| simp_arith [16, $ls,*]) => `(tactic| simp only [lookX, putFX, if_false, if_true, nf_origin_at, nf_origin_firsts, nf_origin_begun, nf_origin_since, nf_origin_lap, nf_at_origin, nf_at_firsts, nf_at_begun, nf_at_since, nf_at_lap, nf_firsts_origin, nf_firsts_at, nf_firsts_begun, nf_firsts_since, nf_firsts_lap, nf_begun_origin, nf_begun_at, nf_begun_firsts, nf_begun_since, nf_begun_lap, nf_since_origin, nf_since_at, nf_since_firsts, nf_since_begun, nf_since_lap, nf_lap_origin, nf_lap_at, nf_lap_firsts, nf_lap_begun, nf_lap_since, nf_firstW_second, nf_firstW_words, nf_firstW_walks, nf_firstW_ways, nf_secondW_first, nf_secondW_words, nf_secondW_walks, nf_secondW_ways, nf_wordsW_first, nf_wordsW_second, nf_wordsW_walks, nf_wordsW_ways, nf_walksW_first, nf_walksW_second, nf_walksW_words, nf_walksW_ways, nf_waysW_first, nf_waysW_second, nf_waysW_words, nf_waysW_walks, $ls,*])
/-! ### places, read off and written -/
def PlF (ρ : Rho) (C : Addr) (y : Nat) (f : Str) (K : FV → (FV → Rho) → Prop) : Prop := ∃ p xs up, Plc ρ y (recC C p xs) up ∧ ∃ x, lookX f xs = some x ∧ K x fun x' => up (recC C p (putFX f x' xs))
def PlS (ρ : Rho) (C : Addr) (y : Nat) (f : Str) (x : FV) (K : Rho → Prop) : Prop := ∃ p xs up, Plc ρ y (recC C p xs) up ∧ xs.length < 1000 ∧ K (up (recC C p (putFX f x xs)))
theorem e_setX (C : Addr) (y : Nat) (f : Str) (dv : DE) : dPSetX C y f dv = fun D ρ => dv ρ fun d ρ1 => PlS ρ1 C y f (.d d) D.nx := rfl
theorem e_setN (C : Addr) (y : Nat) (f : Str) (dn : DN) : dPSetN C y f dn = fun D ρ => dn ρ fun c ρ1 => PlS ρ1 C y f (.c c) D.nx := rfl
theorem e_f (C : Addr) (y : Nat) (f : Str) : dPF C y f = fun ρ Q => PlF ρ C y f fun x _ => ∃ d, x = .d d ∧ Q d ρ := by
  funext ρ Q
  refine propext ⟨?_, ?_⟩
  · rintro ⟨p, xs, up, d, h1, h2, h3⟩; exact ⟨p, xs, up, h1, _, h2, d, rfl, h3⟩
  · rintro ⟨p, xs, up, h1, _, h2, d, rfl, h3⟩; exact ⟨p, xs, up, d, h1, h2, h3⟩
theorem e_len (C : Addr) (y : Nat) (f : Str) : dPLen C y f = fun ρ Q => PlF ρ C y f fun x _ => ∃ ys, x = .c (.l ys) ∧ Q (.int ys.length) ρ := by
  funext ρ Q
  refine propext ⟨?_, ?_⟩
  · rintro ⟨p, xs, up, d, h1, h2, h3⟩; exact ⟨p, xs, up, h1, _, h2, d, rfl, h3⟩
  · rintro ⟨p, xs, up, h1, _, h2, d, rfl, h3⟩; exact ⟨p, xs, up, d, h1, h2, h3⟩
theorem e_ix (C : Addr) (y : Nat) (f : Str) (pb : Rho → Int → Prop) : dPIx C y f pb = fun ρ Q => PlF ρ C y f fun x _ => ∃ ys, x = .c (.l ys) ∧ ∃ i, pb ρ i ∧ ∃ z, L2.atI ys i = some z ∧ Q z ρ := by
  funext ρ Q
  refine propext ⟨?_, ?_⟩
  · rintro ⟨i, p, xs, up, ys, z, h0, h1, h2, h3, h4⟩; exact ⟨p, xs, up, h1, _, h2, ys, rfl, i, h0, z, h3, h4⟩
  · rintro ⟨p, xs, up, h1, _, h2, ys, rfl, i, h0, z, h3, h4⟩; exact ⟨i, p, xs, up, ys, z, h0, h1, h2, h3, h4⟩
theorem e_app (C : Addr) (y : Nat) (f : Str) (pb : Rho → Int → Prop) : dPApp C y f pb = fun ρ Q => PlF ρ C y f fun x up => ∃ ys, x = .c (.l ys) ∧ ∃ i, pb ρ i ∧ ys.length < sizeLine ∧ Q .none (up (.c (.l (ys ++ [.int i])))) := by
  funext ρ Q
  refine propext ⟨?_, ?_⟩
  · rintro ⟨i, p, xs, up, ys, h0, h1, h2, h3, h4⟩; exact ⟨p, xs, up, h1, _, h2, ys, rfl, i, h0, h3, h4⟩
  · rintro ⟨p, xs, up, h1, _, h2, ys, rfl, i, h0, h3, h4⟩; exact ⟨i, p, xs, up, ys, h0, h1, h2, h3, h4⟩
theorem e_in (g : Bool → Bool) (C : Addr) (dk : DE) (y : Nat) (f : Str) : dPIn g C dk y f = fun ρ Q => dk ρ fun d ρ1 => PlF ρ1 C y f fun x _ => ∃ kvs, x = .c (.dt kvs) ∧ ∃ k, d = keysD k ∧ Q (.bool (g (valX kvs k).isSome)) ρ1 := by
  funext ρ Q
  show dk ρ _ = dk ρ _
  congr 1
  funext d ρ1
  refine propext ⟨?_, ?_⟩
  · rintro ⟨p, xs, up, kvs, k, h1, h2, h3, h4⟩; exact ⟨p, xs, up, h1, _, h2, kvs, rfl, k, h3, h4⟩
  · rintro ⟨p, xs, up, h1, _, h2, kvs, rfl, k, h3, h4⟩; exact ⟨p, xs, up, kvs, k, h1, h2, h3, h4⟩
theorem e_get (C : Addr) (y : Nat) (f : Str) (z : Nat) : dPGet C y f z = fun ρ Q => PlF ρ C y f fun x _ => ∃ kvs, x = .c (.dt kvs) ∧ ∃ k, ρ[z]? = some (.fz (keysD k)) ∧ ∃ w, valX kvs k = some w ∧ Q w ρ := by
  funext ρ Q
  refine propext ⟨?_, ?_⟩
  · rintro ⟨p, xs, up, kvs, k, w, h1, h2, h3, h4, h5⟩; exact ⟨p, xs, up, h1, _, h2, kvs, rfl, k, h3, w, h4, h5⟩
  · rintro ⟨p, xs, up, h1, _, h2, kvs, rfl, k, h3, w, h4, h5⟩; exact ⟨p, xs, up, kvs, k, w, h1, h2, h3, h4, h5⟩
theorem e_put (C : Addr) (y : Nat) (f : Str) (z : Nat) (dv : DE) : dPPut C y f z dv = fun D ρ => dv ρ fun d ρ1 => PlF ρ1 C y f fun x up => ∃ kvs, x = .c (.dt kvs) ∧ ∃ k, ρ1[z]? = some (.fz (keysD k)) ∧ kvs.length < sizeLine ∧ D.nx (up (.c (.dt (putX kvs k d)))) := by
  funext D ρ
  show dv ρ _ = dv ρ _
  congr 1
  funext d ρ1
  refine propext ⟨?_, ?_⟩
  · rintro ⟨p, xs, up, kvs, k, h1, h2, h3, h4, h5⟩; exact ⟨p, xs, up, h1, _, h2, kvs, rfl, k, h3, h4, h5⟩
  · rintro ⟨p, xs, up, h1, _, h2, kvs, rfl, k, h3, h4, h5⟩; exact ⟨p, xs, up, kvs, k, h1, h2, h3, h4, h5⟩
theorem e_dcGet (C : Addr) (y : Nat) (f : Str) (z : Nat) : dPDcGet C y f z = fun ρ Q => PlF ρ C y f fun x _ => ∃ ws, x = .c (dcC ws) ∧ ∃ k, ρ[z]? = some (.fz (keysD k)) ∧ Q (match valX ws k with
  | some w => adrD w.1
  | none => .none) ρ := by
  funext ρ Q
  refine propext ⟨?_, ?_⟩
  · rintro ⟨p, xs, up, ws, k, h1, h2, h3, h4⟩; exact ⟨p, xs, up, h1, _, h2, ws, rfl, k, h3, h4⟩
  · rintro ⟨p, xs, up, h1, _, h2, ws, rfl, k, h3, h4⟩; exact ⟨p, xs, up, ws, k, h1, h2, h3, h4⟩
theorem e_dcLen (C : Addr) (y : Nat) (f : Str) : dPDcLen C y f = fun ρ Q => PlF ρ C y f fun x _ => ∃ ws, x = .c (dcC ws) ∧ Q (.int ws.length) ρ := by
  funext ρ Q
  refine propext ⟨?_, ?_⟩
  · rintro ⟨p, xs, up, ws, h1, h2, h3⟩; exact ⟨p, xs, up, h1, _, h2, ws, rfl, h3⟩
  · rintro ⟨p, xs, up, h1, _, h2, ws, rfl, h3⟩; exact ⟨p, xs, up, ws, h1, h2, h3⟩
theorem plc0 {c : Cell} {r : Rho} : Plc (.io c :: r) 0 c fun c' => .io c' :: r := Plc.own (ρ := .io c :: r) (y := 0) (s := .io c) (sub := c) rfl rfl
section
variable {r : Rho} {C p : Addr} {xs : List (Str × FV)} {f : Str} {x : FV}
theorem plf0 {K : FV → (FV → Rho) → Prop} (h : lookX f xs = some x) (k : K x fun x' => .io (recC C p (putFX f x' xs)) :: r) : PlF (.io (recC C p xs) :: r) C 0 f K := ⟨_, _, _, plc0, x, h, k⟩
theorem pls0 {K : Rho → Prop} (h : xs.length < 1000) (k : K (.io (recC C p (putFX f x xs)) :: r)) : PlS (.io (recC C p xs) :: r) C 0 f x K := ⟨_, _, _, plc0, h, k⟩
end
local macro_rules
  | `(tactic| simp_arith [17]) => `(tactic| simp_arith [17, true_and])
  | `(tactic| simp_arith [17, $ls,*]) => `(tactic| simp_arith [14, dPar, dPar3, e_setX, e_setN, dDtN, dDcN, e_in, e_put, e_get, e_f, e_len, e_ix, e_app, e_dcGet, e_dcLen, FV.d.injEq, FV.c.injEq, Cell.dt.injEq, $ls,*])
/-! ### cells of walks and boards -/
def wXs (o a : D) (fs : List D) (bg : List (List Key × D)) (si la : D) : List (Str × FV) := [("origin", .d o), ("at", .d a), ("firsts", .c (.l fs)), ("begun", .c (.dt bg)), ("since", .d si), ("lap", .d la)]
def bXs (one two : List Nat) (rs : List Row) (wk wy : Cell) : List (Str × FV) := [("_first", .d (.str (mkS one))), ("_second", .d (.str (mkS two))), ("_words", .d (bookD rs)), ("_walks", .c wk), ("_ways", .c wy)]
section
variable {o a x : D} {fs fs' : List D} {bg bg' : List (List Key × D)} {si la : D} {one two : List Nat} {rs : List Row} {wk wy c : Cell}
theorem l_origin : lookX "origin" (wXs o a fs bg si la) = some (.d o) := by unfold wXs; simp_arith [16]
theorem l_at : lookX "at" (wXs o a fs bg si la) = some (.d a) := by unfold wXs; simp_arith [16]
theorem l_firsts : lookX "firsts" (wXs o a fs bg si la) = some (.c (.l fs)) := by unfold wXs; simp_arith [16]
theorem l_begun : lookX "begun" (wXs o a fs bg si la) = some (.c (.dt bg)) := by unfold wXs; simp_arith [16]
theorem l_since : lookX "since" (wXs o a fs bg si la) = some (.d si) := by unfold wXs; simp_arith [16]
theorem l_lap : lookX "lap" (wXs o a fs bg si la) = some (.d la) := by unfold wXs; simp_arith [16]
theorem p_at : putFX "at" (.d x) (wXs o a fs bg si la) = wXs o x fs bg si la := by unfold wXs; simp_arith [16]
theorem p_firsts : putFX "firsts" (.c (.l fs')) (wXs o a fs bg si la) = wXs o a fs' bg si la := by unfold wXs; simp_arith [16]
theorem p_begun : putFX "begun" (.c (.dt bg')) (wXs o a fs bg si la) = wXs o a fs bg' si la := by unfold wXs; simp_arith [16]
theorem p_since : putFX "since" (.d x) (wXs o a fs bg si la) = wXs o a fs bg x la := by unfold wXs; simp_arith [16]
theorem p_lap : putFX "lap" (.d x) (wXs o a fs bg si la) = wXs o a fs bg si x := by unfold wXs; simp_arith [16]
theorem w_few : (wXs o a fs bg si la).length < 1000 := by show 6 < 1000; decide
theorem l_first : lookX "_first" (bXs one two rs wk wy) = some (.d (.str (mkS one))) := by unfold bXs; simp_arith [16]
theorem l_second : lookX "_second" (bXs one two rs wk wy) = some (.d (.str (mkS two))) := by unfold bXs; simp_arith [16]
theorem l_words : lookX "_words" (bXs one two rs wk wy) = some (.d (bookD rs)) := by unfold bXs; simp_arith [16]
theorem l_walks : lookX "_walks" (bXs one two rs wk wy) = some (.c wk) := by unfold bXs; simp_arith [16]
theorem l_ways : lookX "_ways" (bXs one two rs wk wy) = some (.c wy) := by unfold bXs; simp_arith [16]
theorem p_walks : putFX "_walks" (.c c) (bXs one two rs wk wy) = bXs one two rs c wy := by unfold bXs; simp_arith [16]
theorem p_ways : putFX "_ways" (.c c) (bXs one two rs wk wy) = bXs one two rs wk c := by unfold bXs; simp_arith [16]
theorem b_few : (bXs one two rs wk wy).length < 1000 := by show 5 < 1000; decide
end

open PySem L2
/-! ### rounds and rows looked through -/
theorem mkS_nil_iff (l : List Nat) : (mkS l = ("" : Str)) ↔ l = [] := by
  rw [show ("" : Str) = mkS [] by decide +kernel, mkS_inj]
def g_check_rounds (CN : Addr) : GSp := fun args Q E => ∃ one two : List Nat, args = [.fz (.str (mkS one)), .fz (.str (mkS two))] ∧ ((one ≠ [] ∧ two ≠ [] ∧ ∀ r, Q (.fz .none) r) ∨ (one = [] ∧ ∀ r, E CN (.int 1) r) ∨ (one ≠ [] ∧ two = [] ∧ ∀ r, E CN (.int 2) r))
theorem len_check_rounds (CN : Addr) : ∀ args Q E, g_check_rounds CN args Q E → args.length = ["first", "second"].length := by
  rintro args Q E ⟨one, two, rfl, _⟩
  rfl
def ds_check_rounds (C_NoRound : Addr) (dx : DX) : DS :=
  dSeq (dIf (dTest (dOp gEq (dVar 0) (dC (.str "")))) (dRaise C_NoRound dx (dCons (dC (.int 1)) dNil)) dNext)
  (dIf (dTest (dOp gEq (dVar 1) (dC (.str "")))) (dRaise C_NoRound dx (dCons (dC (.int 2)) dNil)) dNext)
theorem do_check_rounds (C : Addr) (args : List Slot) (Q : Slot → List Slot → Prop) (Eg : Addr → D → List Slot → Prop) (h : g_check_rounds C args Q Eg) : ds_check_rounds C (bodyDX 2 Eg) (bodyEnds 2 Q) (bodyEnv 2 2 args) := by
  obtain ⟨one, two, rfl, h⟩ := h
  unfold ds_check_rounds dRaise
  simp_arith [17, bodyDX, mkS_nil_iff]
  rcases h with ⟨h1, h2, h⟩ | ⟨h1, h⟩ | ⟨h1, h2, h⟩
  · rw [decide_eq_false h1, decide_eq_false h2]; exact h _
  · rw [decide_eq_true h1]; exact ⟨_, rfl, h _⟩
  · rw [decide_eq_false h1, decide_eq_true h2]; exact ⟨_, rfl, h _⟩
instance decWord (w : Str) : Decidable (isWord w) := by unfold isWord; exact inferInstance
theorem eqv_str (a b : Str) : PyData.eqv (.str a) (.str b) = decide (a = b) := rfl
theorem any_word (w : Str) : ([PyData.str wF, PyData.str wS, PyData.str wO].any fun z => PyData.eqv z (.str w)) = decide (isWord w) := by
  refine Bool.eq_iff_iff.mpr ?_
  simp only [List.any_cons, List.any_nil, eqv_str, Bool.or_false, Bool.or_eq_true, decide_eq_true_eq]
  exact ⟨fun h => h.imp Eq.symm fun h => h.imp Eq.symm Eq.symm, fun h => h.imp Eq.symm fun h => h.imp Eq.symm Eq.symm⟩
theorem any_late (w : Str) : ([PyData.str wF, PyData.str wS].any fun z => PyData.eqv z (.str w)) = decide (w = wF ∨ w = wS) := by
  simp only [List.any_cons, List.any_nil, eqv_str, Bool.or_false]
  rw [Bool.decide_or]
  simp only [eq_comm]
theorem book_has (rs : List Row) (a b : Nat) : (valX (bookK rs) (keyR a b)).isSome = decide ((a, b) ∈ rs.map rowP) := by
  cases h : valX (bookK rs) (keyR a b) with
  | none =>
    have := valX_none.mp h
    refine (decide_eq_false fun m => this ?_).symm
    obtain ⟨r, hr, e⟩ := List.mem_map.mp m
    unfold rowP at e
    cases e
    exact List.mem_map.mpr ⟨_, List.mem_map.mpr ⟨r, hr, rfl⟩, rfl⟩
  | some d =>
    refine (decide_eq_true ?_).symm
    have : keyR a b ∈ (bookK rs).map (·.1) := Classical.byContradiction fun n => by
      rw [valX_none.mpr n] at h; cases h
    obtain ⟨p, hp, e⟩ := List.mem_map.mp this
    obtain ⟨r, hr, e2⟩ := List.mem_map.mp hp
    subst e2
    obtain ⟨e3, e4⟩ := keyR_inj e
    exact List.mem_map.mpr ⟨r, hr, by unfold rowP; rw [e3, e4]⟩
theorem bookK_len (rs : List Row) : (bookK rs).length = rs.length := List.length_map ..
/-- the row at k of a rule may stand behind those ahead of it -/
def okRow (rs : List Row) (k : Nat) : Prop := ∀ r, rs[k]? = some r → isWord r.2.2 ∧ rowP r ∉ (rs.take k).map rowP
def g_words_by_pair (C : Addr) : GSp := fun args Q E => ∃ rs : List Row, args = [.fz (.list (rs.map rowD))] ∧ rs.length ≤ 1000 ∧ (((∀ k, okRow rs k) ∧ ∀ r, Q (.fz (bookD rs)) r) ∨ ∃ k, ¬ okRow rs k ∧ (∀ j, j < k → okRow rs j) ∧ ∀ r, E C (.int k) r)
theorem len_words_by_pair (C : Addr) : ∀ args Q E, g_words_by_pair C args Q E → args.length = ["rule"].length := by
  rintro args Q E ⟨rs, rfl, _⟩
  rfl
def ds_words_by_pair (C_NoRow : Addr) (dx : DX) : DS :=
  dSeq (dSetN 1 dDtN)
  (dSeq (dFor (diEnum (dCons (dVar 0) dNil)) (dgTup 2 (dgCons (dgName 2) (dgCons (dgTup 3 (dgCons (dgName 3) (dgCons (dgName 4) (dgCons (dgName 5) dgNil)))) dgNil))) (dSeq (dIf (dOr (dTest (dOp (gIn (fun k => !k)) (dVar 5) (dTup (dCons (dC (.str "first")) (dCons (dC (.str "second")) (dCons (dC (.str "other")) dNil)))))) (dTest (dDInV (fun k => k) (dTup (dCons (dVar 3) (dCons (dVar 4) dNil))) 1))) (dRaise C_NoRow dx (dCons (dVar 2) dNil)) dNext)
  (dDPut 1 (dTup (dCons (dVar 3) (dCons (dVar 4) dNil))) (dVar 5))))
  (dRet (dVar 1)))
theorem do_words_by_pair (C : Addr) (args : List Slot) (Q : Slot → List Slot → Prop) (Eg : Addr → D → List Slot → Prop) (h : g_words_by_pair C args Q Eg) : ds_words_by_pair C (bodyDX 1 Eg) (bodyEnds 1 Q) (bodyEnv 1 6 args) := by
  obtain ⟨rs, rfl, hl, h⟩ := h
  have hsz : sizeLine = 16777216 := sizeLine_eq
  unfold ds_words_by_pair dRaise
  simp_arith [17, diEnum]
  refine dLoop_ind (fun k ρ => ∃ s2 s3 s4 s5 : Slot, ρ = [.fz (.list (rs.map rowD)), .ow (.dt (bookK (rs.take k))), s2, s3, s4, s5] ∧ s2.isIo = false ∧ s3.isIo = false ∧ s4.isIo = false ∧ s5.isIo = false ∧ ∀ j, j < k → okRow rs j) ⟨_, _, _, _, rfl, rfl, rfl, rfl, rfl, fun j hj => absurd hj (Nat.not_lt_zero _)⟩ ?_ ?_
  · rintro ρ ⟨s2, s3, s4, s5, rfl, h2, h3, h4, h5, hk⟩
    simp_arith [17, enumL_len, List.length_map]
    rw [List.take_length]
    rcases h with ⟨_, h⟩ | ⟨k, h1, h2, h⟩
    · exact h _
    · refine absurd (fun r hr => ?_) h1
      have := lt_of_get hr
      exact hk k (by rw [enumL_len, List.length_map]; exact this) r hr
  · rintro k x ρ N hk ⟨s2, s3, s4, s5, rfl, h2, h3, h4, h5, hj⟩ hN
    rw [enumL_get] at hk
    rw [List.getElem?_map] at hk
    cases e : rs[k]? with
    | none => rw [e] at hk; cases hk
    | some r =>
      rw [e] at hk
      cases hk
      simp_arith [17, h2, h3, h4, h5, rowD, dDInV, dDPut, bodyDX]
      rw [any_word, show PyData.tuple [PyData.str (mkS [r.1]), PyData.str (mkS [r.2.1])] = keysD (keyR r.1 r.2.1) from rfl, Nat.zero_add]
      refine ⟨by omega, rfl, rfl, ?_⟩
      have bad : ¬ okRow rs k → Eg C (PyData.int k) [Slot.no] := fun n => by
        rcases h with ⟨h, _⟩ | ⟨m, h1, h2, h⟩
        · exact absurd (h k) n
        · have : m = k := by
            rcases Nat.lt_trichotomy m k with z | z | z
            · exact absurd (hj m z) h1
            · exact z
            · exact absurd (h2 k z) n
          subst this
          exact h _
      by_cases hw : isWord r.2.2
      · rw [decide_eq_true hw]
        refine ⟨by omega, _, CLook.t _ _, ?_⟩
        rw [book_has]
        by_cases hp : (r.1, r.2.1) ∈ (rs.take k).map rowP
        · rw [decide_eq_true hp]
          exact ⟨_, rfl, bad fun n => (n r e).2 hp⟩
        · rw [decide_eq_false hp]
          refine ⟨by omega, .inr ⟨_, rfl, ?_, ?_⟩⟩
          · have := lt_of_get e
            rw [bookK_len, List.length_take]; omega
          · have hn : valX (bookK (rs.take k)) (keyR r.1 r.2.1) = none := by
              have := book_has (rs.take k) r.1 r.2.1
              rw [decide_eq_false hp] at this
              cases w : valX (bookK (rs.take k)) (keyR r.1 r.2.1) with
              | none => rfl
              | some d => rw [w] at this; cases this
            have eb : putX (bookK (rs.take k)) (keyR r.1 r.2.1) (.str r.2.2) = bookK (rs.take (k + 1)) := by
              rw [putX_new _ hn]
              unfold bookK
              rw [take_snoc _ e]
            rw [eb]
            refine hN _ ⟨_, _, _, _, rfl, rfl, rfl, rfl, rfl, fun j hjk => ?_⟩
            by_cases z : j = k
            · subst z
              intro r' hr'
              rw [e] at hr'
              cases hr'
              exact ⟨hw, hp⟩
            · exact hj j (by omega)
      · rw [decide_eq_false hw]
        exact ⟨_, rfl, bad fun n => hw (n r e).1⟩

open PySem L2
/-! ### the class of walks -/
def g_walk_init (CW : Addr) : GSp := fun args Q _ => ∃ (q : Addr) (d : D), args = [.io (recC CW q []), .fz d] ∧ ∀ r, Q (.fz .none) (.io (recC CW q (wXs d d [.int 0] [] (.int 0) (.int 0))) :: r)
theorem len_walk_init (CW : Addr) : ∀ args Q E, g_walk_init CW args Q E → args.length = ["self", "standing"].length := by
  rintro args Q E ⟨q, d, rfl, _⟩
  rfl
def ds_walk_init (CW : Addr) (dx : DX) : DS :=
  dSeq (dPSetX CW 0 "origin" (dVar 1))
  (dSeq (dPSetX CW 0 "at" (dVar 1))
  (dSeq (dPSetN CW 0 "firsts" (dLstN (dCons (dC (.int 0)) dNil)))
  (dSeq (dPSetN CW 0 "begun" dDtN)
  (dSeq (dPSetX CW 0 "since" (dC (.int 0)))
  (dPSetX CW 0 "lap" (dC (.int 0)))))))
theorem do_walk_init (CW : Addr) (args : List Slot) (Q : Slot → List Slot → Prop) (Eg : Addr → D → List Slot → Prop) (h : g_walk_init CW args Q Eg) : ds_walk_init CW (bodyDX 2 Eg) (bodyEnds 2 Q) (bodyEnv 2 2 args) := by
  obtain ⟨q, d, rfl, h⟩ := h
  unfold ds_walk_init
  simp_arith [17]
  have hsz : sizeLine = 16777216 := sizeLine_eq
  have h := h [.no]
  unfold wXs at h
  iterate 6
    try refine And.intro (by omega) ?_
    refine pls0 ?_ ?_
    · simp only [List.length_cons, List.length_nil]; try decide
    simp_arith [17]
    simp_arith [16]
  exact h
/-- standings by keys -/
def standK (s : Stand) : List Key := [.inl s.1, .inl s.2.1, .inr (lateS s.2.2)]
theorem standK_D (s : Stand) : keysD (standK s) = standD s := rfl
theorem late_inj {a b : Bool} (h : lateS a = lateS b) : a = b := by
  cases a <;> cases b <;> first | rfl | exact absurd h.symm w_ne | exact absurd h w_ne
theorem standK_inj {s t : Stand} (h : standK s = standK t) : s = t := by
  unfold standK at h
  simp only [List.cons.injEq, Sum.inl.injEq, Sum.inr.injEq, and_true] at h
  obtain ⟨h1, h2, h3⟩ := h
  exact Prod.ext (by omega) (Prod.ext (by show s.2.1 = t.2.1; omega) (late_inj h3))
/-- what is kept of a going -/
structure WalkI (one two : List Nat) (rs : List Row) (s : Stand) (n : Nat) (a : Stand) (bg : List (Stand × Nat)) (si la : Nat) : Prop where
  ins : InS one two s
  few : bg.length ≤ n
  run : la = 0 → si = 0 ∧ a = goN one two rs s n ∧ (bg.map (·.1)).Nodup ∧ (∀ e ∈ bg, 1 ≤ e.2 ∧ e.2 ≤ n ∧ goN one two rs s e.2 = e.1 ∧ (e.1.2.2 = true → e.1.1 = 0) ∧ (e.1.2.2 = false → e.1.2.1 = 0)) ∧
    s.1 + fN one two rs s n = one.length * (bg.countP fun e => e.1.2.2) + a.1 ∧ s.2.1 + (n - fN one two rs s n) = two.length * (bg.countP fun e => !e.1.2.2) + a.2.1
  lap : 0 < la → 1 ≤ si ∧ n = si + la ∧ goN one two rs s (si + la) = goN one two rs s si
def bgK (bg : List (Stand × Nat)) : List (List Key × D) := bg.map fun e => (standK e.1, .int e.2)
def fsL (one two : List Nat) (rs : List Row) (s : Stand) (n : Nat) : List D := (List.range (n + 1)).map fun k => .int (fN one two rs s k)
def walkC (CW q : Addr) (one two : List Nat) (rs : List Row) (s : Stand) (n : Nat) (a : Stand) (bg : List (Stand × Nat)) (si la : Nat) : Cell := recC CW q (wXs (standD s) (standD a) (fsL one two rs s n) (bgK bg) (.int si) (.int la))
theorem fsL_len {one two : List Nat} {rs : List Row} {s : Stand} {n : Nat} : (fsL one two rs s n).length = n + 1 := by unfold fsL; rw [List.length_map, List.length_range]
theorem fsL_at {one two : List Nat} {rs : List Row} {s : Stand} {n k : Nat} (h : k ≤ n) : L2.atI (fsL one two rs s n) (k : Int) = some (.int (fN one two rs s k)) := by
  refine atI_nat ?_
  unfold fsL
  rw [List.getElem?_map, List.getElem?_range (by omega)]
  rfl
theorem fsL_last {one two : List Nat} {rs : List Row} {s : Stand} {n : Nat} : L2.atI (fsL one two rs s n) (-1) = some (.int (fN one two rs s n)) := by
  have h := fsL_at (one := one) (two := two) (rs := rs) (s := s) (Nat.le_refl n)
  have e : (fsL one two rs s n).length = n + 1 := fsL_len
  unfold L2.atI at h ⊢
  rw [e] at h ⊢
  have e1 : ixN (n + 1) (-1) = some n := by unfold ixN; simp; try omega
  have e2 : ixN (n + 1) (n : Int) = some n := by unfold ixN; simp; try omega
  rw [e1]; rw [e2] at h; exact h
theorem fsL_snoc {one two : List Nat} {rs : List Row} {s : Stand} {n : Nat} : fsL one two rs s n ++ [.int (fN one two rs s (n + 1))] = fsL one two rs s (n + 1) := by
  unfold fsL
  rw [List.range_succ (n := n + 1), List.map_append]
  rfl
theorem bgK_val (bg : List (Stand × Nat)) (s : Stand) : valX (bgK bg) (standK s) = (valX bg s).map fun k => PyData.int (k : Int) := by
  induction bg with
  | nil => rfl
  | cons e bg ih =>
    by_cases z : e.1 = s
    · rw [valX_pos z]
      exact valX_pos (p := (standK e.1, PyData.int e.2)) (by rw [z])
    · rw [valX_neg z, ← ih]
      exact valX_neg (p := (standK e.1, PyData.int e.2)) fun w => z (standK_inj w)
/-- at the end of a round: had it been here? -/
def g_walk_begins (CW : Addr) : GSp := fun args Q _ => ∃ (q : Addr) (o a : D) (fs : List D) (bg : List (Stand × Nat)) (s : Stand) (n : Nat) (si la : D), args = [.io (recC CW q (wXs o a fs (bgK bg) si la)), .fz (standD s), .fz (.int n)] ∧ bg.length < sizeLine ∧
  ((valX bg s = none ∧ ∀ r, Q (.fz (.bool false)) (.io (recC CW q (wXs o a fs (bgK (bg ++ [(s, n)])) si la)) :: r)) ∨ ∃ k : Nat, valX bg s = some k ∧ ∀ r, Q (.fz (.bool true)) (.io (recC CW q (wXs o a fs (bgK bg) (.int k) (.int ((n : Int) - k)))) :: r))
theorem len_walk_begins (CW : Addr) : ∀ args Q E, g_walk_begins CW args Q E → args.length = ["self", "standing", "ticks"].length := by
  rintro args Q E ⟨q, o, a, fs, bg, s, n, si, la, rfl, _⟩
  rfl
def ds_walk_begins (CW : Addr) (dx : DX) : DS :=
  dSeq (dIf (dTest (dPIn (fun k => !k) CW (dVar 1) 0 "begun")) (dSeq (dPPut CW 0 "begun" 1 (dVar 2))
  (dRet (dC (.bool false)))) dNext)
  (dSeq (dPSetX CW 0 "since" (dPGet CW 0 "begun" 1))
  (dSeq (dPSetX CW 0 "lap" (dOp (gI2 fun i j => .int (i - j)) (dVar 2) (dPF CW 0 "since")))
  (dRet (dC (.bool true)))))
theorem do_walk_begins (CW : Addr) (args : List Slot) (Q : Slot → List Slot → Prop) (Eg : Addr → D → List Slot → Prop) (h : g_walk_begins CW args Q Eg) : ds_walk_begins CW (bodyDX 3 Eg) (bodyEnds 3 Q) (bodyEnv 3 3 args) := by
  obtain ⟨q, o, a, fs, bg, s, n, si, la, rfl, hl, h⟩ := h
  unfold ds_walk_begins
  simp_arith [17]
  refine plf0 l_begun ?_
  simp_arith [17]
  refine ⟨standK s, rfl, ?_⟩
  rw [bgK_val]
  rcases h with ⟨h1, h⟩ | ⟨k, h1, h⟩
  · rw [h1]
    show PlF _ _ _ _ _
    refine plf0 l_begun ?_
    simp_arith [17]
    refine ⟨standK s, rfl, by unfold bgK; rw [List.length_map]; exact hl, ?_⟩
    rw [p_begun, putX_new _ (by rw [bgK_val, h1]; rfl)]
    have := h [.no, .no]
    unfold bgK at this
    rw [List.map_append] at this
    exact this
  · rw [h1]
    show PlF _ _ _ _ _
    refine plf0 l_begun ?_
    simp_arith [17]
    refine ⟨standK s, rfl, _, by rw [bgK_val, h1]; rfl, ?_⟩
    refine pls0 w_few ?_
    simp_arith [17]
    rw [p_since]
    refine plf0 l_since ?_
    simp_arith [17]
    refine pls0 w_few ?_
    simp_arith [17]
    rw [p_lap]
    exact h _

open PySem L2
section
variable {one two : List Nat} {rs : List Row} {s : Stand} {n : Nat} {a : Stand} {bg : List (Stand × Nat)} {si la : Nat}
/-- the tick behind which it is, off the laps -/
theorem WalkI.lapAt (I : WalkI one two rs s n a bg si la) (hl : 0 < la) {t : Nat} (ht : n < t) : ∃ q m, (t - si) / la = q ∧ t - q * la = m ∧ q * la ≤ t ∧ 1 ≤ m ∧ m ≤ n ∧ si ≤ m ∧ goN one two rs s t = goN one two rs s m ∧ fN one two rs s t + q * fN one two rs s si = fN one two rs s m + q * fN one two rs s n := by
  obtain ⟨h1, h2, h3⟩ := I.lap hl
  have e0 : t - si = la * ((t - si) / la) + (t - si) % la := (Nat.div_add_mod _ _).symm
  have e1 : (t - si) % la < la := Nat.mod_lt _ hl
  have e2 : la * ((t - si) / la) = (t - si) / la * la := Nat.mul_comm _ _
  have em : t - (t - si) / la * la = si + (t - si) % la := by omega
  have et : t = si + (t - si) % la + (t - si) / la * la := by omega
  refine ⟨_, _, rfl, em, by omega, by omega, by omega, by omega, ?_, ?_⟩
  · have := laps_go h3 ((t - si) % la) ((t - si) / la)
    rw [← et] at this
    exact this
  · have := laps_f h3 ((t - si) % la) ((t - si) / la)
    rw [← et, ← h2] at this
    exact this
end
def g_walk_behind (CW : Addr) : GSp := fun args Q _ => ∃ (q : Addr) (one two : List Nat) (rs : List Row) (s : Stand) (n : Nat) (a : Stand) (bg : List (Stand × Nat)) (si la t : Nat), args = [.io (walkC CW q one two rs s n a bg si la), .fz (.int t)] ∧ WalkI one two rs s n a bg si la ∧ n < 2 ^ 24 ∧ (t ≤ n ∨ 0 < la) ∧
  ∀ r, Q (.fz (.tuple [.int (fN one two rs s t), .str (lateS (goN one two rs s t).2.2)])) (.io (walkC CW q one two rs s n a bg si la) :: r)
theorem len_walk_behind (CW : Addr) : ∀ args Q E, g_walk_behind CW args Q E → args.length = ["self", "ticks"].length := by
  rintro args Q E ⟨q, one, two, rs, s, n, a, bg, si, la, t, rfl, _⟩
  rfl
def ds_wb3 (CW : Addr) : DS := dRet (dTup (dCons (dOp gAdd (dVar 4) (dOp gMulA (dVar 2) (dOp (gI2 fun i j => .int (i - j)) (dPIx CW 0 "firsts" (piC (-1))) (dPIx CW 0 "firsts" (piF CW 0 "since"))))) (dCons (dVar 5) dNil)))
def ds_wb2 (CW : Addr) : DS :=
  dSeq (dAsg (dOp (gI2 fun i j => .int (i - j)) (dVar 1) (dOp gMulA (dVar 2) (dPF CW 0 "lap"))) (dgName 3))
  (dSeq (dAsg (dPIx CW 0 "firsts" (piV 3)) (dgName 4))
  (dSeq (dAsg (dIfE (dTest (dOp fGt (dVar 4) (dPIx CW 0 "firsts" (piSub (piV 3) (piC 1))))) (dC (.str "first")) (dC (.str "second"))) (dgName 5))
  (ds_wb3 CW)))
def ds_wb1 (CW : Addr) : DS :=
  dSeq (dAsg (dC (.int 0)) (dgName 2))
  (dSeq (dIf (dTest (dOp fGe (dVar 1) (dPLen CW 0 "firsts"))) (dAsg (dOp (gInt2 CDivW fun i j => .int (i / j)) (dOp (gI2 fun i j => .int (i - j)) (dVar 1) (dPF CW 0 "since")) (dPF CW 0 "lap")) (dgName 2)) dNext)
  (ds_wb2 CW))
def ds_walk_behind (CW : Addr) (dx : DX) : DS :=
  dSeq (dIf (dTest (dOp gEq (dVar 1) (dC (.int 0)))) (dRet (dTup (dCons (dC (.int 0)) (dCons (dOp gIx (dPF CW 0 "origin") (dC (.int 2))) dNil)))) dNext)
  (ds_wb1 CW)
theorem do_walk_behind (CW : Addr) (args : List Slot) (Q : Slot → List Slot → Prop) (Eg : Addr → D → List Slot → Prop) (h : g_walk_behind CW args Q Eg) : ds_walk_behind CW (bodyDX 2 Eg) (bodyEnds 2 Q) (bodyEnv 2 6 args) := by
  obtain ⟨q, one, two, rs, s, n, a, bg, si, la, t, rfl, I, hn, ht, h⟩ := h
  have hsz : sizeLine = 16777216 := sizeLine_eq
  unfold ds_walk_behind walkC
  simp_arith [17]
  by_cases t0 : t = 0
  · subst t0
    refine plf0 l_origin ?_
    unfold standD
    simp_arith [17]
    refine ⟨by omega, ?_⟩
    exact h _
  · rw [decide_eq_false (by omega)]
    show ds_wb1 CW _ _
    unfold ds_wb1
    simp_arith [17]
    refine plf0 l_firsts ?_
    simp_arith [17, fsL_len]
    have hsn : si ≤ n := by
      rcases Nat.eq_zero_or_pos la with z | z
      · have := (I.run z).1; omega
      · have := (I.lap z).2.1; omega
    have hla : la ≤ n ∨ la = 0 := by
      rcases Nat.eq_zero_or_pos la with z | z
      · exact .inr z
      · have := (I.lap z).2.1; omega
    have hfn := fN_le (one := one) (two := two) (rs := rs) (s := s) n
    have hfs := fN_le (one := one) (two := two) (rs := rs) (s := s) si
    have key : ∀ k m : Nat, t = m + k * la → 1 ≤ m → m ≤ n → goN one two rs s t = goN one two rs s m → fN one two rs s t + k * fN one two rs s si = fN one two rs s m + k * fN one two rs s n →
        ds_wb2 CW (bodyEnds 2 Q) [.io (recC CW q (wXs (standD s) (standD a) (fsL one two rs s n) (bgK bg) (.int si) (.int la))), .fz (.int t), .fz (.int k), .no, .no, .no] := by
      intro k m e1 m1 m2 e2 e3
      unfold ds_wb2
      simp_arith [17]
      refine plf0 l_lap ?_
      simp_arith [17]
      have ec : ((k : Int) * (la : Int)) = ((k * la : Nat) : Int) := (Int.natCast_mul _ _).symm
      have em : (t : Int) - (k : Int) * (la : Int) = (m : Int) := by rw [ec]; omega
      refine ⟨.inl (.inr ⟨by omega, by omega⟩), ?_⟩
      rw [em]
      refine plf0 l_firsts ?_
      simp_arith [17]
      refine ⟨_, rfl, _, fsL_at m2, ?_⟩
      refine plf0 l_firsts ?_
      simp_arith [17]
      refine ⟨(m : Int) - 1, ⟨_, _, rfl, rfl, rfl⟩, .int (fN one two rs s (m - 1)), ?_, ?_⟩
      · rw [show (m : Int) - 1 = ((m - 1 : Nat) : Int) by omega]
        exact fsL_at (by omega)
      simp_arith [17]
      have el : goN one two rs s m = goN one two rs s ((m - 1) + 1) := by rw [show m - 1 + 1 = m by omega]
      have hl : lateS (goN one two rs s t).2.2 = (if fN one two rs s (m - 1) < fN one two rs s m then wF else wS) := by
        rw [e2, el, fN_step, show m - 1 + 1 = m by omega]
        by_cases z : fN one two rs s (m - 1) < fN one two rs s m
        · rw [if_pos z, decide_eq_true z]; rfl
        · rw [if_neg z, decide_eq_false z]; rfl
      have fin : ∀ w : Str, lateS (goN one two rs s t).2.2 = w → ds_wb3 CW (bodyEnds 2 Q) [.io (recC CW q (wXs (standD s) (standD a) (fsL one two rs s n) (bgK bg) (.int si) (.int la))), .fz (.int t), .fz (.int k), .fz (.int m), .fz (.int (fN one two rs s m)), .fz (.str w)] := by
        intro w hw
        unfold ds_wb3
        simp_arith [17]
        refine plf0 l_firsts ?_
        simp_arith [17]
        refine ⟨-1, rfl, _, fsL_last, ?_⟩
        refine plf0 l_firsts ?_
        simp_arith [17]
        refine ⟨si, ⟨_, _, _, plc0, l_since⟩, _, fsL_at hsn, ?_⟩
        simp_arith [17]
        have h := h [.no]
        rw [hw] at h
        have ef : (fN one two rs s m : Int) + (k : Int) * ((fN one two rs s n : Int) - (fN one two rs s si : Int)) = (fN one two rs s t : Int) := by
          have := congrArg (fun z : Nat => (z : Int)) e3
          simp only [Int.natCast_add, Int.natCast_mul] at this
          rw [Int.mul_sub]
          omega
        rw [ef]
        exact ⟨.inl (.inr ⟨by omega, by omega⟩), by omega, h⟩
      by_cases z : fN one two rs s (m - 1) < fN one two rs s m
      · rw [if_pos z] at hl
        rw [decide_eq_true (by omega)]
        exact fin _ hl
      · rw [if_neg z] at hl
        rw [decide_eq_false (by omega)]
        exact fin _ hl
    have e0 : ds_wb2 CW (bodyEnds 2 Q) = ds_wb2 CW { nx := fun ρ => 2 ≤ List.length ρ ∧ Q (Slot.fz PyData.none) (ioOnly (List.take 2 ρ)), rt := fun r ρ => 2 ≤ List.length ρ ∧ Q r (ioOnly (List.take 2 ρ)), bk := fun x => False, ct := fun x => False } := rfl
    by_cases z : n + 1 ≤ t
    · rw [decide_eq_true (by omega)]
      refine plf0 l_since ?_
      simp_arith [17]
      refine plf0 l_lap ?_
      simp_arith [17]
      have hl : 0 < la := by omega
      obtain ⟨k, m, g1, g2, g3, g4, g5, g6, g7, g8⟩ := I.lapAt hl (t := t) (by omega)
      obtain ⟨i1, i2, i3⟩ := I.lap hl
      refine ⟨c_div (by omega) (by omega), ?_⟩
      have ek : ((t : Int) - (si : Int)) / (la : Int) = (k : Int) := by
        rw [← g1, show (t : Int) - (si : Int) = ((t - si : Nat) : Int) by omega, Int.natCast_ediv]
      rw [ek]
      exact key k m (by omega) g4 g5 g7 g8
    · rw [decide_eq_false (by omega)]
      exact key 0 t (by omega) (by omega) (by omega) rfl (by omega)

open PySem L2
/-! ### the class of boards -/
def boardC (CB p : Addr) (one two : List Nat) (rs : List Row) (ws : List (List Key × Addr × Cell)) (wy : Cell) : Cell := recC CB p (bXs one two rs (dcC ws) wy)
def mostN (one two : List Nat) : Nat := 2 * one.length * two.length + one.length + two.length
/-- rounds that a board may have -/
structure BdS (one two : List Nat) : Prop where
  a1 : 1 ≤ one.length
  a2 : one.length ≤ 2000
  b1 : 1 ≤ two.length
  b2 : two.length ≤ 2000
def WsE (CW : Addr) (one two : List Nat) (rs : List Row) (e : List Key × Addr × Cell) : Prop := ∃ (s : Stand) (q : Addr) (n : Nat) (a : Stand) (bg : List (Stand × Nat)) (si la : Nat), e = (standK s, q, walkC CW q one two rs s n a bg si la) ∧ WalkI one two rs s n a bg si la ∧ n < 2 ^ 24
structure WsI (CW : Addr) (one two : List Nat) (rs : List Row) (ws : List (List Key × Addr × Cell)) : Prop where
  el : ∀ e ∈ ws, WsE CW one two rs e
  few : ws.length ≤ 50000
theorem valX_mem {κ α : Type} [DecidableEq κ] {ws : List (κ × α)} {k : κ} {x : α} (h : valX ws k = some x) : (k, x) ∈ ws := by
  unfold valX at h
  cases e : ws.find? fun kv => decide (kv.1 = k) with
  | none => rw [e] at h; cases h
  | some p =>
    rw [e] at h
    cases h
    have h1 := List.find?_some e
    have h2 := List.mem_of_find?_eq_some e
    have : p.1 = k := of_decide_eq_true h1
    rw [← this]; exact h2
theorem WsI.get {CW : Addr} {one two : List Nat} {rs : List Row} {ws : List (List Key × Addr × Cell)} (I : WsI CW one two rs ws) {s : Stand} {q : Addr} {c : Cell} (h : valX ws (standK s) = some (q, c)) : ∃ (n : Nat) (a : Stand) (bg : List (Stand × Nat)) (si la : Nat), c = walkC CW q one two rs s n a bg si la ∧ WalkI one two rs s n a bg si la ∧ n < 2 ^ 24 := by
  obtain ⟨s', q', n, a, bg, si, la, e, h1, h2⟩ := I.el _ (valX_mem h)
  cases standK_inj (congrArg (·.1) e)
  have e2 := congrArg (·.2) e
  have e3 : q = q' := congrArg (·.1) e2
  subst e3
  exact ⟨n, a, bg, si, la, congrArg (·.2) e2, h1, h2⟩
theorem dcSet_mem {k : List Key} {c : Cell} : ∀ {ws : List (List Key × Addr × Cell)} {e : List Key × Addr × Cell}, e ∈ dcSet k c ws → e ∈ ws ∨ ∃ q c0, valX ws k = some (q, c0) ∧ e = (k, q, c)
  | [], e, h => absurd h List.not_mem_nil
  | (k0, q, c0) :: r, e, h => by
    by_cases z : k0 = k
    · have h : e ∈ (if k0 = k then (k0, q, c) :: r else (k0, q, c0) :: dcSet k c r) := h
      rw [if_pos z] at h
      rcases List.mem_cons.mp h with w | w
      · exact .inr ⟨q, c0, valX_pos z, by rw [w, z]⟩
      · exact .inl (List.mem_cons_of_mem _ w)
    · have h : e ∈ (if k0 = k then (k0, q, c) :: r else (k0, q, c0) :: dcSet k c r) := h
      rw [if_neg z] at h
      rcases List.mem_cons.mp h with w | w
      · exact .inl (by rw [w]; exact List.mem_cons_self)
      · rcases dcSet_mem w with y | ⟨q', c', y1, y2⟩
        · exact .inl (List.mem_cons_of_mem _ y)
        · exact .inr ⟨q', c', by rw [valX_neg z]; exact y1, y2⟩
theorem dcSet_len (k : List Key) (c : Cell) : ∀ ws : List (List Key × Addr × Cell), (dcSet k c ws).length = ws.length
  | [] => rfl
  | (k0, q, c0) :: r => by
    show (if k0 = k then (k0, q, c) :: r else (k0, q, c0) :: dcSet k c r).length = _
    by_cases z : k0 = k
    · rw [if_pos z]; rfl
    · rw [if_neg z, List.length_cons, List.length_cons, dcSet_len k c r]
theorem dcSet_val {k : List Key} {c c0 : Cell} {q : Addr} : ∀ {ws : List (List Key × Addr × Cell)}, valX ws k = some (q, c0) → valX (dcSet k c ws) k = some (q, c)
  | [], h => by cases h
  | (k0, q1, c1) :: r, h => by
    show valX (if k0 = k then (k0, q1, c) :: r else (k0, q1, c1) :: dcSet k c r) k = _
    by_cases z : k0 = k
    · rw [valX_pos z] at h
      cases h
      rw [if_pos z, valX_pos z]
    · rw [valX_neg z] at h
      rw [if_neg z, valX_neg z]
      exact dcSet_val h
theorem dcSet_set {k : List Key} {c c' : Cell} : ∀ {ws : List (List Key × Addr × Cell)}, dcSet k c' (dcSet k c ws) = dcSet k c' ws
  | [] => rfl
  | (k0, q1, c1) :: r => by
    show dcSet k c' (if k0 = k then (k0, q1, c) :: r else (k0, q1, c1) :: dcSet k c r) = (if k0 = k then (k0, q1, c') :: r else (k0, q1, c1) :: dcSet k c' r)
    by_cases z : k0 = k
    · rw [if_pos z, if_pos z]
      show (if k0 = k then _ else _) = _
      rw [if_pos z]
    · rw [if_neg z, if_neg z]
      show (if k0 = k then _ else _) = _
      rw [if_neg z, dcSet_set]
theorem WsI.set {CW : Addr} {one two : List Nat} {rs : List Row} {ws : List (List Key × Addr × Cell)} (I : WsI CW one two rs ws) {s : Stand} {q : Addr} {c : Cell} (h : valX ws (standK s) = some (q, c)) {n : Nat} {a : Stand} {bg : List (Stand × Nat)} {si la : Nat} (J : WalkI one two rs s n a bg si la) (hn : n < 2 ^ 24) :
    WsI CW one two rs (dcSet (standK s) (walkC CW q one two rs s n a bg si la) ws) := ⟨fun e he => by
  rcases dcSet_mem he with z | ⟨q', c', h1, h2⟩
  · exact I.el e z
  · rw [h] at h1
    cases h1
    exact ⟨s, q, n, a, bg, si, la, h2, J, hn⟩, by rw [dcSet_len]; exact I.few⟩
theorem WsI.nil {CW : Addr} {one two : List Nat} {rs : List Row} : WsI CW one two rs [] := ⟨fun e he => absurd he List.not_mem_nil, Nat.zero_le _⟩
/-! making -/
def g_board_init (CB CR CN : Addr) : GSp := fun args Q E => ∃ (p : Addr) (one two : List Nat) (rs : List Row), args = [.io (recC CB p []), .fz (.str (mkS one)), .fz (.str (mkS two)), .fz (.list (rs.map rowD))] ∧ rs.length ≤ 1000 ∧
  ((one ≠ [] ∧ two ≠ [] ∧ (∀ k, okRow rs k) ∧ ∀ r, Q (.fz .none) (.io (boardC CB p one two rs [] (.dt [])) :: r)) ∨ (one = [] ∧ ∀ as, E CR (.int 1) as) ∨ (one ≠ [] ∧ two = [] ∧ ∀ as, E CR (.int 2) as) ∨ (one ≠ [] ∧ two ≠ [] ∧ ∃ k, ¬ okRow rs k ∧ (∀ j, j < k → okRow rs j) ∧ ∀ as, E CN (.int k) as))
theorem len_board_init (CB CR CN : Addr) : ∀ args Q E, g_board_init CB CR CN args Q E → args.length = ["self", "first", "second", "rule"].length := by
  rintro args Q E ⟨p, one, two, rs, rfl, _⟩
  rfl
def ds_board_init (CB C_NoRound C_NoRow : Addr) (dx : DX) : DS :=
  dSeq (dDrop (dCall (g_check_rounds C_NoRound) [] dx (dCons (dVar 1) (dCons (dVar 2) dNil))))
  (dSeq (dPSetX CB 0 "_first" (dVar 1))
  (dSeq (dPSetX CB 0 "_second" (dVar 2))
  (dSeq (dPSetX CB 0 "_words" (dCall (g_words_by_pair C_NoRow) [] dx (dCons (dVar 3) dNil)))
  (dSeq (dPSetN CB 0 "_walks" dDcN)
  (dPSetN CB 0 "_ways" dDtN)))))
theorem do_board_init (CB CR CN : Addr) (args : List Slot) (Q : Slot → List Slot → Prop) (Eg : Addr → D → List Slot → Prop) (h : g_board_init CB CR CN args Q Eg) : ds_board_init CB CR CN (bodyDX 4 Eg) (bodyEnds 4 Q) (bodyEnv 4 4 args) := by
  obtain ⟨p, one, two, rs, rfl, hl, h⟩ := h
  unfold ds_board_init
  simp_arith [17, bodyDX]
  refine ⟨one, two, rfl, ?_⟩
  rcases h with ⟨h1, h2, h3, h⟩ | ⟨h1, h⟩ | ⟨h1, h2, h⟩ | ⟨h1, h2, k, h3, h4, h⟩
  · refine .inl ⟨h1, h2, fun r => ?_⟩
    refine pls0 (by simp only [List.length_nil]; decide) ?_
    simp_arith [17]
    simp_arith [16]
    refine pls0 (by simp only [List.length_cons, List.length_nil]; decide) ?_
    simp_arith [17]
    simp_arith [16]
    refine ⟨rs, rfl, hl, .inl ⟨h3, fun r => ?_⟩⟩
    simp_arith [17]
    refine pls0 (by simp only [List.length_cons, List.length_nil]; decide) ?_
    simp_arith [17]
    simp_arith [16]
    refine pls0 (by simp only [List.length_cons, List.length_nil]; decide) ?_
    simp_arith [17]
    simp_arith [16]
    refine pls0 (by simp only [List.length_cons, List.length_nil]; decide) ?_
    simp_arith [17]
    simp_arith [16]
    have h := h [.no, .no, .no]
    unfold boardC bXs at h
    exact h
  · exact .inr (.inl ⟨h1, fun r => h _⟩)
  · exact .inr (.inr ⟨h1, h2, fun r => h _⟩)
  · refine .inl ⟨h1, h2, fun r => ?_⟩
    refine pls0 (by simp only [List.length_nil]; decide) ?_
    simp_arith [17]
    simp_arith [16]
    refine pls0 (by simp only [List.length_cons, List.length_nil]; decide) ?_
    simp_arith [17]
    simp_arith [16]
    exact ⟨rs, rfl, hl, .inr ⟨k, h3, h4, fun r => h _⟩⟩
/-! fields told -/
def g_board_first (CB : Addr) : GSp := fun args Q _ => ∃ (p : Addr) (one two : List Nat) (rs : List Row) (wk wy : Cell), args = [.io (recC CB p (bXs one two rs wk wy))] ∧ ∀ r, Q (.fz (.str (mkS one))) (.io (recC CB p (bXs one two rs wk wy)) :: r)
theorem len_board_first (CB : Addr) : ∀ args Q E, g_board_first CB args Q E → args.length = ["self"].length := by
  rintro args Q E ⟨p, one, two, rs, wk, wy, rfl, _⟩
  rfl
def ds_board_first (CB : Addr) (dx : DX) : DS :=
  dRet (dPF CB 0 "_first")
theorem do_board_first (CB : Addr) (args : List Slot) (Q : Slot → List Slot → Prop) (Eg : Addr → D → List Slot → Prop) (h : g_board_first CB args Q Eg) : ds_board_first CB (bodyDX 1 Eg) (bodyEnds 1 Q) (bodyEnv 1 1 args) := by
  obtain ⟨p, one, two, rs, wk, wy, rfl, h⟩ := h
  unfold ds_board_first
  simp_arith [17]
  refine plf0 l_first ?_
  simp_arith [17]
  exact h _
def g_board_second (CB : Addr) : GSp := fun args Q _ => ∃ (p : Addr) (one two : List Nat) (rs : List Row) (wk wy : Cell), args = [.io (recC CB p (bXs one two rs wk wy))] ∧ ∀ r, Q (.fz (.str (mkS two))) (.io (recC CB p (bXs one two rs wk wy)) :: r)
theorem len_board_second (CB : Addr) : ∀ args Q E, g_board_second CB args Q E → args.length = ["self"].length := by
  rintro args Q E ⟨p, one, two, rs, wk, wy, rfl, _⟩
  rfl
def ds_board_second (CB : Addr) (dx : DX) : DS :=
  dRet (dPF CB 0 "_second")
theorem do_board_second (CB : Addr) (args : List Slot) (Q : Slot → List Slot → Prop) (Eg : Addr → D → List Slot → Prop) (h : g_board_second CB args Q Eg) : ds_board_second CB (bodyDX 1 Eg) (bodyEnds 1 Q) (bodyEnv 1 1 args) := by
  obtain ⟨p, one, two, rs, wk, wy, rfl, h⟩ := h
  unfold ds_board_second
  simp_arith [17]
  refine plf0 l_second ?_
  simp_arith [17]
  exact h _
/-! the word of a place -/
def InP (one two : List Nat) (i j : Int) : Prop := (0 ≤ i ∧ i < one.length) ∧ (0 ≤ j ∧ j < two.length)
def g_board_word (CB C : Addr) : GSp := fun args Q E => ∃ (p : Addr) (one two : List Nat) (rs : List Row) (wk wy : Cell) (i j : Int), args = [.io (recC CB p (bXs one two rs wk wy)), .fz (.int i), .fz (.int j)] ∧ BdS one two ∧
  ((InP one two i j ∧ ∀ r, Q (.fz (.str (wordAt one two rs i.toNat j.toNat))) (.io (recC CB p (bXs one two rs wk wy)) :: r)) ∨ (¬ InP one two i j ∧ ∀ r, E C (.tuple [.int i, .int j]) (.io (recC CB p (bXs one two rs wk wy)) :: r)))
theorem len_board_word (CB C : Addr) : ∀ args Q E, g_board_word CB C args Q E → args.length = ["self", "i", "j"].length := by
  rintro args Q E ⟨p, one, two, rs, wk, wy, i, j, rfl, _⟩
  rfl
def ds_bw1 (CB : Addr) : DS := dRet (dDGet2 (dPF CB 0 "_words") (dTup (dCons (dOp gIx (dPF CB 0 "_first") (dVar 1)) (dCons (dOp gIx (dPF CB 0 "_second") (dVar 2)) dNil))) (dC (.str "other")))
def ds_board_word (CB C_NoPlace : Addr) (dx : DX) : DS :=
  dSeq (dIf (dNot (dAnd (dTest (dChain fLe fLt (dC (.int 0)) (dVar 1) (dCa gLen (dCons (dPF CB 0 "_first") dNil)))) (dTest (dChain fLe fLt (dC (.int 0)) (dVar 2) (dCa gLen (dCons (dPF CB 0 "_second") dNil)))))) (dRaise C_NoPlace dx (dCons (dTup (dCons (dVar 1) (dCons (dVar 2) dNil))) dNil)) dNext)
  (ds_bw1 CB)
theorem do_board_word (CB C : Addr) (args : List Slot) (Q : Slot → List Slot → Prop) (Eg : Addr → D → List Slot → Prop) (h : g_board_word CB C args Q Eg) : ds_board_word CB C (bodyDX 3 Eg) (bodyEnds 3 Q) (bodyEnv 3 3 args) := by
  obtain ⟨p, one, two, rs, wk, wy, i, j, rfl, hb, h⟩ := h
  obtain ⟨ba1, ba2, bb1, bb2⟩ := hb
  have hsz : sizeLine = 16777216 := sizeLine_eq
  unfold ds_board_word dRaise
  simp_arith [17, bodyDX]
  have bad : ¬ InP one two i j → 2 ≤ sizeLine ∧ ∃ z, [PyData.tuple [PyData.int i, PyData.int j]] = [z] ∧ Eg C z [Slot.io (recC CB p (bXs one two rs wk wy)), Slot.no, Slot.no] := fun n => by
    rcases h with ⟨h1, h⟩ | ⟨h1, h⟩
    · exact absurd h1 n
    · exact ⟨by omega, _, rfl, h _⟩
  have good : InP one two i j → ds_bw1 CB (bodyEnds 3 Q) [Slot.io (recC CB p (bXs one two rs wk wy)), Slot.fz (PyData.int i), Slot.fz (PyData.int j)] := fun m => by
    rcases h with ⟨h1, h⟩ | ⟨h1, h⟩
    · obtain ⟨⟨i0, i1⟩, j0, j1⟩ := h1
      obtain ⟨x, rfl⟩ : ∃ x : Nat, i = x := ⟨i.toNat, by omega⟩
      obtain ⟨y, rfl⟩ : ∃ y : Nat, j = y := ⟨j.toNat, by omega⟩
      have hx : x < one.length := by omega
      have hy : y < two.length := by omega
      unfold ds_bw1
      simp_arith [17]
      refine plf0 l_words ?_
      simp_arith [17]
      refine ⟨⟨_, _, DLook.t (bookK rs) []⟩, plf0 l_first ?_⟩
      simp_arith [17, mkS_len, mkS_list, atI_getD hx]
      refine ⟨by omega, plf0 l_second ?_⟩
      simp_arith [17, mkS_len, mkS_list, atI_getD hy]
      refine ⟨by omega, by omega, _, DLook.t (bookK rs) (keyR (one.getD x 0) (two.getD y 0)), ?_⟩
      rw [book_word]
      exact h _
    · exact absurd m h1
  by_cases i0 : 0 ≤ i
  · rw [decide_eq_true i0]
    show PlF _ _ _ _ _
    refine plf0 l_first ?_
    simp_arith [17, mkS_len]
    refine ⟨by omega, ?_⟩
    by_cases i1 : i < one.length
    · rw [decide_eq_true i1]
      by_cases j0 : 0 ≤ j
      · rw [decide_eq_true j0]
        show PlF _ _ _ _ _
        refine plf0 l_second ?_
        simp_arith [17, mkS_len]
        refine ⟨by omega, ?_⟩
        by_cases j1 : j < two.length
        · rw [decide_eq_true j1]
          exact good ⟨⟨i0, i1⟩, j0, j1⟩
        · rw [decide_eq_false j1]
          exact bad fun z => j1 z.2.2
      · rw [decide_eq_false j0]
        exact bad fun z => j0 z.2.1
    · rw [decide_eq_false i1]
      exact bad fun z => i1 z.1.2
  · rw [decide_eq_false i0]
    exact bad fun z => i0 z.1.1

open PySem L2
theorem b_inst {CB p : Addr} {one two : List Nat} {rs : List Row} {wk wy : Cell} {m : Str} (h : lookX m (bXs one two rs wk wy) = none) : InstC CB m (recC CB p (bXs one two rs wk wy)) := rec_inst h
theorem w_inst {CW p : Addr} {o a : D} {fs : List D} {bg : List (List Key × D)} {si la : D} {m : Str} (h : lookX m (wXs o a fs bg si la) = none) : InstC CW m (recC CW p (wXs o a fs bg si la)) := rec_inst h
theorem bx_none {one two : List Nat} {rs : List Row} {wk wy : Cell} {m : Str} (h : (("_first" : Str) ≠ m ∧ ("_second" : Str) ≠ m ∧ ("_words" : Str) ≠ m ∧ ("_walks" : Str) ≠ m ∧ ("_ways" : Str) ≠ m) := by decide +kernel) : lookX m (bXs one two rs wk wy) = none := by
  obtain ⟨h1, h2, h3, h4, h5⟩ := h
  unfold bXs
  simp only [lookX, if_neg h1, if_neg h2, if_neg h3, if_neg h4, if_neg h5]
theorem wx_none {o a : D} {fs : List D} {bg : List (List Key × D)} {si la : D} {m : Str} (h : (("origin" : Str) ≠ m ∧ ("at" : Str) ≠ m ∧ ("firsts" : Str) ≠ m ∧ ("begun" : Str) ≠ m ∧ ("since" : Str) ≠ m ∧ ("lap" : Str) ≠ m) := by decide +kernel) : lookX m (wXs o a fs bg si la) = none := by
  obtain ⟨h1, h2, h3, h4, h5, h6⟩ := h
  unfold wXs
  simp only [lookX, if_neg h1, if_neg h2, if_neg h3, if_neg h4, if_neg h5, if_neg h6]
/-! standings looked through -/
def g_check_standing (CB C1 C2 : Addr) : GSp := fun args Q E => ∃ (p : Addr) (one two : List Nat) (rs : List Row) (wk wy : Cell) (i j : Int) (l : Str), args = [.io (recC CB p (bXs one two rs wk wy)), .fz (.tuple [.int i, .int j, .str l])] ∧ BdS one two ∧
  ((InP one two i j ∧ (l = wF ∨ l = wS) ∧ ∀ r, Q (.fz .none) (.io (recC CB p (bXs one two rs wk wy)) :: r)) ∨ (¬ InP one two i j ∧ ∀ r, E C1 (.tuple [.int i, .int j]) (.io (recC CB p (bXs one two rs wk wy)) :: r)) ∨ (InP one two i j ∧ ¬ (l = wF ∨ l = wS) ∧ ∀ r, E C2 (.str l) (.io (recC CB p (bXs one two rs wk wy)) :: r)))
theorem len_check_standing (CB C1 C2 : Addr) : ∀ args Q E, g_check_standing CB C1 C2 args Q E → args.length = ["board", "standing"].length := by
  rintro args Q E ⟨p, one, two, rs, wk, wy, i, j, l, rfl, _⟩
  rfl
def ds_check_standing (CB C_NoPlace C_NoLast : Addr) (dx : DX) : DS :=
  dSeq (dAsg (dVar 1) (dgTup 3 (dgCons (dgName 2) (dgCons (dgName 3) (dgCons (dgName 4) dgNil)))))
  (dSeq (dDrop (dMethP CB "word" (g_board_word CB C_NoPlace) 0 dx (dCons (dVar 2) (dCons (dVar 3) dNil))))
  (dIf (dTest (dOp (gIn (fun k => !k)) (dVar 4) (dTup (dCons (dC (.str "first")) (dCons (dC (.str "second")) dNil))))) (dRaise C_NoLast dx (dCons (dVar 4) dNil)) dNext))
theorem do_check_standing (CB C1 C2 : Addr) (args : List Slot) (Q : Slot → List Slot → Prop) (Eg : Addr → D → List Slot → Prop) (h : g_check_standing CB C1 C2 args Q Eg) : ds_check_standing CB C1 C2 (bodyDX 2 Eg) (bodyEnds 2 Q) (bodyEnv 2 5 args) := by
  obtain ⟨p, one, two, rs, wk, wy, i, j, l, rfl, hb, h⟩ := h
  have hsz : sizeLine = 16777216 := sizeLine_eq
  unfold ds_check_standing dRaise
  simp_arith [17, bodyDX, dMethP]
  refine ⟨⟨_, _, plc0, b_inst bx_none⟩, _, _, plc0, p, one, two, rs, wk, wy, i, j, rfl, hb, ?_⟩
  rcases h with ⟨h1, h2, h⟩ | ⟨h1, h⟩ | ⟨h1, h2, h⟩
  · refine .inl ⟨h1, fun r => ?_⟩
    simp_arith [17, any_late, decide_eq_true h2]
    exact ⟨by omega, rfl, rfl, h _⟩
  · exact .inr ⟨h1, fun r => ⟨(by decide : 2 ≤ 5), h _⟩⟩
  · refine .inl ⟨h1, fun r => ?_⟩
    simp_arith [17, any_late, decide_eq_false h2]
    exact ⟨by omega, rfl, rfl, _, rfl, h _⟩
/-! a new going, kept -/
def g_board_new_walk (CB CW : Addr) : GSp := fun args Q _ => ∃ (p : Addr) (one two : List Nat) (rs : List Row) (ws : List (List Key × Addr × Cell)) (wy : Cell) (s : Stand), args = [.io (boardC CB p one two rs ws wy), .fz (standD s)] ∧ BdS one two ∧ WsI CW one two rs ws ∧ InS one two s ∧ valX ws (standK s) = none ∧
  ∀ q ws' r, WsI CW one two rs ws' → valX ws' (standK s) = some (q, walkC CW q one two rs s 0 s [] 0 0) → Q (.fz (adrD q)) (.io (boardC CB p one two rs ws' wy) :: r)
theorem len_board_new_walk (CB CW : Addr) : ∀ args Q E, g_board_new_walk CB CW args Q E → args.length = ["self", "standing"].length := by
  rintro args Q E ⟨p, one, two, rs, ws, wy, s, rfl, _⟩
  rfl
def ds_nw1 (CB CW : Addr) (dx : DX) : DS :=
  dSeq (dAsg (dVar 1) (dgTup 3 (dgCons (dgName 5) (dgCons (dgName 6) (dgCons (dgName 7) dgNil)))))
  (dSeq (dAsg (dTup (dCons (dVar 5) (dCons (dVar 6) (dCons (dVar 7) dNil)))) (dgName 3))
  (dSeq (dSetN 4 (dMakeR CW (g_walk_init CW) dx (dCons (dVar 3) dNil)))
  (dSeq (dPGive CB 0 "_walks" 3 4)
  (dRet (dVar 4)))))
def ds_board_new_walk (CB CW : Addr) (dx : DX) : DS :=
  dSeq (dAsg (dOp gMulA (dOp gMulA (dC (.int 2)) (dCa gLen (dCons (dPF CB 0 "_first") dNil))) (dCa gLen (dCons (dPF CB 0 "_second") dNil))) (dgName 2))
  (dSeq (dIf (dTest (dOp fGt (dOp gMulA (dOp gAdd (dPDcLen CB 0 "_walks") (dC (.int 1))) (dVar 2)) (dC (.int 100000)))) (dPSetN CB 0 "_walks" dDcN) dNext)
  (ds_nw1 CB CW dx))
theorem WalkI.new {one two : List Nat} {rs : List Row} {s : Stand} (h : InS one two s) : WalkI one two rs s 0 s [] 0 0 := ⟨h, Nat.le_refl _, fun _ => ⟨rfl, rfl, List.nodup_nil, fun e he => absurd he List.not_mem_nil, by show s.1 + 0 = one.length * 0 + s.1; omega, by show s.2.1 + (0 - 0) = two.length * 0 + s.2.1; omega⟩, fun h => absurd h (Nat.lt_irrefl _)⟩
theorem do_board_new_walk (CB CW : Addr) (args : List Slot) (Q : Slot → List Slot → Prop) (Eg : Addr → D → List Slot → Prop) (h : g_board_new_walk CB CW args Q Eg) : ds_board_new_walk CB CW (bodyDX 2 Eg) (bodyEnds 2 Q) (bodyEnv 2 8 args) := by
  obtain ⟨p, one, two, rs, ws, wy, s, rfl, ⟨ba1, ba2, bb1, bb2⟩, I, hs, hv, h⟩ := h
  have hsz : sizeLine = 16777216 := sizeLine_eq
  have key : ∀ (ws' : List (List Key × Addr × Cell)) (s2 : Slot), s2.isIo = false → WsI CW one two rs ws' → ws'.length < 50000 → valX ws' (standK s) = none → ds_nw1 CB CW (bodyDX 2 Eg) (bodyEnds 2 Q) [.io (recC CB p (bXs one two rs (dcC ws') wy)), .fz (standD s), s2, .no, .no, .no, .no, .no] := by
    intro ws' s2 h2 I' hl hv'
    unfold ds_nw1 standD dMakeR
    simp_arith [17, h2]
    refine ⟨by omega, fun q => ⟨q, _, rfl, fun r => ?_⟩⟩
    unfold dPGive
    simp_arith [17]
    refine ⟨_, _, _, _, standK s, q, fun F H v fp ⟨dx, fs, fq, e, _⟩ => e, plc0, l_walks, rfl, by decide, hv', by omega, ?_⟩
    rw [p_walks]
    simp_arith [17]
    have w1 : WsI CW one two rs (ws' ++ [(standK s, q, walkC CW q one two rs s 0 s [] 0 0)]) := ⟨fun e he => by
      rcases List.mem_append.mp he with z | z
      · exact I'.el e z
      · rw [List.mem_singleton.mp z]
        exact ⟨s, q, 0, s, [], 0, 0, rfl, WalkI.new hs, by decide⟩, by rw [List.length_append]; show ws'.length + 1 ≤ 50000; omega⟩
    have w2 : valX (ws' ++ [(standK s, q, walkC CW q one two rs s 0 s [] 0 0)]) (standK s) = some (q, walkC CW q one two rs s 0 s [] 0 0) := by
      rw [valX_snoc _ _ _ _ hv', if_pos rfl]
    exact h q _ [.no] w1 w2
  unfold ds_board_new_walk boardC
  simp_arith [17]
  refine plf0 l_first ?_
  simp_arith [17, mkS_len]
  refine ⟨by omega, .inl (.inl ⟨by omega, by omega⟩), plf0 l_second ?_⟩
  simp_arith [17, mkS_len]
  refine ⟨by omega, .inl (.inl ⟨by omega, by omega⟩), plf0 l_walks ?_⟩
  simp_arith [17]
  have e2 : (2 : Int) * one.length * two.length = ((2 * one.length * two.length : Nat) : Int) := by rw [Int.natCast_mul, Int.natCast_mul]; rfl
  have bN : 2 ≤ 2 * one.length * two.length ∧ 2 * one.length * two.length ≤ 2 * 2000 * 2000 := by
    refine ⟨?_, Nat.mul_le_mul (by omega) bb2⟩
    have := Nat.mul_le_mul (show 2 ≤ 2 * one.length by omega) bb1
    omega
  rw [e2]
  refine ⟨ws, rfl, .inl (.inr ⟨by omega, by omega⟩), ?_⟩
  have e3 : ((ws.length : Int) + 1) * ((2 * one.length * two.length : Nat) : Int) = (((ws.length + 1) * (2 * one.length * two.length) : Nat) : Int) := by rw [Int.natCast_mul]; rfl
  rw [e3]
  by_cases z : (100000 : Int) < (((ws.length + 1) * (2 * one.length * two.length) : Nat) : Int)
  · rw [decide_eq_true z]
    refine pls0 b_few ?_
    rw [p_walks]
    exact key [] _ rfl WsI.nil (by decide) rfl
  · rw [decide_eq_false z]
    have := Nat.mul_le_mul_left (ws.length + 1) bN.1
    exact key ws _ rfl I (by omega) hv

open PySem L2
/-! ### a going gone on with -/
section
variable {one two : List Nat} {rs : List Row} {s : Stand} {n : Nat} {a : Stand} {bg : List (Stand × Nat)}
theorem count_le {B : Nat} (f : Stand → Bool) (g : Stand → Nat) (nd : (bg.map (·.1)).Nodup) (inj : ∀ e ∈ bg, ∀ e' ∈ bg, f e.1 = true → f e'.1 = true → g e.1 = g e'.1 → e.1 = e'.1) (lt : ∀ e ∈ bg, f e.1 = true → g e.1 < B) : (bg.countP fun e => f e.1) ≤ B := by
  have h1 : (bg.countP fun e => f e.1) = ((bg.filter fun e => f e.1).map fun e => g e.1).length := by rw [List.length_map, List.countP_eq_length_filter]
  rw [h1]
  refine nodup_lt B _ ?_ fun x hx => ?_
  · rw [List.nodup_iff_pairwise_ne, List.pairwise_map] at nd ⊢
    have nd2 := (nd.filter fun e => f e.1)
    refine List.Pairwise.imp_of_mem (fun {x y} hx hy hne e => hne ?_) nd2
    obtain ⟨hx1, hx2⟩ := List.mem_filter.mp hx
    obtain ⟨hy1, hy2⟩ := List.mem_filter.mp hy
    exact inj x hx1 y hy1 hx2 hy2 e
  · obtain ⟨e, he, rfl⟩ := List.mem_map.mp hx
    obtain ⟨h2, h3⟩ := List.mem_filter.mp he
    exact lt e h2 h3
/-- behind as many ticks as that it has come again -/
theorem WalkI.most (hb : BdS one two) (I : WalkI one two rs s n a bg 0 0) : n < mostN one two := by
  obtain ⟨_, ha, nd, he, c1, c2⟩ := I.run rfl
  have hin : ∀ e ∈ bg, InS one two e.1 := fun e m => by
    rw [← (he e m).2.2.1]; exact goN_in I.ins _
  have k1 : (bg.countP fun e => e.1.2.2) ≤ two.length := count_le (fun z => z.2.2) (fun z => z.2.1) nd (fun e m e' m' h h' g => Prod.ext (by rw [(he e m).2.2.2.1 h, (he e' m').2.2.2.1 h']) (Prod.ext g (h.trans h'.symm))) fun e m _ => (hin e m).2
  have k2 : (bg.countP fun e => !e.1.2.2) ≤ one.length := count_le (fun z => !z.2.2) (fun z => z.1) nd (fun e m e' m' h h' g => by
    have f1 : e.1.2.2 = false := by simpa using h
    have f2 : e'.1.2.2 = false := by simpa using h'
    exact Prod.ext g (Prod.ext (by rw [(he e m).2.2.2.2 f1, (he e' m').2.2.2.2 f2]) (f1.trans f2.symm))) fun e m _ => (hin e m).1
  have ia : InS one two a := by rw [ha]; exact goN_in I.ins _
  have i1 : a.1 < one.length := ia.1
  have i2 : a.2.1 < two.length := ia.2
  have m1 := Nat.mul_le_mul_left one.length k1
  have m2 := Nat.mul_le_mul_left two.length k2
  have m3 : two.length * one.length = one.length * two.length := Nat.mul_comm _ _
  have m4 : 2 * one.length * two.length = 2 * (one.length * two.length) := Nat.mul_assoc _ _ _
  have fl := fN_le (one := one) (two := two) (rs := rs) (s := s) n
  unfold mostN
  omega
theorem most_lt (hb : BdS one two) : mostN one two < 2 ^ 24 := by
  obtain ⟨a1, a2, b1, b2⟩ := hb
  have := Nat.mul_le_mul a2 b2
  have e : 2 * one.length * two.length = 2 * (one.length * two.length) := Nat.mul_assoc _ _ _
  unfold mostN
  omega
/-- a tick, off a round's end -/
theorem WalkI.step (I : WalkI one two rs s n a bg 0 0) (h : (goN one two rs s (n + 1)).1 = a.1 + (if (goN one two rs s (n + 1)).2.2 = true then 1 else 0)) (h2 : (goN one two rs s (n + 1)).2.1 = a.2.1 + (if (goN one two rs s (n + 1)).2.2 = true then 0 else 1)) : WalkI one two rs s (n + 1) (goN one two rs s (n + 1)) bg 0 0 := by
  obtain ⟨_, ha, nd, he, c1, c2⟩ := I.run rfl
  have fl := fN_le (one := one) (two := two) (rs := rs) (s := s) n
  have ef : fN one two rs s (n + 1) = fN one two rs s n + if (goN one two rs s (n + 1)).2.2 = true then 1 else 0 := rfl
  refine ⟨I.ins, Nat.le_succ_of_le I.few, fun _ => ⟨rfl, rfl, nd, fun e m => ?_, ?_, ?_⟩, fun h => absurd h (Nat.lt_irrefl _)⟩
  · obtain ⟨e1, e2, e3⟩ := he e m
    exact ⟨e1, Nat.le_succ_of_le e2, e3⟩
  · rw [ef, h]; omega
  · rw [ef, h2]
    cases (goN one two rs s (n + 1)).2.2
    · show s.2.1 + (n + 1 - (fN one two rs s n + 0)) = _ + (a.2.1 + 1); omega
    · show s.2.1 + (n + 1 - (fN one two rs s n + 1)) = _ + (a.2.1 + 0); omega
/-- a tick to a round's end -/
theorem WalkI.edge (I : WalkI one two rs s n a bg 0 0) (hn : valX bg (goN one two rs s (n + 1)) = none) (h : ((goN one two rs s (n + 1)).2.2 = true ∧ (goN one two rs s (n + 1)).1 = 0 ∧ a.1 + 1 = one.length ∧ (goN one two rs s (n + 1)).2.1 = a.2.1) ∨ ((goN one two rs s (n + 1)).2.2 = false ∧ (goN one two rs s (n + 1)).2.1 = 0 ∧ a.2.1 + 1 = two.length ∧ (goN one two rs s (n + 1)).1 = a.1)) :
    WalkI one two rs s (n + 1) (goN one two rs s (n + 1)) (bg ++ [(goN one two rs s (n + 1), n + 1)]) 0 0 := by
  obtain ⟨_, ha, nd, he, c1, c2⟩ := I.run rfl
  have fl := fN_le (one := one) (two := two) (rs := rs) (s := s) n
  have ef : fN one two rs s (n + 1) = fN one two rs s n + if (goN one two rs s (n + 1)).2.2 = true then 1 else 0 := rfl
  refine ⟨I.ins, by rw [List.length_append]; show bg.length + 1 ≤ n + 1; have := I.few; omega, fun _ => ⟨rfl, rfl, ?_, fun e m => ?_, ?_, ?_⟩, fun h => absurd h (Nat.lt_irrefl _)⟩
  · rw [List.map_append, List.nodup_append]
    refine ⟨nd, by simp, fun x hx y hy => ?_⟩
    rw [List.map_cons, List.map_nil, List.mem_singleton] at hy
    rw [hy]
    intro e
    rw [e] at hx
    exact valX_none.mp hn hx
  · rcases List.mem_append.mp m with m | m
    · obtain ⟨e1, e2, e3⟩ := he e m
      exact ⟨e1, Nat.le_succ_of_le e2, e3⟩
    · rw [List.mem_singleton.mp m]
      refine ⟨by show 1 ≤ n + 1; omega, Nat.le_refl _, rfl, fun w => ?_, fun w => ?_⟩
      · rcases h with ⟨h1, h2, _⟩ | ⟨h1, _⟩
        · exact h2
        · rw [h1] at w; cases w
      · rcases h with ⟨h1, _⟩ | ⟨h1, h2, _⟩
        · rw [h1] at w; cases w
        · exact h2
  · rw [ef, List.countP_append, List.countP_singleton]
    rcases h with ⟨h1, h2, h3, h4⟩ | ⟨h1, h2, h3, h4⟩
    · rw [h2]; simp only [h1, if_true]; rw [Nat.mul_add]; omega
    · rw [h4]; simp only [h1]; simp; omega
  · rw [ef, List.countP_append, List.countP_singleton]
    rcases h with ⟨h1, h2, h3, h4⟩ | ⟨h1, h2, h3, h4⟩
    · rw [h4]; simp only [h1]; simp; omega
    · rw [h2]; simp only [h1]; simp; rw [Nat.mul_add]; omega
/-- it has come again -/
theorem WalkI.back (I : WalkI one two rs s n a bg 0 0) {k : Nat} {a' : Stand} (hv : valX bg (goN one two rs s (n + 1)) = some k) : WalkI one two rs s (n + 1) a' bg k (n + 1 - k) ∧ k ≤ n := by
  obtain ⟨_, ha, nd, he, c1, c2⟩ := I.run rfl
  obtain ⟨e1, e2, e3, _⟩ := he _ (valX_mem hv)
  dsimp only at e1 e2 e3
  refine ⟨⟨I.ins, Nat.le_succ_of_le I.few, fun z => by omega, fun _ => ⟨e1, by omega, ?_⟩⟩, e2⟩
  rw [show k + (n + 1 - k) = n + 1 by omega, e3]
end

open PySem L2
/-! ### the going that a name tells by its address, within the board -/
section
variable {CB CW p q : Addr} {one two : List Nat} {rs : List Row} {ws : List (List Key × Addr × Cell)} {wy c : Cell} {k : List Key} {r : Rho} {y : Nat} {xs : List (Str × FV)} {f : Str} {x : FV}
def bdC (CB p : Addr) (one two : List Nat) (rs : List Row) (ws : List (List Key × Addr × Cell)) (wy : Cell) : Slot := .io (boardC CB p one two rs ws wy)
theorem plcq (hr : r[y]? = some (.fz (adrD q))) (h : valX ws k = some (q, c)) : Plc (bdC CB p one two rs ws wy :: r) (y + 1) c fun c' => bdC CB p one two rs (dcSet k c' ws) wy :: r := by
  have := Plc.part (ρ := bdC CB p one two rs ws wy :: r) (y := y + 1) (i := 0) (s := bdC CB p one two rs ws wy) (c := boardC CB p one two rs ws wy) hr rfl rfl (rec_foc (l_walks (wk := dcC ws)) (dc_foc h))
  have e : (fun c' : Cell => (bdC CB p one two rs ws wy :: r).set 0 ((bdC CB p one two rs ws wy).put (recC CB p (putFX "_walks" (.c (dcC (dcSet k c' ws))) (bXs one two rs (dcC ws) wy))))) = fun c' => bdC CB p one two rs (dcSet k c' ws) wy :: r := by
    funext c'
    rw [p_walks]
    rfl
  rw [e] at this
  exact this
theorem plfq {K : FV → (FV → Rho) → Prop} (hr : r[y]? = some (.fz (adrD q))) (hv : valX ws k = some (q, recC CW q xs)) (h : lookX f xs = some x) (kk : K x fun x' => bdC CB p one two rs (dcSet k (recC CW q (putFX f x' xs)) ws) wy :: r) : PlF (bdC CB p one two rs ws wy :: r) CW (y + 1) f K := ⟨_, _, _, plcq hr hv, x, h, kk⟩
theorem plsq {K : Rho → Prop} (hr : r[y]? = some (.fz (adrD q))) (hv : valX ws k = some (q, recC CW q xs)) (h : xs.length < 1000) (kk : K (bdC CB p one two rs (dcSet k (recC CW q (putFX f x xs)) ws) wy :: r)) : PlS (bdC CB p one two rs ws wy :: r) CW (y + 1) f x K := ⟨_, _, _, plcq hr hv, h, kk⟩
theorem plfb {K : FV → (FV → Rho) → Prop} (h : lookX f (bXs one two rs (dcC ws) wy) = some x) (kk : K x fun x' => .io (recC CB p (putFX f x' (bXs one two rs (dcC ws) wy))) :: r) : PlF (bdC CB p one two rs ws wy :: r) CB 0 f K := plf0 h kk
end
theorem dcSet_self {k : List Key} {q : Addr} {c : Cell} : ∀ {ws : List (List Key × Addr × Cell)}, valX ws k = some (q, c) → dcSet k c ws = ws
  | [], h => by cases h
  | (k0, q1, c1) :: r, h => by
    show (if k0 = k then (k0, q1, c) :: r else (k0, q1, c1) :: dcSet k c r) = _
    by_cases z : k0 = k
    · rw [valX_pos z] at h
      cases h
      rw [if_pos z]
    · rw [valX_neg z] at h
      rw [if_neg z, dcSet_self h]
theorem isIo_bd {CB p : Addr} {one two : List Nat} {rs : List Row} {ws : List (List Key × Addr × Cell)} {wy : Cell} : (bdC CB p one two rs ws wy).isIo = true := rfl
def g_board_walk_on (CB CW : Addr) : GSp := fun args Q _ => ∃ (p q : Addr) (one two : List Nat) (rs : List Row) (ws : List (List Key × Addr × Cell)) (wy : Cell) (s : Stand) (n : Nat) (a : Stand) (bg : List (Stand × Nat)) (t : Nat), args = [bdC CB p one two rs ws wy, .fz (adrD q), .fz (.int t)] ∧ BdS one two ∧ WsI CW one two rs ws ∧ valX ws (standK s) = some (q, walkC CW q one two rs s n a bg 0 0) ∧ WalkI one two rs s n a bg 0 0 ∧ n < t ∧
  ∀ ws' n' a' bg' si' la' r, WsI CW one two rs ws' → valX ws' (standK s) = some (q, walkC CW q one two rs s n' a' bg' si' la') → WalkI one two rs s n' a' bg' si' la' → n' < 2 ^ 24 → (t ≤ n' ∨ 0 < la') → Q (.fz .none) (bdC CB p one two rs ws' wy :: r)
theorem len_board_walk_on (CB CW : Addr) : ∀ args Q E, g_board_walk_on CB CW args Q E → args.length = ["self", "walk", "ticks"].length := by
  rintro args Q E ⟨p, q, one, two, rs, ws, wy, s, n, a, bg, t, rfl, _⟩
  rfl
/-- a round's end looked at -/
def ds_wo_end (CW : Addr) (dx : DX) : DS :=
  dSeq (dPar 12 13 (dCons (dOp (gInt2 (fun _ j => 0 < j) fun i j => .int (i % j)) (dVar 12) (dVar 10)) (dCons (dOp (gInt2 (fun _ j => 0 < j) fun i j => .int (i % j)) (dVar 13) (dVar 11)) dNil)))
  (dIf (dTest (dMethP CW "begins" (g_walk_begins CW) 1 dx (dCons (dTup (dCons (dVar 12) (dCons (dVar 13) (dCons (dVar 14) dNil)))) (dCons (dVar 6) dNil)))) dRetN dNext)
def ds_wo_edge (CW : Addr) (dx : DX) : DS :=
  dIf (dOr (dTest (dOp gEq (dVar 12) (dVar 10))) (dTest (dOp gEq (dVar 13) (dVar 11)))) (ds_wo_end CW dx) dNext
def ds_wo_app (CW : Addr) (dx : DX) : DS := dSeq (dDrop (dPApp CW 1 "firsts" (piV 3))) (ds_wo_edge CW dx)
def ds_wo_tick (CW : Addr) (dx : DX) : DS :=
  dSeq (dAsg (dDGet2 (dVar 9) (dTup (dCons (dOp gIx (dVar 7) (dVar 12)) (dCons (dOp gIx (dVar 8) (dVar 13)) dNil))) (dC (.str "other"))) (dgName 15))
  (dSeq (dIf (dOr (dTest (dOp gEq (dVar 15) (dC (.str "first")))) (dAnd (dTest (dOp gEq (dVar 15) (dC (.str "other")))) (dTest (dOp gEq (dVar 14) (dC (.str "second")))))) (dSeq (dAug 12 (fun i j => i + j) (dC (.int 1)))
  (dSeq (dAug 3 (fun i j => i + j) (dC (.int 1)))
  (dAsg (dC (.str "first")) (dgName 14)))) (dSeq (dAug 13 (fun i j => i + j) (dC (.int 1)))
  (dAsg (dC (.str "second")) (dgName 14))))
  (ds_wo_app CW dx))
def ds_wo5 (CW : Addr) : DS := dPSetX CW 1 "at" (dTup (dCons (dVar 12) (dCons (dVar 13) (dCons (dVar 14) dNil))))
def ds_wo4 (CW : Addr) (dx : DX) : DS :=
  dSeq (dAsg (dOp gAdd (dOp gAdd (dOp gMulA (dOp gMulA (dC (.int 2)) (dVar 10)) (dVar 11)) (dVar 10)) (dVar 11)) (dgName 5))
  (dSeq (dFor (diR2 (dCons (dVar 4) (dCons (dOp gAdd (dCa gMin2 (dCons (dVar 2) (dCons (dVar 5) dNil))) (dC (.int 1))) dNil))) (dgName 6) (ds_wo_tick CW dx))
  (ds_wo5 CW))
def ds_wo3 (CW : Addr) (dx : DX) : DS := dSeq (dAsg (dPLen CW 1 "firsts") (dgName 4)) (ds_wo4 CW dx)
def ds_wo2 (CW : Addr) (dx : DX) : DS := dSeq (dAsg (dPIx CW 1 "firsts" (piC (-1))) (dgName 3)) (ds_wo3 CW dx)
def ds_wo1 (CW : Addr) (dx : DX) : DS :=
  dSeq (dPar 10 11 (dCons (dCa gLen (dCons (dVar 7) dNil)) (dCons (dCa gLen (dCons (dVar 8) dNil)) dNil)))
  (dSeq (dAsg (dPF CW 1 "at") (dgTup 3 (dgCons (dgName 12) (dgCons (dgName 13) (dgCons (dgName 14) dgNil)))))
  (ds_wo2 CW dx))
def ds_board_walk_on (CB CW : Addr) (dx : DX) : DS :=
  dSeq (dPar3 7 8 9 (dCons (dPF CB 0 "_first") (dCons (dPF CB 0 "_second") (dCons (dPF CB 0 "_words") dNil))))
  (ds_wo1 CW dx)
theorem do_board_walk_on (CB CW : Addr) (args : List Slot) (Q : Slot → List Slot → Prop) (Eg : Addr → D → List Slot → Prop) (h : g_board_walk_on CB CW args Q Eg) : ds_board_walk_on CB CW (bodyDX 3 Eg) (bodyEnds 3 Q) (bodyEnv 3 16 args) := by
  obtain ⟨p, q, one, two, rs, ws, wy, s, n, a, bg, t, rfl, hb, Iw, hv, I, ht, h⟩ := h
  have hsz : sizeLine = 16777216 := sizeLine_eq
  have hmost := most_lt hb
  have hI := I.most hb
  obtain ⟨ba1, ba2, bb1, bb2⟩ := hb
  unfold ds_board_walk_on
  simp_arith [17]
  refine plfb l_first ?_
  simp_arith [17]
  refine plfb l_second ?_
  simp_arith [17]
  refine plfb l_words ?_
  simp_arith [17]
  unfold ds_wo1
  simp_arith [17, mkS_len]
  refine ⟨by omega, by omega, plfq rfl hv l_at ?_⟩
  simp_arith [17, standD]
  unfold ds_wo2
  simp_arith [17]
  refine plfq rfl hv l_firsts ?_
  simp_arith [17]
  refine ⟨-1, rfl, _, fsL_last, ?_⟩
  unfold ds_wo3
  simp_arith [17]
  refine plfq rfl hv l_firsts ?_
  simp_arith [17, fsL_len]
  unfold ds_wo4
  simp_arith [17]
  have eM : (2 : Int) * one.length * two.length + one.length + two.length = ((mostN one two : Nat) : Int) := by
    unfold mostN
    rw [Int.natCast_add, Int.natCast_add, Int.natCast_mul, Int.natCast_mul]
    rfl
  rw [eM]
  obtain ⟨M, hM, hM1, hM2⟩ : ∃ M : Nat, (if ((mostN one two : Nat) : Int) < (t : Int) then ((mostN one two : Nat) : Int) else (t : Int)) = (M : Int) ∧ n < M ∧ (M = t ∨ M = mostN one two) ∧ M ≤ mostN one two := by
    by_cases z : mostN one two < t
    · exact ⟨mostN one two, if_pos (by omega), hI, .inr rfl, Nat.le_refl _⟩
    · exact ⟨t, if_neg (by omega), ht, .inl rfl, by omega⟩
  rw [hM, show ((M : Int) + 1 - ((n + 1 : Nat) : Int)).toNat = M - n by omega]
  refine ⟨.inl (.inr ⟨by omega, by omega⟩), .inl (.inr ⟨by omega, by omega⟩), by omega, by omega, by omega, by omega, ?_⟩
  refine dLoop_ind (fun k ρ => ∃ (ws1 : List (List Key × Addr × Cell)) (bg1 : List (Stand × Nat)) (s6 s15 : Slot), s6.isIo = false ∧ s15.isIo = false ∧ valX ws1 (standK s) = some (q, walkC CW q one two rs s (n + k) a bg1 0 0) ∧ (∀ c, dcSet (standK s) c ws1 = dcSet (standK s) c ws) ∧ WalkI one two rs s (n + k) (goN one two rs s (n + k)) bg1 0 0 ∧
    ρ = [bdC CB p one two rs ws1 wy, .fz (adrD q), .fz (.int t), .fz (.int (fN one two rs s (n + k))), .fz (.int ((n + 1 : Nat) : Int)), .fz (.int (mostN one two)), s6, .fz (.str (mkS one)), .fz (.str (mkS two)), .fz (bookD rs), .fz (.int one.length), .fz (.int two.length), .fz (.int (goN one two rs s (n + k)).1), .fz (.int (goN one two rs s (n + k)).2.1), .fz (.str (lateS (goN one two rs s (n + k)).2.2)), s15]) ?_ ?_ ?_
  · obtain ⟨_, ha, _⟩ := I.run rfl
    have I2 := I
    rw [ha] at I2
    refine ⟨ws, bg, .no, .no, rfl, rfl, hv, fun c => rfl, I2, ?_⟩
    rw [ha]
    rfl
  · rintro ρ ⟨ws1, bg1, s6, s15, h6, h15, g1, g2, g3, rfl⟩
    rw [dInts_len] at g1 g3 ⊢
    unfold ds_wo5
    simp_arith [17]
    have eN : n + (M - n) = M := by omega
    rw [eN] at g1 g3 ⊢
    refine ⟨by omega, ?_⟩
    refine plsq rfl g1 w_few ?_
    rw [p_at, g2]
    have hlt := g3.most ⟨ba1, ba2, bb1, bb2⟩
    have w := h (dcSet (standK s) (walkC CW q one two rs s M (goN one two rs s M) bg1 0 0) ws) M (goN one two rs s M) bg1 0 0 [.no, .no] (Iw.set hv g3 (by omega)) (dcSet_val hv) g3 (by omega) (.inl (by omega))
    exact ⟨(by decide : 3 ≤ 16), w⟩
  · rintro k x ρ N hk ⟨ws1, bg1, s6, s15, h6, h15, g1, g2, g3, rfl⟩ hN
    have hk2 := lt_of_get hk
    rw [dInts_len] at hk2
    rw [dInts_get, if_pos hk2] at hk
    cases hk
    have app : ∀ (x' y' : Nat) (s15' : Slot), s15'.isIo = false → ((goN one two rs s (n + k + 1)).2.2 = true ∧ x' = (goN one two rs s (n + k)).1 + 1 ∧ y' = (goN one two rs s (n + k)).2.1 ∨ (goN one two rs s (n + k + 1)).2.2 = false ∧ x' = (goN one two rs s (n + k)).1 ∧ y' = (goN one two rs s (n + k)).2.1 + 1) → (goN one two rs s (n + k + 1)).1 = x' % one.length → (goN one two rs s (n + k + 1)).2.1 = y' % two.length →
        ds_wo_app CW (bodyDX 3 Eg) { nx := N, ct := N, bk := ds_wo5 CW (bodyEnds 3 Q), rt := (bodyEnds 3 Q).rt } [bdC CB p one two rs ws1 wy, .fz (adrD q), .fz (.int t), .fz (.int (fN one two rs s (n + k + 1))), .fz (.int ((n + 1 : Nat) : Int)), .fz (.int (mostN one two)), .fz (.int ((n + 1 : Nat) + k : Int)), .fz (.str (mkS one)), .fz (.str (mkS two)), .fz (bookD rs), .fz (.int one.length), .fz (.int two.length), .fz (.int x'), .fz (.int y'), .fz (.str (lateS (goN one two rs s (n + k + 1)).2.2)), s15'] := by
      intro x' y' s15' h15' hc ex ey
      unfold ds_wo_app
      simp_arith [17]
      refine plfq rfl g1 l_firsts ?_
      simp_arith [17, fsL_len]
      refine ⟨_, rfl, by omega, ?_⟩
      rw [p_firsts, fsL_snoc]
      have hv2 := dcSet_val (c := recC CW q (wXs (standD s) (standD a) (fsL one two rs s (n + k + 1)) (bgK bg1) (.int (0 : Nat)) (.int (0 : Nat)))) g1
      have gg : ∀ c, dcSet (standK s) c (dcSet (standK s) (recC CW q (wXs (standD s) (standD a) (fsL one two rs s (n + k + 1)) (bgK bg1) (.int (0 : Nat)) (.int (0 : Nat)))) ws1) = dcSet (standK s) c ws := fun c => by rw [dcSet_set, g2]
      generalize dcSet (standK s) (recC CW q (wXs (standD s) (standD a) (fsL one two rs s (n + k + 1)) (bgK bg1) (.int (0 : Nat)) (.int (0 : Nat)))) ws1 = ws2 at hv2 gg ⊢
      have ib := goN_in (rs := rs) g3.ins (n + k)
      have ib1 : (goN one two rs s (n + k)).1 < one.length := ib.1
      have ib2 : (goN one two rs s (n + k)).2.1 < two.length := ib.2
      unfold ds_wo_edge
      by_cases ed : x' = one.length ∨ y' = two.length
      · have ends : ds_wo_end CW (bodyDX 3 Eg) { nx := N, ct := N, bk := ds_wo5 CW (bodyEnds 3 Q), rt := (bodyEnds 3 Q).rt } [bdC CB p one two rs ws2 wy, .fz (adrD q), .fz (.int t), .fz (.int (fN one two rs s (n + k + 1))), .fz (.int ((n + 1 : Nat) : Int)), .fz (.int (mostN one two)), .fz (.int ((n + 1 : Nat) + k : Int)), .fz (.str (mkS one)), .fz (.str (mkS two)), .fz (bookD rs), .fz (.int one.length), .fz (.int two.length), .fz (.int x'), .fz (.int y'), .fz (.str (lateS (goN one two rs s (n + k + 1)).2.2)), s15'] := by
          have ex' : ((x' : Nat) : Int) % (one.length : Int) = ((goN one two rs s (n + k + 1)).1 : Int) := by rw [ex, Int.natCast_emod]
          have ey' : ((y' : Nat) : Int) % (two.length : Int) = ((goN one two rs s (n + k + 1)).2.1 : Int) := by rw [ey, Int.natCast_emod]
          have hfew := g3.few
          unfold ds_wo_end dMethP
          simp_arith [17, ex', ey']
          refine ⟨by omega, by omega, ⟨_, _, plcq rfl hv2, w_inst wx_none⟩, by omega, _, _, plcq rfl hv2, ?_⟩
          refine ⟨q, standD s, standD a, fsL one two rs s (n + k + 1), bg1, goN one two rs s (n + k + 1), n + k + 1, .int (0 : Nat), .int (0 : Nat), ?_, by omega, ?_⟩
          · rw [show ((n + 1 : Nat) + k : Int) = ((n + k + 1 : Nat) : Int) by omega]; rfl
          cases hg : valX bg1 (goN one two rs s (n + k + 1)) with
          | none =>
            refine .inl ⟨rfl, fun r => ?_⟩
            simp_arith [17]
            refine hN _ ⟨_, bg1 ++ [(goN one two rs s (n + k + 1), n + k + 1)], .fz (.int ((n + 1 : Nat) + k : Int)), s15', rfl, h15', dcSet_val hv2, fun c => by rw [dcSet_set, gg], ?_, rfl⟩
            refine g3.edge hg ?_
            rcases hc with ⟨h1, h2, h3⟩ | ⟨h1, h2, h3⟩
            · have h4 : x' = one.length := by omega
              refine .inl ⟨h1, by rw [ex, h4, Nat.mod_self], by omega, by rw [ey, h3]; exact Nat.mod_eq_of_lt ib2⟩
            · have h4 : y' = two.length := by omega
              refine .inr ⟨h1, by rw [ey, h4, Nat.mod_self], by omega, by rw [ex, h2]; exact Nat.mod_eq_of_lt ib1⟩
          | some k0 =>
            refine .inr ⟨k0, rfl, fun r => ?_⟩
            simp_arith [17]
            obtain ⟨J, hk0⟩ := g3.back (a' := a) hg
            rw [show ((n + k + 1 : Nat) : Int) - (k0 : Int) = ((n + k + 1 - k0 : Nat) : Int) by omega, gg]
            exact h _ (n + k + 1) a bg1 k0 (n + k + 1 - k0) [.no, .no] (Iw.set hv J (by omega)) (dcSet_val hv) J (by omega) (.inr (by omega))
        by_cases ed1 : x' = one.length
        · have f1 : decide ((x' : Int) = (one.length : Int)) = true := decide_eq_true (by omega)
          simp_arith [17, f1]
          exact ends
        · have f1 : decide ((x' : Int) = (one.length : Int)) = false := decide_eq_false (by omega)
          have f2 : decide ((y' : Int) = (two.length : Int)) = true := decide_eq_true (by omega)
          simp_arith [17, f1, f2]
          exact ends
      · have n1 : ¬ x' = one.length := fun z => ed (.inl z)
        have n2 : ¬ y' = two.length := fun z => ed (.inr z)
        have f1 : decide ((x' : Int) = (one.length : Int)) = false := decide_eq_false (by omega)
        have f2 : decide ((y' : Int) = (two.length : Int)) = false := decide_eq_false (by omega)
        simp_arith [17, f1, f2]
        have m1 : (goN one two rs s (n + k + 1)).1 = x' := by rw [ex]; exact Nat.mod_eq_of_lt (by omega)
        have m2 : (goN one two rs s (n + k + 1)).2.1 = y' := by rw [ey]; exact Nat.mod_eq_of_lt (by omega)
        refine hN _ ⟨ws2, bg1, .fz (.int ((n + 1 : Nat) + k : Int)), s15', rfl, h15', hv2, gg, ?_, ?_⟩
        · refine g3.step ?_ ?_
          · rw [m1]
            rcases hc with ⟨h1, h2, h3⟩ | ⟨h1, h2, h3⟩
            · rw [h1, if_pos rfl]; exact h2
            · rw [h1]; exact h2
          · rw [m2]
            rcases hc with ⟨h1, h2, h3⟩ | ⟨h1, h2, h3⟩
            · rw [h1, if_pos rfl]; exact h3
            · rw [h1]; exact h3
        · rw [show n + (k + 1) = n + k + 1 from rfl, m1, m2]
    unfold ds_wo_tick
    have ib := goN_in (rs := rs) g3.ins (n + k)
    have ib1 : (goN one two rs s (n + k)).1 < one.length := ib.1
    have ib2 : (goN one two rs s (n + k)).2.1 < two.length := ib.2
    simp_arith [17, h6, h15, mkS_len, mkS_list, atI_getD ib1, atI_getD ib2]
    refine ⟨⟨_, _, DLook.t (bookK rs) []⟩, by omega, by omega, by omega, _, DLook.t (bookK rs) (keyR (one.getD (goN one two rs s (n + k)).1 0) (two.getD (goN one two rs s (n + k)).2.1 0)), ?_⟩
    rw [book_word]
    simp_arith [17]
    have et : goN one two rs s (n + k + 1) = tickN one two rs (goN one two rs s (n + k)) := rfl
    have ef : fN one two rs s (n + k + 1) = fN one two rs s (n + k) + if (goN one two rs s (n + k + 1)).2.2 = true then 1 else 0 := rfl
    have gA : tickN one two rs (goN one two rs s (n + k)) = (((goN one two rs s (n + k)).1 + 1) % one.length, (goN one two rs s (n + k)).2.1, true) → ds_wo_app CW (bodyDX 3 Eg) { nx := N, ct := N, bk := ds_wo5 CW (bodyEnds 3 Q), rt := (bodyEnds 3 Q).rt } [bdC CB p one two rs ws1 wy, .fz (adrD q), .fz (.int t), .fz (.int ((fN one two rs s (n + k) : Int) + 1)), .fz (.int ((n + 1 : Nat) : Int)), .fz (.int (mostN one two)), .fz (.int ((n + 1 : Nat) + k : Int)), .fz (.str (mkS one)), .fz (.str (mkS two)), .fz (bookD rs), .fz (.int one.length), .fz (.int two.length), .fz (.int ((goN one two rs s (n + k)).1 + 1 : Int)), .fz (.int (goN one two rs s (n + k)).2.1), .fz (.str wF), .fz (.str (wordOf rs (one.getD (goN one two rs s (n + k)).1 0) (two.getD (goN one two rs s (n + k)).2.1 0)))] := fun e => by
      rw [← et] at e
      have := app ((goN one two rs s (n + k)).1 + 1) (goN one two rs s (n + k)).2.1 (.fz (.str (wordOf rs (one.getD (goN one two rs s (n + k)).1 0) (two.getD (goN one two rs s (n + k)).2.1 0)))) rfl (.inl ⟨by rw [e], rfl, rfl⟩) (by rw [e]) (by rw [e]; exact (Nat.mod_eq_of_lt ib2).symm)
      rw [ef, e, if_pos rfl] at this
      exact this
    have gB : tickN one two rs (goN one two rs s (n + k)) = ((goN one two rs s (n + k)).1, ((goN one two rs s (n + k)).2.1 + 1) % two.length, false) → ds_wo_app CW (bodyDX 3 Eg) { nx := N, ct := N, bk := ds_wo5 CW (bodyEnds 3 Q), rt := (bodyEnds 3 Q).rt } [bdC CB p one two rs ws1 wy, .fz (adrD q), .fz (.int t), .fz (.int (fN one two rs s (n + k) : Int)), .fz (.int ((n + 1 : Nat) : Int)), .fz (.int (mostN one two)), .fz (.int ((n + 1 : Nat) + k : Int)), .fz (.str (mkS one)), .fz (.str (mkS two)), .fz (bookD rs), .fz (.int one.length), .fz (.int two.length), .fz (.int (goN one two rs s (n + k)).1), .fz (.int ((goN one two rs s (n + k)).2.1 + 1 : Int)), .fz (.str wS), .fz (.str (wordOf rs (one.getD (goN one two rs s (n + k)).1 0) (two.getD (goN one two rs s (n + k)).2.1 0)))] := fun e => by
      rw [← et] at e
      have := app (goN one two rs s (n + k)).1 ((goN one two rs s (n + k)).2.1 + 1) (.fz (.str (wordOf rs (one.getD (goN one two rs s (n + k)).1 0) (two.getD (goN one two rs s (n + k)).2.1 0)))) rfl (.inr ⟨by rw [e], rfl, rfl⟩) (by rw [e]; exact (Nat.mod_eq_of_lt ib1).symm) (by rw [e])
      rw [ef, e, if_neg (show ¬ false = true by decide)] at this
      exact this
    unfold tickN at gA gB
    split
    · next hd => exact gA (if_pos (.inl (of_decide_eq_true hd)))
    · next hd =>
      have hd := of_decide_eq_false hd
      split
      · next hd2 =>
        have hd2 := of_decide_eq_true hd2
        split
        · next hd3 => exact gA (if_pos (.inr ⟨hd2, late_s.mp (of_decide_eq_true hd3)⟩))
        · next hd3 => exact gB (if_neg fun z => z.elim (fun z => hd z) fun z => of_decide_eq_false hd3 (late_s.mpr z.2))
      · next hd2 => exact gB (if_neg fun z => z.elim (fun z => hd z) fun z => of_decide_eq_false hd2 z.1)

open PySem L2
local macro_rules
  | `(tactic| simp_arith [18]) => `(tactic| simp_arith [18, true_and])
  | `(tactic| simp_arith [18, $ls,*]) => `(tactic| simp_arith [17, dCallG, dCallGN, dMethG, dMethGN, dAG, gCall, argsOf, shpA, putBack, putCell, QE, QN, dMethP, bodyDX, $ls,*])
/-! ### go -/
def badK (i j : Int) (l : Str) : List Key := [.inl i, .inl j, .inr l]
theorem badK_D (i j : Int) (l : Str) : keysD (badK i j l) = .tuple [.int i, .int j, .str l] := rfl
theorem WsI.stand {CW : Addr} {one two : List Nat} {rs : List Row} {ws : List (List Key × Addr × Cell)} (I : WsI CW one two rs ws) {i j : Int} {l : Str} {x : Addr × Cell} (h : valX ws (badK i j l) = some x) : InP one two i j ∧ (l = wF ∨ l = wS) := by
  obtain ⟨s, q, n, a, bg, si, la, e, h1, h2⟩ := I.el _ (valX_mem h)
  have e1 : badK i j l = standK s := congrArg (·.1) e
  unfold badK standK at e1
  simp only [List.cons.injEq, Sum.inl.injEq, Sum.inr.injEq, and_true] at e1
  obtain ⟨rfl, rfl, rfl⟩ := e1
  have := h1.ins
  have t1 : s.1 < one.length := this.1
  have t2 : s.2.1 < two.length := this.2
  refine ⟨⟨⟨by omega, by omega⟩, by omega, by omega⟩, ?_⟩
  cases s.2.2
  · exact .inr rfl
  · exact .inl rfl
/-- where it is behind so many ticks, and the steps -/
def goD (one two : List Nat) (rs : List Row) (s : Stand) (m : Nat) : D := .tuple [standD (goN one two rs s m), .int (fN one two rs s m), .int ((m - fN one two rs s m : Nat) : Int)]
def g_board_go (CB CW C1 C2 C3 : Addr) : GSp := fun args Q E => ∃ (p : Addr) (one two : List Nat) (rs : List Row) (ws : List (List Key × Addr × Cell)) (wy : Cell) (i j : Int) (l : Str) (t : Int), args = [bdC CB p one two rs ws wy, .fz (.tuple [.int i, .int j, .str l]), .fz (.int t)] ∧ BdS one two ∧ WsI CW one two rs ws ∧
  ((∃ (s : Stand) (m : Nat), (i = s.1 ∧ j = s.2.1 ∧ l = lateS s.2.2) ∧ InS one two s ∧ t = m ∧ ∀ ws' r, WsI CW one two rs ws' → Q (.fz (goD one two rs s m)) (bdC CB p one two rs ws' wy :: r)) ∨
   (¬ InP one two i j ∧ ∀ r, E C1 (.tuple [.int i, .int j]) (bdC CB p one two rs ws wy :: r)) ∨
   (InP one two i j ∧ ¬ (l = wF ∨ l = wS) ∧ ∀ r, E C2 (.str l) (bdC CB p one two rs ws wy :: r)) ∨
   (InP one two i j ∧ (l = wF ∨ l = wS) ∧ t < 0 ∧ ∀ r, E C3 (.int t) (bdC CB p one two rs ws wy :: r)))
theorem len_board_go (CB CW C1 C2 C3 : Addr) : ∀ args Q E, g_board_go CB CW C1 C2 C3 args Q E → args.length = ["self", "standing", "ticks"].length := by
  rintro args Q E ⟨p, one, two, rs, ws, wy, i, j, l, t, rfl, _⟩
  rfl
def ds_go5 (CB CW : Addr) (dx : DX) : DS :=
  dSeq (dAsg (dOp (gI2 fun i j => .int (i - j)) (dVar 2) (dVar 5)) (dgName 4))
  (dSeq (dAsg (dVar 1) (dgTup 3 (dgCons (dgName 7) (dgCons (dgName 8) (dgCons (dgName 9) dgNil)))))
  (dRet (dTup (dCons (dTup (dCons (dOp (gInt2 (fun _ j => 0 < j) fun i j => .int (i % j)) (dOp gAdd (dVar 7) (dVar 5)) (dCa gLen (dCons (dPF CB 0 "_first") dNil))) (dCons (dOp (gInt2 (fun _ j => 0 < j) fun i j => .int (i % j)) (dOp gAdd (dVar 8) (dVar 4)) (dCa gLen (dCons (dPF CB 0 "_second") dNil))) (dCons (dVar 6) dNil)))) (dCons (dVar 5) (dCons (dVar 4) dNil))))))
def ds_go4 (CB CW : Addr) (dx : DX) : DS :=
  dSeq (dAsg (dMethP CW "behind" (g_walk_behind CW) 3 dx (dCons (dVar 2) dNil)) (dgTup 2 (dgCons (dgName 5) (dgCons (dgName 6) dgNil))))
  (ds_go5 CB CW dx)
def ds_go3 (CB CW : Addr) (dx : DX) : DS :=
  dSeq (dIf (dAnd (dTest (dOp fGe (dVar 2) (dPLen CW 3 "firsts"))) (dTest (dOp gEq (dPF CW 3 "lap") (dC (.int 0))))) (dDrop (dMethP CB "_walk_on" (g_board_walk_on CB CW) 0 dx (dCons (dVar 3) (dCons (dVar 2) dNil)))) dNext)
  (ds_go4 CB CW dx)
def ds_go2 (CB CW : Addr) (dx : DX) : DS :=
  dSeq (dIf (dTest (dOp (gIsN fun k => k) (dVar 3) (dC .none))) (dAsg (dMethP CB "_new_walk" (g_board_new_walk CB CW) 0 dx (dCons (dVar 1) dNil)) (dgName 3)) dNext)
  (ds_go3 CB CW dx)
def ds_go1 (CB CW C_NoTicks : Addr) (dx : DX) : DS :=
  dSeq (dIf (dTest (dOp fLt (dVar 2) (dC (.int 0)))) (dRaise C_NoTicks dx (dCons (dVar 2) dNil)) dNext)
  (ds_go2 CB CW dx)
def ds_go0 (CB CW C_NoPlace C_NoLast C_NoTicks : Addr) (dx : DX) : DS :=
  dSeq (dIf (dTest (dOp (gIsN fun k => k) (dVar 3) (dC .none))) (dDrop (dCallG (g_check_standing CB C_NoPlace C_NoLast) [.c 0, .d (dVar 1)] dx)) dNext)
  (ds_go1 CB CW C_NoTicks dx)
def ds_board_go (CB CW C_NoPlace C_NoLast C_NoTicks : Addr) (dx : DX) : DS :=
  dSeq (dAsg (dPDcGet CB 0 "_walks" 1) (dgName 3))
  (ds_go0 CB CW C_NoPlace C_NoLast C_NoTicks dx)
theorem do_board_go (CB CW C1 C2 C3 : Addr) (args : List Slot) (Q : Slot → List Slot → Prop) (Eg : Addr → D → List Slot → Prop) (h : g_board_go CB CW C1 C2 C3 args Q Eg) : ds_board_go CB CW C1 C2 C3 (bodyDX 3 Eg) (bodyEnds 3 Q) (bodyEnv 3 10 args) := by
  obtain ⟨p, one, two, rs, ws, wy, i, j, l, t, rfl, hb, I, h⟩ := h
  have hsz : sizeLine = 16777216 := sizeLine_eq
  have ba1 := hb.a1
  have ba2 := hb.a2
  have bb1 := hb.b1
  have bb2 := hb.b2
  -- it is known, and far enough
  have k4 : ∀ (s : Stand) (m : Nat) (ws1 : List (List Key × Addr × Cell)) (q : Addr) (n : Nat) (a : Stand) (bg : List (Stand × Nat)) (si la : Nat), WsI CW one two rs ws1 → valX ws1 (standK s) = some (q, walkC CW q one two rs s n a bg si la) → WalkI one two rs s n a bg si la → n < 2 ^ 24 → (m ≤ n ∨ 0 < la) →
      (∀ ws' r, WsI CW one two rs ws' → Q (.fz (goD one two rs s m)) (bdC CB p one two rs ws' wy :: r)) →
      ds_go4 CB CW (bodyDX 3 Eg) (bodyEnds 3 Q) [bdC CB p one two rs ws1 wy, .fz (standD s), .fz (.int m), .fz (adrD q), .no, .no, .no, .no, .no, .no] := by
    intro s m ws1 q n a bg si la I1 hv J hn hm hq
    unfold ds_go4
    simp_arith [18]
    refine ⟨⟨_, _, plcq rfl hv, w_inst wx_none⟩, _, _, plcq rfl hv, q, one, two, rs, s, n, a, bg, si, la, m, rfl, J, hn, hm, fun r => ?_⟩
    simp_arith [18]
    rw [dcSet_self hv]
    unfold ds_go5
    simp_arith [18, standD]
    refine plfb l_first ?_
    simp_arith [18, mkS_len]
    refine ⟨by omega, by omega, plfb l_second ?_⟩
    simp_arith [18, mkS_len]
    have hq := hq ws1 [.no, .no] I1
    have fl := fN_le (one := one) (two := two) (rs := rs) (s := s) m
    obtain ⟨e1, e2⟩ := goN_place (rs := rs) J.ins m
    have e3 : ((s.1 : Int) + (fN one two rs s m : Int)) % (one.length : Int) = ((goN one two rs s m).1 : Int) := by rw [e1, Int.natCast_emod, Int.natCast_add]
    have e4 : (m : Int) - (fN one two rs s m : Int) = ((m - fN one two rs s m : Nat) : Int) := by omega
    have e5 : ((s.2.1 : Int) + ((m - fN one two rs s m : Nat) : Int)) % (two.length : Int) = ((goN one two rs s m).2.1 : Int) := by rw [e2, Int.natCast_emod, Int.natCast_add]
    rw [e3, e4, e5]
    exact ⟨by omega, by omega, by omega, by omega, hq⟩
  -- it is known
  have k3 : ∀ (s : Stand) (m : Nat) (ws1 : List (List Key × Addr × Cell)) (q : Addr) (c : Cell), WsI CW one two rs ws1 → valX ws1 (standK s) = some (q, c) →
      (∀ ws' r, WsI CW one two rs ws' → Q (.fz (goD one two rs s m)) (bdC CB p one two rs ws' wy :: r)) →
      ds_go3 CB CW (bodyDX 3 Eg) (bodyEnds 3 Q) [bdC CB p one two rs ws1 wy, .fz (standD s), .fz (.int m), .fz (adrD q), .no, .no, .no, .no, .no, .no] := by
    intro s m ws1 q c I1 hv hq
    obtain ⟨n, a, bg, si, la, rfl, J, hn⟩ := I1.get hv
    unfold ds_go3
    simp_arith [18]
    refine plfq rfl hv l_firsts ?_
    simp_arith [18, fsL_len]
    by_cases z : n + 1 ≤ m
    · rw [decide_eq_true (by omega)]
      refine plfq rfl hv l_lap ?_
      simp_arith [18]
      by_cases zl : la = 0
      · rw [decide_eq_true (by omega)]
        subst zl
        have hsi := (J.run rfl).1
        have ha := (J.run rfl).2.1
        subst hsi
        refine ⟨⟨_, _, plc0, b_inst bx_none⟩, _, _, plc0, p, q, one, two, rs, ws1, wy, s, n, a, bg, m, rfl, hb, I1, hv, J, by omega, fun ws' n' a' bg' si' la' r I2 hv2 J2 hn2 hm2 => ?_⟩
        exact k4 s m ws' q n' a' bg' si' la' I2 hv2 J2 hn2 hm2 hq
      · rw [decide_eq_false (by omega)]
        exact k4 s m ws1 q n a bg si la I1 hv J hn (.inr (by omega)) hq
    · rw [decide_eq_false (by omega)]
      exact k4 s m ws1 q n a bg si la I1 hv J hn (.inl (by omega)) hq
  have nonA : ∀ q : Addr, isNon (adrD q) = false := fun _ => rfl
  have nonN : isNon .none = true := rfl
  unfold ds_board_go
  simp_arith [18]
  refine plfb l_walks ?_
  simp_arith [18]
  refine ⟨ws, rfl, badK i j l, rfl, ?_⟩
  cases hv : valX ws (badK i j l) with
  | some w =>
    obtain ⟨q, c⟩ := w
    have hst := I.stand hv
    unfold ds_go0
    simp_arith [18, nonA]
    unfold ds_go1 dRaise
    simp_arith [18]
    rcases h with ⟨s, m, ⟨rfl, rfl, rfl⟩, hs, rfl, h⟩ | ⟨h1, h⟩ | ⟨h1, h2, h⟩ | ⟨h1, h2, h3, h⟩
    · rw [decide_eq_false (by omega)]
      show ds_go2 _ _ _ _ _
      unfold ds_go2
      simp_arith [18, nonA]
      exact k3 s m ws q c I hv h
    · exact absurd hst.1 h1
    · exact absurd hst.2 h2
    · rw [decide_eq_true h3]
      exact ⟨_, rfl, h _⟩
  | none =>
    unfold ds_go0
    simp_arith [18, nonN]
    have hcs : ∀ (Q' : Slot → List Slot → Prop) (E' : Addr → D → List Slot → Prop),
        ((InP one two i j ∧ (l = wF ∨ l = wS) ∧ ∀ r, Q' (.fz .none) (.io (recC CB p (bXs one two rs (dcC ws) wy)) :: r)) ∨ (¬ InP one two i j ∧ ∀ r, E' C1 (.tuple [.int i, .int j]) (.io (recC CB p (bXs one two rs (dcC ws) wy)) :: r)) ∨ (InP one two i j ∧ ¬ (l = wF ∨ l = wS) ∧ ∀ r, E' C2 (.str l) (.io (recC CB p (bXs one two rs (dcC ws) wy)) :: r))) →
        g_check_standing CB C1 C2 [.io (recC CB p (bXs one two rs (dcC ws) wy)), .fz (.tuple [.int i, .int j, .str l])] Q' E' := fun Q' E' hh => ⟨p, one, two, rs, dcC ws, wy, i, j, l, rfl, hb, hh⟩
    refine ⟨⟨_, rfl⟩, rfl, _, rfl, hcs _ _ ?_⟩
    rcases h with ⟨s, m, ⟨rfl, rfl, rfl⟩, hs, rfl, h⟩ | ⟨h1, h⟩ | ⟨h1, h2, h⟩ | ⟨h1, h2, h3, h⟩
    · have t1 : s.1 < one.length := hs.1
      have t2 : s.2.1 < two.length := hs.2
      refine .inl ⟨⟨⟨by omega, by omega⟩, by omega, by omega⟩, by cases s.2.2 <;> first | exact .inl rfl | exact .inr rfl, fun r => ⟨⟨_, rfl⟩, ?_⟩⟩
      show ds_go1 _ _ _ _ _ [bdC CB p one two rs ws wy, .fz (standD s), .fz (.int m), .fz .none, .no, .no, .no, .no, .no, .no]
      unfold ds_go1 dRaise
      simp_arith [18]
      rw [decide_eq_false (by omega)]
      show ds_go2 _ _ _ _ _
      unfold ds_go2
      simp_arith [18, nonN]
      refine ⟨⟨_, _, plc0, b_inst bx_none⟩, _, _, plc0, p, one, two, rs, ws, wy, s, rfl, hb, I, hs, hv, fun q ws' r I2 hv2 => ?_⟩
      exact ⟨rfl, k3 s m ws' q _ I2 hv2 h⟩
    · exact .inr (.inl ⟨h1, fun r => ⟨⟨_, rfl⟩, (by decide : 3 ≤ 10), h _⟩⟩)
    · exact .inr (.inr ⟨h1, h2, fun r => ⟨⟨_, rfl⟩, (by decide : 3 ≤ 10), h _⟩⟩)
    · refine .inl ⟨h1, h2, fun r => ⟨⟨_, rfl⟩, ?_⟩⟩
      show ds_go1 _ _ _ _ _ [bdC CB p one two rs ws wy, .fz (.tuple [.int i, .int j, .str l]), .fz (.int t), .fz .none, .no, .no, .no, .no, .no, .no]
      unfold ds_go1 dRaise
      simp_arith [18]
      rw [decide_eq_true h3]
      exact ⟨_, rfl, h _⟩

open PySem L2
local macro_rules
  | `(tactic| simp_arith [19]) => `(tactic| simp_arith [19, true_and])
  | `(tactic| simp_arith [19, $ls,*]) => `(tactic| simp_arith [18, diScr, dLenScr, dSlScr, dIxScr, dCallRN, dMakeR, $ls,*])
theorem hu65 {A : Around} {k : Nat} (hr : Room k A) : A.units + 65 < cLine := by have := hr.un; omega
/-! a standing drawn -/
def g_stood : GSp := fun args Q _ => ∃ (c : Cell) (u : Int) (one two : List Nat), args = [.io c, .fz (.str (mkS one)), .fz (.str (mkS two))] ∧ TrayS u c ∧ u < 2 ^ 39 ∧ BdS one two ∧ ∀ s c' r, InS one two s → TrayS (u + 3) c' → Q (.fz (standD s)) (.io c' :: r)
theorem len_stood : ∀ args Q E, g_stood args Q E → args.length = ["tray", "one", "two"].length := by
  rintro args Q E ⟨c, u, one, two, rfl, _⟩
  rfl
def ds_stood (dx : DX) : DS :=
  dRet (dTup (dCons (dCallR g_draw 0 dx (dCons (dCa gLen (dCons (dVar 1) dNil)) dNil)) (dCons (dCallR g_draw 0 dx (dCons (dCa gLen (dCons (dVar 2) dNil)) dNil)) (dCons (dOp gIx (dFrz (dLstN (dCons (dC (.str "first")) (dCons (dC (.str "second")) dNil)))) (dCallR g_draw 0 dx (dCons (dC (.int 2)) dNil))) dNil))))
theorem do_stood (args : List Slot) (Q : Slot → List Slot → Prop) (Eg : Addr → D → List Slot → Prop) (h : g_stood args Q Eg) : ds_stood (bodyDX 3 Eg) (bodyEnds 3 Q) (bodyEnv 3 3 args) := by
  obtain ⟨c, u, one, two, rfl, hc, hu, ⟨ba1, ba2, bb1, bb2⟩, hq⟩ := h
  have hsz : sizeLine = 16777216 := sizeLine_eq
  unfold ds_stood
  simp_arith [19, mkS_len]
  refine ⟨by omega, draw_ok hc (by omega) (by omega) (by omega) fun v1 c1 hv1 hw1 hc1 r => ?_⟩
  simp_arith [19, mkS_len]
  refine ⟨by omega, draw_ok hc1 (by omega) (by omega) (by omega) fun v2 c2 hv2 hw2 hc2 r => ?_⟩
  simp_arith [19]
  refine ⟨by omega, draw_ok hc2 (by omega) (by omega) (by omega) fun v3 c3 hv3 hw3 hc3 r => ?_⟩
  simp_arith [19]
  obtain ⟨x, rfl⟩ : ∃ x : Nat, v1 = x := ⟨v1.toNat, by omega⟩
  obtain ⟨y, rfl⟩ : ∃ y : Nat, v2 = y := ⟨v2.toNat, by omega⟩
  have h3 : v3 = 0 ∨ v3 = 1 := by omega
  rcases h3 with z | z
  · subst z
    simp_arith [19]
    exact ⟨by omega, hq (x, y, true) c3 _ ⟨by show x < _; omega, by show y < _; omega⟩ (hc3.mono (by omega))⟩
  · subst z
    simp_arith [19, atI_1]
    exact ⟨by omega, hq (x, y, false) c3 _ ⟨by show x < _; omega, by show y < _; omega⟩ (hc3.mono (by omega))⟩
theorem eqv_stand (s : Stand) : PyData.eqv (standD s) (standD s) = true := SeqAt.eqv_refl_plain _ rfl
theorem eqv_goD (one two : List Nat) (rs : List Row) (s : Stand) (m : Nat) : PyData.eqv (goD one two rs s m) (goD one two rs s m) = true := SeqAt.eqv_refl_plain _ rfl
theorem intsOf_nat : ∀ ms : List Nat, intsOf (ms.map fun m : Nat => PyData.int m) = some (ms.map fun m : Nat => (m : Int))
  | [] => rfl
  | m :: ms => by
    have := intsOf_nat ms
    rw [List.map_cons, intsOf, this]
    rfl
theorem sum_nat : ∀ ms : List Nat, (ms.map fun m : Nat => (m : Int)).sum = ((ms.sum : Nat) : Int)
  | [] => rfl
  | m :: ms => by rw [List.map_cons, List.sum_cons, List.sum_cons, sum_nat ms, Int.natCast_add]
/-- go asked of a board in the second slot -/
theorem go_ok {CB CW C1 C2 C3 p : Addr} {one two : List Nat} {rs : List Row} {ws : List (List Key × Addr × Cell)} {wy : Cell} {s : Stand} {m : Nat} {Q : Slot → List Slot → Prop} {E : Addr → D → List Slot → Prop} (hb : BdS one two) (I : WsI CW one two rs ws) (hs : InS one two s)
    (h : ∀ ws' r, WsI CW one two rs ws' → Q (.fz (goD one two rs s m)) (bdC CB p one two rs ws' wy :: r)) : g_board_go CB CW C1 C2 C3 [bdC CB p one two rs ws wy, .fz (standD s), .fz (.int m)] Q E :=
  ⟨p, one, two, rs, ws, wy, s.1, s.2.1, lateS s.2.2, m, rfl, hb, I, .inl ⟨s, m, ⟨rfl, rfl, rfl⟩, hs, rfl, h⟩⟩
theorem plc1 {c : Cell} {t : Slot} {r : Rho} : Plc (t :: .io c :: r) 1 c fun c' => t :: .io c' :: r := Plc.own (ρ := t :: .io c :: r) (y := 1) (s := .io c) (sub := c) rfl rfl

open PySem L2 TL
/-! standings written -/
theorem num_mkS (n : Nat) : Str.ofString (toString ((n : Nat) : Int)) = mkS (numL n) := by
  have := mkS_of (Str.ofString (toString ((n : Nat) : Int)))
  rw [this]
  exact congrArg mkS (tl_num n)
theorem log2_small {n : Nat} (h : n < 2 ^ 1900) : n.log2 < 1920 := by
  rcases Nat.eq_zero_or_pos n with z | z
  · subst z; decide
  · have := (Nat.log2_lt (n := n) (k := 1900) (by omega)).mpr h
    omega
theorem ten60 : (10 : Nat) ^ 60 < 2 ^ 1900 := Nat.lt_of_lt_of_le (by decide : (10 : Nat) ^ 60 < 2 ^ 200) (Nat.pow_le_pow_right (by decide) (by decide))
theorem log2_60 {n : Nat} (h : n < 10 ^ 60) : ((n : Int).natAbs).log2 < 1920 := log2_small (Nat.lt_trans h ten60)
def lateL (b : Bool) : List Nat := if b = true then [102, 105, 114, 115, 116] else [115, 101, 99, 111, 110, 100]
theorem late_mk (b : Bool) : lateS b = mkS (lateL b) := by
  cases b
  · show wS = mkS [115, 101, 99, 111, 110, 100]; decide +kernel
  · show wF = mkS [102, 105, 114, 115, 116]; decide +kernel
def textL (s : Stand) : List Nat := numL s.1 ++ [46] ++ numL s.2.1 ++ [32] ++ lateL s.2.2
def Below60 (s : Stand) : Prop := s.1 < 10 ^ 60 ∧ s.2.1 < 10 ^ 60
theorem emp_mk : Str.empty = mkS [] := rfl
theorem s_dot : ("." : Str) = mkS [46] := by decide +kernel
theorem s_blank : (" " : Str) = mkS [32] := by decide +kernel
theorem s_nought : ("0" : Str) = mkS [48] := by decide +kernel
theorem s_digits : ("0123456789" : Str) = mkS [48, 49, 50, 51, 52, 53, 54, 55, 56, 57] := by decide +kernel
theorem num60 {n : Nat} (h : n < 10 ^ 60) : 1 ≤ (numL n).length ∧ (numL n).length ≤ 60 := ⟨List.length_pos_iff.mpr (numL_ne n), numL_len (by decide) h⟩
theorem late_len (b : Bool) : (lateL b).length ≤ 6 := by cases b <;> decide
def g_show_standing : GSp := fun args Q _ => ∃ s : Stand, args = [.fz (standD s)] ∧ Below60 s ∧ ∀ r, Q (.fz (.str (mkS (textL s)))) r
theorem len_show_standing : ∀ args Q E, g_show_standing args Q E → args.length = ["standing"].length := by
  rintro args Q E ⟨s, rfl, _⟩
  rfl
def ds_show_standing (dx : DX) : DS :=
  dSeq (dAsg (dVar 0) (dgTup 3 (dgCons (dgName 1) (dgCons (dgName 2) (dgCons (dgName 3) dgNil)))))
  (dRet (dJoined [dFmt (dVar 1), dC (.str "."), dFmt (dVar 2), dC (.str " "), dFmt (dVar 3)]))
theorem do_show_standing (args : List Slot) (Q : Slot → List Slot → Prop) (Eg : Addr → D → List Slot → Prop) (h : g_show_standing args Q Eg) : ds_show_standing (bodyDX 1 Eg) (bodyEnds 1 Q) (bodyEnv 1 4 args) := by
  obtain ⟨⟨i, j, b⟩, rfl, ⟨hi, hj⟩, hq⟩ := h
  dsimp only at hi hj
  have hsz : sizeLine = 16777216 := sizeLine_eq
  have h1 := num60 hi
  have h2 := num60 hj
  have h3 := late_len b
  unfold ds_show_standing standD
  rw [s_dot, s_blank]
  simp_arith [14, num_mkS, late_mk, emp_mk, mkS_app, mkS_len, List.nil_append, List.length_append]
  refine ⟨log2_60 hi, by omega, by omega, log2_60 hj, by omega, by omega, by omega, by omega, ?_⟩
  exact hq _

/-! numbers read -/
theorem numL_head {n : Nat} (h : n ≠ 0) : (numL n).getD 0 0 ≠ 48 := by
  induction n using Nat.strongRecOn with
  | _ n ih =>
    by_cases h10 : n < 10
    · rw [numL_lt h10]
      show 48 + n ≠ 48
      omega
    · rw [numL_step (by omega)]
      have := ih (n / 10) (by omega) (by omega)
      have hne := numL_ne (n / 10)
      cases e : numL (n / 10) with
      | nil => exact absurd e hne
      | cons c l => rw [e] at this; exact this
def isFig (l : List Nat) : Bool := l.all fun c => decide (48 ≤ c ∧ c ≤ 57)
/-- whether signs write a number -/
def isNumL (l : List Nat) : Bool := decide (0 < l.length ∧ l.length ≤ 60) && isFig l && (decide (l = [48]) || decide (l.getD 0 0 ≠ 48))
def g_is_number : GSp := fun args Q _ => ∃ l : List Nat, args = [.fz (.str (mkS l))] ∧ l.length ≤ 5000 ∧ ∀ r, Q (.fz (.bool (isNumL l))) r
theorem len_is_number : ∀ args Q E, g_is_number args Q E → args.length = ["text"].length := by
  rintro args Q E ⟨s, rfl, _⟩
  rfl
def ds_is_number (dx : DX) : DS :=
  dSeq (dIf (dOr (dNot (dTest (dChain fLt fLe (dC (.int 0)) (dCa gLen (dCons (dVar 0) dNil)) (dC (.int 60))))) (dNot (dTest (dCa gAll (dCons (dFrz (dLc (diStr (dVar 0)) (dgName 1) dYes (dOp (gIn (fun k => k)) (dVar 1) (dC (.str "0123456789"))) [1])) dNil))))) (dRet (dC (.bool false))) dNext)
  (dRet (dOrV (dOp gEq (dVar 0) (dC (.str "0"))) (dOp gNe (dOp gIx (dVar 0) (dC (.int 0))) (dC (.str "0")))))
theorem fig_mem (c : Nat) : decide (c ∈ [48, 49, 50, 51, 52, 53, 54, 55, 56, 57]) = decide (48 ≤ c ∧ c ≤ 57) := by
  simp only [List.mem_cons, List.not_mem_nil, or_false]
  exact decide_eq_decide.mpr (by omega)
theorem do_is_number (args : List Slot) (Q : Slot → List Slot → Prop) (Eg : Addr → D → List Slot → Prop) (h : g_is_number args Q Eg) : ds_is_number (bodyDX 1 Eg) (bodyEnds 1 Q) (bodyEnv 1 2 args) := by
  obtain ⟨l, rfl, hl, hq⟩ := h
  have hsz : sizeLine = 16777216 := sizeLine_eq
  unfold ds_is_number
  rw [s_digits, s_nought]
  simp_arith [14, mkS_len]
  refine ⟨by omega, ?_⟩
  by_cases h0 : 0 < l.length
  · rw [decide_eq_true (by omega : (0 : Int) < l.length)]
    try dsimp only
    by_cases h60 : l.length ≤ 60
    · rw [decide_eq_true (by omega : (l.length : Int) ≤ 60)]
      try dsimp only [Bool.not_true]
      refine dLc_ind (fun k acc ρ => ρ = [.fz (.str (mkS l)), .no] ∧ acc = (l.take k).map fun c => .bool (decide (48 ≤ c ∧ c ≤ 57))) ⟨rfl, rfl⟩ ?_ ?_
      · rintro acc ρ ⟨rfl, rfl⟩
        rw [signs_len, List.take_length]
        have eb : boolsOf (l.map fun c => PyData.bool (decide (48 ≤ c ∧ c ≤ 57))) = some (l.map fun c => decide (48 ≤ c ∧ c ≤ 57)) := by
          have := boolsOf_map (l.map fun c => decide (48 ≤ c ∧ c ≤ 57))
          rw [List.map_map] at this
          exact this
        rw [eb]
        try dsimp only
        have ea : (l.map fun c => decide (48 ≤ c ∧ c ≤ 57)).all id = isFig l := by
          unfold isFig
          rw [List.all_map]
          rfl
        rw [ea]
        cases ef : isFig l
        · simp_arith [14]
          have := hq [.no]
          unfold isNumL at this
          rw [ef, Bool.and_false, Bool.false_and] at this
          exact this
        · obtain ⟨c, l', rfl⟩ : ∃ c l', l = c :: l' := by
            cases l with
            | nil => cases h0
            | cons c l' => exact ⟨c, l', rfl⟩
          simp_arith [14, mkS_inj]
          have := hq [.no]
          unfold isNumL at this
          rw [ef, Bool.and_true, decide_eq_true (⟨h0, h60⟩ : 0 < (c :: l').length ∧ (c :: l').length ≤ 60), Bool.true_and] at this
          by_cases hz : c :: l' = [48]
          · rw [decide_eq_true hz] at this ⊢
            exact this
          · rw [decide_eq_false hz] at this ⊢
            try dsimp only
            rw [mkS_len, mkS_list, show L2.atI (c :: l') 0 = some c from atI_nat (k := 0) rfl]
            refine ⟨by omega, ?_⟩
            rw [Bool.false_or] at this
            have e1 : (!decide ((⟨#[c]⟩ : Str) = mkS [48])) = decide ((c :: l').getD 0 0 ≠ 48) := by
              show (!decide (mkS [c] = mkS [48])) = decide (c ≠ 48)
              rw [Bool.not_eq_eq_eq_not, ← decide_not]
              exact decide_eq_decide.mpr ⟨fun h => by rw [mkS_inj] at h; simpa using h, fun h => by simpa [mkS_inj] using h⟩
            dsimp only
            rw [e1]
            exact this
      · rintro k x acc ρ N hk ⟨rfl, rfl⟩ hN
        rw [signs_mkS, List.getElem?_map] at hk
        cases e : l[k]? with
        | none => rw [e] at hk; cases hk
        | some c =>
          rw [e] at hk
          cases hk
          have hlen : ((l.take k).map fun c => PyData.bool (decide (48 ≤ c ∧ c ≤ 57))).length ≤ 60 := by rw [List.length_map, List.length_take]; omega
          simp_arith [14, mkS_list, fig_mem]
          exact ⟨by omega, hN _ _ ⟨rfl, (congrArg (fun b => _ ++ [PyData.bool b]) (fig_mem c)).trans (take_snoc _ e).symm⟩⟩
    · rw [decide_eq_false (by omega : ¬ (l.length : Int) ≤ 60)]
      try dsimp only [Bool.not_false]
      have := hq [.no]
      unfold isNumL at this
      rw [decide_eq_false (by omega : ¬ (0 < l.length ∧ l.length ≤ 60)), Bool.false_and, Bool.false_and] at this
      exact this
  · rw [decide_eq_false (by omega : ¬ (0 : Int) < l.length)]
    try dsimp only
    have := hq [.no]
    unfold isNumL at this
    rw [decide_eq_false (by omega : ¬ (0 < l.length ∧ l.length ≤ 60)), Bool.false_and, Bool.false_and] at this
    exact this

theorem isNum_num {n : Nat} (h : n < 10 ^ 60) : isNumL (numL n) = true := by
  have h1 := num60 h
  unfold isNumL
  rw [decide_eq_true (⟨h1.1, h1.2⟩ : 0 < (numL n).length ∧ (numL n).length ≤ 60), Bool.true_and]
  have h2 : isFig (numL n) = true := by
    unfold isFig
    rw [List.all_eq_true]
    exact fun c hc => decide_eq_true (numL_digits n c hc)
  rw [h2, Bool.true_and]
  by_cases hz : n = 0
  · subst hz; rfl
  · have : (numL n).getD 0 0 ≠ 48 := numL_head hz
    rw [decide_eq_true this, Bool.or_true]

theorem part_blank {a b : List Nat} (h : 32 ∉ a) : Txt.partition (mkS (a ++ [32] ++ b)) (mkS [32]) = (mkS a, mkS [32], mkS b) := by
  rw [← mkS_app, ← mkS_app]
  exact partition_app (y := mkS [32]) (s := 32) (S := []) rfl (a := mkS a) (b := mkS b) h
theorem part_dot {a b : List Nat} (h : 46 ∉ a) : Txt.partition (mkS (a ++ [46] ++ b)) (mkS [46]) = (mkS a, mkS [46], mkS b) := by
  rw [← mkS_app, ← mkS_app]
  exact partition_app (y := mkS [46]) (s := 46) (S := []) rfl (a := mkS a) (b := mkS b) h
theorem late_in (b : Bool) : ([PyData.str wF, PyData.str wS].any fun z => PyData.eqv z (.str (lateS b))) = true := by
  cases b
  · show ([PyData.str wF, PyData.str wS].any fun z => PyData.eqv z (.str wS)) = true
    decide +kernel
  · show ([PyData.str wF, PyData.str wS].any fun z => PyData.eqv z (.str wF)) = true
    decide +kernel
def g_read_standing : GSp := fun args Q _ => ∃ s : Stand, args = [.fz (.str (mkS (textL s)))] ∧ Below60 s ∧ ∀ r, Q (.fz (standD s)) r
theorem len_read_standing : ∀ args Q E, g_read_standing args Q E → args.length = ["text"].length := by
  rintro args Q E ⟨s, rfl, _⟩
  rfl
def ds_read_standing (dx : DX) : DS :=
  dSeq (dAsg (dMtT "str" gPartition (dVar 0) (dCons (dC (.str " ")) dNil)) (dgTup 3 (dgCons (dgName 1) (dgCons (dgName 2) (dgCons (dgName 3) dgNil)))))
  (dSeq (dAsg (dMtT "str" gPartition (dVar 1) (dCons (dC (.str ".")) dNil)) (dgTup 3 (dgCons (dgName 4) (dgCons (dgName 2) (dgCons (dgName 5) dgNil)))))
  (dSeq (dIf (dNot (dAnd (dTest (dCall g_is_number [] dx (dCons (dVar 4) dNil))) (dAnd (dTest (dCall g_is_number [] dx (dCons (dVar 5) dNil))) (dTest (dOp (gIn (fun k => k)) (dVar 3) (dTup (dCons (dC (.str "first")) (dCons (dC (.str "second")) dNil)))))))) dDead dNext)
  (dRet (dTup (dCons (dCa gIntS (dCons (dVar 4) dNil)) (dCons (dCa gIntS (dCons (dVar 5) dNil)) (dCons (dVar 3) dNil)))))))
theorem num_int {n : Nat} (h : n < 10 ^ 60) : intText? (mkS (numL n)) = some (n : Int) := by
  rw [← num_mkS]
  exact int_num (by have := num60 h; omega)
theorem textL_len (s : Stand) (h : Below60 s) : (textL s).length ≤ 200 := by
  obtain ⟨i, j, b⟩ := s
  have h1 := num60 h.1
  have h2 := num60 h.2
  have h3 := late_len b
  unfold textL
  simp only [List.length_append, List.length_cons, List.length_nil] at h1 h2 ⊢
  omega
theorem do_read_standing (args : List Slot) (Q : Slot → List Slot → Prop) (Eg : Addr → D → List Slot → Prop) (h : g_read_standing args Q Eg) : ds_read_standing (bodyDX 1 Eg) (bodyEnds 1 Q) (bodyEnv 1 6 args) := by
  obtain ⟨⟨i, j, b⟩, rfl, hb, hq⟩ := h
  have hsz : sizeLine = 16777216 := sizeLine_eq
  have hL := textL_len _ hb
  obtain ⟨hi, hj⟩ := hb
  dsimp only at hi hj
  have h1 := num60 hi
  have h2 := num60 hj
  have h3 := late_len b
  have e1 : Txt.partition (mkS (textL (i, j, b))) (mkS [32]) = (mkS (numL i ++ [46] ++ numL j), mkS [32], mkS (lateL b)) := by
    refine part_blank fun hm => ?_
    rcases List.mem_append.mp hm with hm | hm
    · rcases List.mem_append.mp hm with hm | hm
      · exact numL_free (by omega) hm
      · simp at hm
    · exact numL_free (by omega) hm
  have e2 : Txt.partition (mkS (numL i ++ [46] ++ numL j)) (mkS [46]) = (mkS (numL i), mkS [46], mkS (numL j)) := part_dot (numL_free (by omega))
  unfold ds_read_standing
  rw [s_dot, s_blank]
  simp_arith [14, e1, e2, mkS_len, List.length_append]
  refine ⟨rfl, by omega, rfl, by omega, numL i, rfl, by omega, fun r => ?_⟩
  simp_arith [14, isNum_num hi]
  refine ⟨numL j, rfl, by omega, fun r => ?_⟩
  simp_arith [14, isNum_num hj]
  rw [← late_mk, late_in]
  simp_arith [14, num_int hi, num_int hj, mkS_len]
  exact ⟨by omega, rfl, rfl, by omega, by omega, by omega, hq _⟩

def g_any_stood : GSp := fun args Q _ => ∃ (c : Cell) (u : Int), args = [.io c] ∧ TrayS u c ∧ u < 2 ^ 38 ∧ ∀ (s : Stand) c' r, Below60 s → TrayS (u + 40) c' → Q (.fz (standD s)) (.io c' :: r)
theorem len_any_stood : ∀ args Q E, g_any_stood args Q E → args.length = ["tray"].length := by
  rintro args Q E ⟨c, u, rfl, _⟩
  rfl
theorem great_ok {c : Cell} {u : Int} {Q : Slot → List Slot → Prop} {E : Addr → D → List Slot → Prop} (hc : TrayS u c) (hu : u < 2 ^ 39) (h : ∀ v c', 0 ≤ v → v < 10 ^ 59 → TrayS (u + 4) c' → ∀ r, Q (.fz (.int v)) (.io c' :: r)) : g_great [.io c] Q E :=
  ⟨c, u, rfl, hc, hu, fun v c' r hv hv2 h' => h v c' hv hv2 h' r⟩
def ds_any_stood (dx : DX) : DS :=
  dSeq (dAsg (dFrz (dLstN (dCons (dCallR g_draw 0 dx (dCons (dC (.int 3)) dNil)) (dCons (dCallR g_draw 0 dx (dCons (dC (.int 41)) dNil)) (dCons (dCallR g_great 0 dx dNil) (dCons (dOp gAdd (dOp gMulA (dCallR g_great 0 dx dNil) (dC (.int 10))) (dCallR g_draw 0 dx (dCons (dC (.int 10)) dNil))) dNil)))))) (dgName 1))
  (dSeq (dAsg (dFrz (dLstN (dCons (dCallR g_draw 0 dx (dCons (dC (.int 3)) dNil)) (dCons (dCallR g_draw 0 dx (dCons (dC (.int 41)) dNil)) (dCons (dCallR g_great 0 dx dNil) (dCons (dOp gAdd (dOp gMulA (dCallR g_great 0 dx dNil) (dC (.int 10))) (dCallR g_draw 0 dx (dCons (dC (.int 10)) dNil))) dNil)))))) (dgName 2))
  (dSeq (dAsg (dOp gIx (dFrz (dLstN (dCons (dC (.str "first")) (dCons (dC (.str "second")) dNil)))) (dCallR g_draw 0 dx (dCons (dC (.int 2)) dNil))) (dgName 3))
  (dRet (dTup (dCons (dOp gIx (dVar 1) (dCallR g_draw 0 dx (dCons (dC (.int 4)) dNil))) (dCons (dOp gIx (dVar 2) (dCallR g_draw 0 dx (dCons (dC (.int 4)) dNil))) (dCons (dVar 3) dNil)))))))
theorem word2 {v : Int} (h0 : 0 ≤ v) (h1 : v < 2) : ∃ b, L2.atI [PyData.str wF, PyData.str wS] v = some (.str (lateS b)) := by
  have : v = 0 ∨ v = 1 := by omega
  rcases this with z | z <;> subst z
  · exact ⟨true, rfl⟩
  · exact ⟨false, rfl⟩
theorem pick4 {a b c d : Int} {n : Nat} {v : Int} (h0 : 0 ≤ v) (h1 : v < 4) (ha : 0 ≤ a ∧ a < (n : Int)) (hb : 0 ≤ b ∧ b < (n : Int)) (hc : 0 ≤ c ∧ c < (n : Int)) (hd : 0 ≤ d ∧ d < (n : Int)) : ∃ i : Nat, L2.atI [PyData.int a, PyData.int b, PyData.int c, PyData.int d] v = some (.int (i : Int)) ∧ i < n := by
  have : v = 0 ∨ v = 1 ∨ v = 2 ∨ v = 3 := by omega
  rcases this with z | z | z | z <;> subst z
  · exact ⟨a.toNat, by rw [Int.toNat_of_nonneg ha.1]; rfl, by omega⟩
  · exact ⟨b.toNat, by rw [Int.toNat_of_nonneg hb.1]; rfl, by omega⟩
  · exact ⟨c.toNat, by rw [Int.toNat_of_nonneg hc.1]; rfl, by omega⟩
  · exact ⟨d.toNat, by rw [Int.toNat_of_nonneg hd.1]; rfl, by omega⟩
theorem do_any_stood (args : List Slot) (Q : Slot → List Slot → Prop) (Eg : Addr → D → List Slot → Prop) (h : g_any_stood args Q Eg) : ds_any_stood (bodyDX 1 Eg) (bodyEnds 1 Q) (bodyEnv 1 4 args) := by
  obtain ⟨c, u, rfl, hc, hu, hq⟩ := h
  have hsz : sizeLine = 16777216 := sizeLine_eq
  unfold ds_any_stood
  simp_arith [14]
  refine draw_ok hc (by omega) (by omega) (by omega) fun a1 c1 ha1 hb1 hc1 r => ?_
  simp_arith [14]
  refine draw_ok hc1 (by omega) (by omega) (by omega) fun a2 c2 ha2 hb2 hc2 r => ?_
  simp_arith [14]
  refine great_ok hc2 (by omega) fun a3 c3 ha3 hb3 hc3 r => ?_
  simp_arith [14]
  refine great_ok hc3 (by omega) fun a4 c4 ha4 hb4 hc4 r => ?_
  simp_arith [14]
  refine ⟨.inl (.inr ⟨by omega, by omega⟩), ?_⟩
  refine draw_ok hc4 (by omega) (by omega) (by omega) fun a5 c5 ha5 hb5 hc5 r => ?_
  simp_arith [14]
  refine ⟨by omega, ?_⟩
  refine draw_ok hc5 (by omega) (by omega) (by omega) fun b1 c1 ha1 hb1 hc1 r => ?_
  simp_arith [14]
  refine draw_ok hc1 (by omega) (by omega) (by omega) fun b2 c2 ha2 hb2 hc2 r => ?_
  simp_arith [14]
  refine great_ok hc2 (by omega) fun b3 c3 ha3 hb3 hc3 r => ?_
  simp_arith [14]
  refine great_ok hc3 (by omega) fun b4 c4 ha4 hb4 hc4 r => ?_
  simp_arith [14]
  refine ⟨.inl (.inr ⟨by omega, by omega⟩), ?_⟩
  refine draw_ok hc4 (by omega) (by omega) (by omega) fun b5 c5 ha5 hb5 hc5 r => ?_
  simp_arith [14]
  refine ⟨by omega, by omega, ?_⟩
  refine draw_ok hc5 (by omega) (by omega) (by omega) fun v c6 hv hw hc6 r => ?_
  obtain ⟨b, eb⟩ := word2 hv hw
  simp_arith [14, eb]
  refine draw_ok hc6 (by omega) (by omega) (by omega) fun v c7 hv hw hc7 r => ?_
  obtain ⟨i, ei, hi⟩ := pick4 (n := 10 ^ 60) (a := a1) (b := a2) (c := a3) (d := a4 * 10 + a5) hv hw (by omega) (by omega) (by omega) (by omega)
  simp_arith [14, ei]
  refine draw_ok hc7 (by omega) (by omega) (by omega) fun v c8 hv hw hc8 r => ?_
  obtain ⟨j, ej, hj⟩ := pick4 (n := 10 ^ 60) (a := b1) (b := b2) (c := b3) (d := b4 * 10 + b5) hv hw (by omega) (by omega) (by omega) (by omega)
  simp_arith [14, ej]
  exact ⟨by omega, hq (i, j, b) _ _ ⟨hi, hj⟩ (hc8.mono (by omega))⟩

/-! K53a: the kind of a refusal; texts spoilt -/
open PySem L2
local macro_rules
  | `(tactic| simp_arith [20]) => `(tactic| simp_arith [20, true_and])
  | `(tactic| simp_arith [20, $ls,*]) => `(tactic| simp_arith [19, dIsK, dWhatK, cau_ex, gSplit, dSplitN, dgIx, List.head?_cons, List.tail_cons, $ls,*])
def names7 : List Str := ["NoRound", "NoRow", "NoPlace", "NoLast", "NoTicks", "NoTimes", "NoText"]
def kindB (bs : List Bool) : List D := ((names7.zip bs).filter (·.2)).map fun p => PyData.str p.1
/-- what isinstance tells of an error of the class D -/
structure KindD (K : PySem.W.Frag) (D R1 R2 R3 R4 R5 R6 R7 : Addr) (b1 b2 b3 b4 b5 b6 b7 : Bool) : Prop where
  k1 : PySem.W.kitOne K (.ref D) (.ref R1) = some b1
  k2 : PySem.W.kitOne K (.ref D) (.ref R2) = some b2
  k3 : PySem.W.kitOne K (.ref D) (.ref R3) = some b3
  k4 : PySem.W.kitOne K (.ref D) (.ref R4) = some b4
  k5 : PySem.W.kitOne K (.ref D) (.ref R5) = some b5
  k6 : PySem.W.kitOne K (.ref D) (.ref R6) = some b6
  k7 : PySem.W.kitOne K (.ref D) (.ref R7) = some b7
  kv : PySem.W.kitOne K (.ref D) (.type "ValueError") = some true
section
variable (K : PySem.W.Frag) (R1 R2 R3 R4 R5 R6 R7 a D d : Addr)
def ds_kind1 : DS := dRet (dOp gAdd (dFrz (dLc (diList (dVar 1)) (dgTup 2 (dgCons (dgName 2) (dgCons (dgName 3) dgNil))) (dTest (dVar 3)) (dVar 2) [2, 3])) (dFrz (dLstN (dCons (dWhatK 0 a d) (dCons (dIsK K D (.type "ValueError") 0 a d) dNil)))))
def ds_kind : DS :=
  dSeq (dAsg (dFrz (dLstN (dCons (dTup (dCons (dC (.str "NoRound")) (dCons (dIsK K D (.ref R1) 0 a d) dNil))) (dCons (dTup (dCons (dC (.str "NoRow")) (dCons (dIsK K D (.ref R2) 0 a d) dNil))) (dCons (dTup (dCons (dC (.str "NoPlace")) (dCons (dIsK K D (.ref R3) 0 a d) dNil))) dNil))))) (dgName 1))
  (dSeq (dAsg (dOp gAdd (dVar 1) (dFrz (dLstN (dCons (dTup (dCons (dC (.str "NoLast")) (dCons (dIsK K D (.ref R4) 0 a d) dNil))) (dCons (dTup (dCons (dC (.str "NoTicks")) (dCons (dIsK K D (.ref R5) 0 a d) dNil))) dNil))))) (dgName 1))
  (dSeq (dAsg (dOp gAdd (dVar 1) (dFrz (dLstN (dCons (dTup (dCons (dC (.str "NoTimes")) (dCons (dIsK K D (.ref R6) 0 a d) dNil))) (dCons (dTup (dCons (dC (.str "NoText")) (dCons (dIsK K D (.ref R7) 0 a d) dNil))) dNil))))) (dgName 1))
  (ds_kind1 K a D d)))
end
theorem kind_core {K : PySem.W.Frag} {R1 R2 R3 R4 R5 R6 R7 a D d : Addr} {b1 b2 b3 b4 b5 b6 b7 : Bool} (k : KindD K D R1 R2 R3 R4 R5 R6 R7 b1 b2 b3 b4 b5 b6 b7) {z : PyData} {Q : Slot → List Slot → Prop} (h : Q (.fz (.list (kindB [b1, b2, b3, b4, b5, b6, b7] ++ [z, .bool true]))) [.io (cauC a d z)]) : ds_kind K R1 R2 R3 R4 R5 R6 R7 a D d (bodyEnds 1 Q) (bodyEnv 1 4 [.io (cauC a d z)]) := by
  have hsz : sizeLine = 16777216 := sizeLine_eq
  obtain ⟨k1, k2, k3, k4, k5, k6, k7, kv⟩ := k
  unfold ds_kind
  simp_arith [20, k1, k2, k3, k4, k5, k6, k7]
  refine ⟨by omega, by omega, by omega, by omega, by omega, by omega, by omega, by omega, by omega, by omega, by omega, by omega, ?_⟩
  have el : ([PyData.tuple [PyData.str (Str.ofString "NoRound"), PyData.bool b1], PyData.tuple [PyData.str (Str.ofString "NoRow"), PyData.bool b2], PyData.tuple [PyData.str (Str.ofString "NoPlace"), PyData.bool b3], PyData.tuple [PyData.str (Str.ofString "NoLast"), PyData.bool b4], PyData.tuple [PyData.str (Str.ofString "NoTicks"), PyData.bool b5], PyData.tuple [PyData.str (Str.ofString "NoTimes"), PyData.bool b6], PyData.tuple [PyData.str (Str.ofString "NoText"), PyData.bool b7]] : List PyData) = (names7.zip [b1, b2, b3, b4, b5, b6, b7]).map fun p => .tuple [.str p.1, .bool p.2] := rfl
  have hl : (names7.zip [b1, b2, b3, b4, b5, b6, b7]).length = 7 := rfl
  rw [el]
  unfold kindB at h
  generalize names7.zip [b1, b2, b3, b4, b5, b6, b7] = ps at h hl ⊢
  unfold ds_kind1
  simp_arith [20, k1]
  refine dLc_ind (fun k acc ρ => ρ = [.io (cauC a d z), .fz (.list (ps.map fun p => .tuple [.str p.1, .bool p.2])), .no, .no] ∧ acc = ((ps.take k).filter (·.2)).map fun p => PyData.str p.1) ⟨rfl, rfl⟩ ?_ ?_
  · rintro acc ρ ⟨rfl, rfl⟩
    have et : ps.take (ps.map fun p => PyData.tuple [.str p.1, .bool p.2]).length = ps := by rw [List.length_map, List.take_length]
    refine ⟨_, rfl, z, rfl, ⟨_, rfl, z, rfl⟩, true, kv, by omega, ?_, (by show 1 ≤ 4; decide), ?_⟩
    · have := List.length_filter_le (fun p : Str × Bool => p.2) ps
      rw [et, List.length_map]; show _ + 2 ≤ _; omega
    · rw [et]; exact h
  · rintro k x acc ρ N hk ⟨rfl, rfl⟩ hN
    rw [List.getElem?_map] at hk
    cases e : ps[k]? with
    | none => rw [e] at hk; cases hk
    | some p =>
      rw [e] at hk
      cases hk
      have hle := List.length_filter_le (fun p : Str × Bool => p.2) (ps.take k)
      have htk := List.length_take (i := k) (l := ps)
      have e3 : ps.take (k + 1) = ps.take k ++ [p] := by rw [List.take_add_one, e]; rfl
      have w := hN ((((ps.take (k + 1)).filter (·.2)).map fun p => PyData.str p.1)) [.io (cauC a d z), .fz (.list (ps.map fun p => .tuple [.str p.1, .bool p.2])), .no, .no] ⟨rfl, rfl⟩
      rw [e3, List.filter_append, List.map_append] at w
      simp_arith [20]
      obtain ⟨s, b⟩ := p
      cases b with
      | true => exact ⟨by rw [List.length_map]; omega, w⟩
      | false =>
        rw [List.filter_cons_of_neg Bool.false_ne_true, List.filter_nil, List.map_nil, List.append_nil] at w
        exact w
/-! ### signs, parts, spoilt texts -/
/-- the odd texts -/
def OddS (ys : List Str) : Prop := 1 ≤ ys.length ∧ ys.length ≤ 100 ∧ ∀ y ∈ ys, y.length ≤ 100
def g_sign : GSp := fun args Q _ => ∃ (c : Cell) (u : Int), args = [.io c] ∧ TrayS u c ∧ u < 2 ^ 38 ∧ ∀ s c' r, TrayS (u + 2) c' → Q (.fz (.str (mkS [s]))) (.io c' :: r)
theorem len_sign : ∀ args Q E, g_sign args Q E → args.length = ["tray"].length := by
  rintro args Q E ⟨c, u, rfl, _⟩
  rfl
def ds_sign (dx : DX) : DS :=
  dSeq (dIf (dTest (dOp gEq (dCallR g_draw 0 dx (dCons (dC (.int 2)) dNil)) (dC (.int 0)))) (dSeq (dAsg (dC (.str "0123456789 -:,.abcdefirstondh")) (dgName 1))
  (dRet (dOp gIx (dVar 1) (dCallR g_draw 0 dx (dCons (dCa gLen (dCons (dVar 1) dNil)) dNil))))) dNext)
  (dSeq (dAsg (dC (.str " !\"#$&'()*+,-./0123456789:;<=>?@ABCDEFGHIJKLMNOPQRSTUVWXYZ[\\]^_`")) (dgName 1))
  (dSeq (dAsg (dOp gAdd (dVar 1) (dC (.str "abcdefghijklmnopqrstuvwxyz{|}~"))) (dgName 1))
  (dRet (dOp gIx (dVar 1) (dCallR g_draw 0 dx (dCons (dCa gLen (dCons (dVar 1) dNil)) dNil))))))
theorem do_sign (args : List Slot) (Q : Slot → List Slot → Prop) (Eg : Addr → D → List Slot → Prop) (h : g_sign args Q Eg) : ds_sign (bodyDX 1 Eg) (bodyEnds 1 Q) (bodyEnv 1 2 args) := by
  obtain ⟨c, u, rfl, hc, hu, hq⟩ := h
  have hsz : sizeLine = 16777216 := sizeLine_eq
  unfold ds_sign
  obtain ⟨l1, e1, n1, m1⟩ : ∃ l : List Nat, ("0123456789 -:,.abcdefirstondh" : Str) = mkS l ∧ 0 < l.length ∧ l.length < 1000 := ⟨_, rfl, by decide +kernel, by decide +kernel⟩
  obtain ⟨l2, e2, n2, m2⟩ : ∃ l : List Nat, (" !\"#$&'()*+,-./0123456789:;<=>?@ABCDEFGHIJKLMNOPQRSTUVWXYZ[\\]^_`" : Str) = mkS l ∧ 0 < l.length ∧ l.length < 1000 := ⟨_, rfl, by decide +kernel, by decide +kernel⟩
  obtain ⟨l3, e3, n3, m3⟩ : ∃ l : List Nat, ("abcdefghijklmnopqrstuvwxyz{|}~" : Str) = mkS l ∧ 0 < l.length ∧ l.length < 1000 := ⟨_, rfl, by decide +kernel, by decide +kernel⟩
  rw [e1, e2, e3]
  simp_arith [20]
  refine draw_ok hc (by omega) (by omega) (by omega) fun v1 c1 hv1 hw1 hc1 r => ?_
  simp_arith [20, mkS_len, mkS_app]
  have hc1' : TrayS (u + 1) c1 := hc1
  by_cases e : v1 = 0
  · rw [decide_eq_true e]
    refine ⟨by omega, draw_ok hc1' (by omega) (by omega) (by omega) fun v2 c2 hv2 hw2 hc2 r => ?_⟩
    obtain ⟨s, _, es⟩ := atI_mem (xs := l1) hv2 hw2
    simp_arith [20, mkS_list, es]
    exact ⟨by omega, hq s c2 _ (hc2.mono (by omega))⟩
  · rw [decide_eq_false e]
    have hl : (l2 ++ l3).length < 2000 := by rw [List.length_append]; omega
    have hl0 : 0 < (l2 ++ l3).length := by rw [List.length_append]; omega
    refine ⟨by omega, by omega, draw_ok hc1' (by omega) (by omega) (by omega) fun v2 c2 hv2 hw2 hc2 r => ?_⟩
    obtain ⟨s, _, es⟩ := atI_mem (xs := l2 ++ l3) hv2 hw2
    simp_arith [20, mkS_list, es]
    exact ⟨by omega, hq s c2 _ (hc2.mono (by omega))⟩
theorem strD_len (ys : List Str) : (strD ys).length = ys.length := List.length_map _
theorem strsOf_strD : ∀ ys : List Str, strsOf (strD ys) = some ys
  | [] => rfl
  | y :: ys => by
    have := strsOf_strD ys
    show strsOf (.str y :: strD ys) = _
    unfold strsOf
    rw [this]
    rfl
theorem strD_get {ys : List Str} {i : Nat} {y : Str} (h : ys[i]? = some y) : (strD ys)[i]? = some (.str y) := by unfold strD; rw [List.getElem?_map, h]; rfl
theorem strD_take (ys : List Str) (n : Nat) : (strD ys).take n = strD (ys.take n) := (List.map_take).symm
theorem strD_drop (ys : List Str) (n : Nat) : (strD ys).drop n = strD (ys.drop n) := (List.map_drop).symm
theorem strD_app (xs ys : List Str) : strD xs ++ strD ys = strD (xs ++ ys) := (List.map_append).symm
theorem strD_set (ys : List Str) (n : Nat) (y : Str) : (strD ys).set n (.str y) = strD (ys.set n y) := (List.map_set).symm
theorem lens_app (xs ys : List Str) : lens (xs ++ ys) = lens xs + lens ys := by unfold lens; rw [List.map_append, List.sum_append]
theorem lens_take (ys : List Str) (n : Nat) : lens (ys.take n) + lens (ys.drop n) = lens ys := by rw [← lens_app, List.take_append_drop]
theorem lens_set : ∀ (ys : List Str) (n : Nat) (y : Str), lens (ys.set n y) ≤ lens ys + y.length
  | [], _, _ => by simp [lens]
  | x :: ys, 0, y => by simp only [List.set, lens, List.map_cons, List.sum_cons]; omega
  | x :: ys, n + 1, y => by
    have := lens_set ys n y
    simp only [List.set, lens, List.map_cons, List.sum_cons] at this ⊢
    omega
theorem lens_mem : ∀ {ys : List Str} {y : Str}, y ∈ ys → y.length ≤ lens ys
  | x :: ys, y, h => by
    simp only [lens, List.map_cons, List.sum_cons]
    rcases List.mem_cons.mp h with z | z
    · rw [z]; omega
    · have := lens_mem z
      unfold lens at this
      omega
def g_parts_spoilt : GSp := fun args Q _ => ∃ (c : Cell) (u : Int) (x : Str) (odd : List Str), args = [.io c, .fz (.str x), .fz (.list (strD odd))] ∧ TrayS u c ∧ u < 2 ^ 38 ∧ OddS odd ∧ x.length ≤ 10000 ∧
  ∀ y c' r, y.length ≤ 3 * x.length + 200 → TrayS (u + 10) c' → Q (.fz (.str y)) (.io c' :: r)
theorem len_parts_spoilt : ∀ args Q E, g_parts_spoilt args Q E → args.length = ["tray", "line", "odd"].length := by
  rintro args Q E ⟨c, u, x, odd, rfl, _⟩
  rfl
def ds_ps3 : DS := dRet (dMtT "str" gJoin (dVar 3) (dCons (dVar 4) dNil))
def ds_ps2 (dx : DX) : DS :=
  (dSeq (dIf (dTest (dOp gEq (dVar 7) (dC (.int 0)))) (dAsg (dOp gAdd (dSl (dVar 4) doNone (doSome (dVar 5))) (dSl (dVar 4) (doSome (dOp gAdd (dVar 5) (dC (.int 1)))) doNone)) (dgName 4)) (dIf (dTest (dOp gEq (dVar 7) (dC (.int 1)))) (dAsg (dOp gAdd (dOp gAdd (dSl (dVar 4) doNone (doSome (dVar 5))) (dSl (dVar 4) (doSome (dVar 5)) (doSome (dOp gAdd (dVar 5) (dC (.int 1)))))) (dSl (dVar 4) (doSome (dVar 5)) doNone)) (dgName 4)) (dIf (dTest (dOp gEq (dVar 7) (dC (.int 2)))) (dAsg (dTup (dCons (dIxV 4 (dVar 6)) (dCons (dIxV 4 (dVar 5)) dNil))) (dgTup 2 (dgCons (dgIx 4 (dVar 5)) (dgCons (dgIx 4 (dVar 6)) dgNil)))) (dSetIx 4 (dVar 5) (dOp gIx (dVar 2) (dCallR g_draw 0 dx (dCons (dCa gLen (dCons (dVar 2) dNil)) dNil)))))))
  ds_ps3)
def ds_ps1 (dx : DX) : DS :=
  (dSeq (dAsg (dCallR g_draw 0 dx (dCons (dLenV 4) dNil)) (dgName 5))
  (dSeq (dAsg (dCallR g_draw 0 dx (dCons (dLenV 4) dNil)) (dgName 6))
  (dSeq (dAsg (dCallR g_draw 0 dx (dCons (dC (.int 5)) dNil)) (dgName 7))
  (ds_ps2 dx))))
def ds_parts_spoilt (dx : DX) : DS :=
  dSeq (dAsg (dOp gIx (dFrz (dLstN (dCons (dC (.str " ")) (dCons (dC (.str ".")) (dCons (dC (.str ", ")) (dCons (dC (.str ": ")) dNil)))))) (dCallR g_draw 0 dx (dCons (dC (.int 4)) dNil))) (dgName 3))
  (dSeq (dSetN 4 (dSplitN (dVar 1) (dVar 3)))
  (ds_ps1 dx))
theorem do_parts_spoilt (args : List Slot) (Q : Slot → List Slot → Prop) (Eg : Addr → D → List Slot → Prop) (h : g_parts_spoilt args Q Eg) : ds_parts_spoilt (bodyDX 3 Eg) (bodyEnds 3 Q) (bodyEnv 3 8 args) := by
  obtain ⟨c, u, x, odd, rfl, hc, hu, ho, hx, hq⟩ := h
  obtain ⟨o1, o2, o3⟩ := ho
  have hsz : sizeLine = 16777216 := sizeLine_eq
  unfold ds_parts_spoilt
  simp_arith [20]
  refine ⟨by omega, draw_ok hc (by omega) (by omega) (by omega) fun v1 c1 hv1 hw1 hc1 r => ?_⟩
  obtain ⟨jt, ej, j1, j2⟩ : ∃ jt : Str, L2.atI [PyData.str (Str.ofString " "), .str (Str.ofString "."), .str (Str.ofString ", "), .str (Str.ofString ": ")] v1 = some (.str jt) ∧ 1 ≤ jt.length ∧ jt.length ≤ 2 := by
    have h4 : v1 = 0 ∨ v1 = 1 ∨ v1 = 2 ∨ v1 = 3 := by omega
    rcases h4 with z | z | z | z <;> subst z
    · exact ⟨_, atI_0, by decide +kernel, by decide +kernel⟩
    · exact ⟨_, atI_1, by decide +kernel, by decide +kernel⟩
    · exact ⟨_, atI_2, by decide +kernel, by decide +kernel⟩
    · exact ⟨_, atI_3, by decide +kernel, by decide +kernel⟩
  simp_arith [20, ej]
  have hs1 := PyProof.Rows.fact_split x jt
  have hs2 := split_lens x jt
  generalize Txt.split x jt = ys at hs1 hs2 ⊢
  refine ⟨beq_eq_false_iff_ne.mpr (by omega), by omega, ?_⟩
  have hyl : ys.length ≤ x.length + 1 := by
    have : (ys.length - 1) * 1 ≤ (ys.length - 1) * jt.length := Nat.mul_le_mul_left _ j1
    omega
  have fin : ∀ (c' : Cell) (s4 s5 s6 s7 : Slot) (zs : List Str), (s4 = .fz (.list (strD zs)) ∨ s4 = .ow (.l (strD zs))) → TrayS (u + 10) c' → lens zs + (zs.length - 1) * jt.length ≤ 3 * x.length + 200 → zs.length ≤ 3 * x.length + 200 →
      ds_ps3 { nx := fun ρ => 3 ≤ List.length ρ ∧ Q (Slot.fz PyData.none) (ioOnly (List.take 3 ρ)), rt := fun r ρ => 3 ≤ List.length ρ ∧ Q r (ioOnly (List.take 3 ρ)), bk := fun x => False, ct := fun x => False } [.io c', .fz (.str x), .fz (.list (strD odd)), .fz (.str jt), s4, s5, s6, s7] := fun c' s4 s5 s6 s7 zs h4 hc' hb hz => by
    have hj := join_lens jt zs
    have hm : zs.length * jt.length ≤ zs.length * 2 := Nat.mul_le_mul_left _ j2
    have hlz : lens zs ≤ 3 * x.length + 200 := Nat.le_trans (Nat.le_add_right _ _) hb
    unfold ds_ps3
    rcases h4 with z | z <;> subst z
    · simp_arith [20, gJoin, strsOf_strD]
      exact ⟨by show lens zs + _ ≤ _; omega, hq _ c' _ (by omega) hc'⟩
    · simp_arith [20, gJoin, strsOf_strD]
      exact ⟨by show lens zs + _ ≤ _; omega, hq _ c' _ (by omega) hc'⟩
  unfold ds_ps1
  simp_arith [20, strD_len]
  refine draw_ok hc1 (by omega) (by omega) (by omega) fun v2 c2 hv2 hw2 hc2 r => ?_
  simp_arith [20, strD_len]
  refine draw_ok hc2 (by omega) (by omega) (by omega) fun v3 c3 hv3 hw3 hc3 r => ?_
  simp_arith [20, strD_len]
  refine draw_ok hc3 (by omega) (by omega) (by omega) fun v4 c4 hv4 hw4 hc4 r => ?_
  simp_arith [20]
  obtain ⟨i, rfl⟩ : ∃ i : Nat, v2 = i := ⟨v2.toNat, by omega⟩
  obtain ⟨j, rfl⟩ : ∃ j : Nat, v3 = j := ⟨v3.toNat, by omega⟩
  have hi : i < ys.length := by omega
  have hj : j < ys.length := by omega
  unfold ds_ps2
  simp_arith [20]
  have hi0 : (0 : Int) ≤ (i : Int) := by omega
  have hi1 : (0 : Int) ≤ (i : Int) + 1 := by omega
  have e1 : ((i : Int) + 1).toNat = i + 1 := by omega
  have lt := lens_take ys i
  have lt1 := lens_take ys (i + 1)
  have nx0 : lens ys ≤ x.length := Nat.le_trans (Nat.le_add_right _ _) (Nat.le_of_eq hs2)
  have mul1 : ∀ n : Nat, n ≤ ys.length + 1 → (n - 1) * jt.length ≤ (ys.length - 1) * jt.length + jt.length := fun n hn => by
    have : (n - 1) * jt.length ≤ (ys.length - 1 + 1) * jt.length := Nat.mul_le_mul_right _ (by omega)
    rw [Nat.add_mul, Nat.one_mul] at this
    exact this
  have mid : cutX (strD ys) (some (i : Int)) (some ((i : Int) + 1)) = strD ((ys.drop i).take 1) := by
    unfold cutX
    rw [sIx_pos hi0, sIx_pos hi1, e1, strD_len, Int.toNat_natCast, Nat.min_eq_left (by omega), Nat.min_eq_left (by omega), Nat.add_sub_cancel_left, strD_drop, strD_take]
  have tl0 : cutX (strD ys) (some (i : Int)) none = strD (ys.drop i) := by rw [cutX_tlT hi0, Int.toNat_natCast, strD_drop]
  have tl1 : cutX (strD ys) (some ((i : Int) + 1)) none = strD (ys.drop (i + 1)) := by rw [cutX_tlT hi1, e1, strD_drop]
  have hd0 : cutX (strD ys) none (some (i : Int)) = strD (ys.take i) := by rw [cutX_head hi0, Int.toNat_natCast, strD_take]
  have lenT : (ys.take i).length = i := by rw [List.length_take]; omega
  have lenD : (ys.drop i).length = ys.length - i := List.length_drop
  have lenE : (ys.drop (i + 1)).length = ys.length - (i + 1) := List.length_drop
  have v : v4 = 0 ∨ v4 = 1 ∨ v4 = 2 ∨ v4 = 3 ∨ v4 = 4 := by omega
  have two : ∀ w : Int, (w = 3 ∨ w = 4) → v4 = w → v4 ≠ 0 ∧ v4 ≠ 1 ∧ v4 ≠ 2 := fun w h e => by omega
  by_cases w0 : v4 = 0
  · rw [decide_eq_true w0, hd0, tl1]
    show _ ∧ _
    rw [strD_len, strD_len, strD_app]
    refine ⟨by omega, fin c4 _ _ _ _ (ys.take i ++ ys.drop (i + 1)) (.inl rfl) (hc4.mono (by omega)) ?_ ?_⟩
    · rw [lens_app, List.length_append]
      have := mul1 ((ys.take i).length + (ys.drop (i + 1)).length) (by omega)
      have : lens (ys.drop (i + 1)) ≤ lens ys := by omega
      omega
    · rw [List.length_append]; omega
  · rw [decide_eq_false w0]
    by_cases w1 : v4 = 1
    · rw [decide_eq_true w1, hd0, mid, tl0]
      show _ ∧ _
      have l1 : ((ys.drop i).take 1).length ≤ 1 := by rw [List.length_take]; omega
      have s1 := lens_take (ys.drop i) 1
      rw [strD_len, strD_len, strD_app, strD_len, strD_len, strD_app]
      refine ⟨by omega, by rw [List.length_append]; omega, fin c4 _ _ _ _ (ys.take i ++ (ys.drop i).take 1 ++ ys.drop i) (.inl rfl) (hc4.mono (by omega)) ?_ ?_⟩
      · rw [lens_app, lens_app, List.length_append, List.length_append]
        have := mul1 ((ys.take i).length + ((ys.drop i).take 1).length + (ys.drop i).length) (by omega)
        omega
      · rw [List.length_append, List.length_append]; omega
    · rw [decide_eq_false w1]
      by_cases w2 : v4 = 2
      · rw [decide_eq_true w2]
        have gi : ys[i]? = some ys[i] := List.getElem?_eq_getElem hi
        have gj : ys[j]? = some ys[j] := List.getElem?_eq_getElem hj
        refine ⟨.str ys[j], atI_nat (strD_get gj), .str ys[i], atI_nat (strD_get gi), by omega, i, by rw [strD_len]; exact ixN_nat hi, j, by rw [strD_set, strD_len, List.length_set]; exact ixN_nat hj, ?_⟩
        rw [strD_set, strD_set]
        have b1 := lens_set ys i ys[j]
        have b2 := lens_set (ys.set i ys[j]) j ys[i]
        have m1 := lens_mem (List.getElem_mem hi)
        have m2 := lens_mem (List.getElem_mem hj)
        refine fin c4 _ _ _ _ ((ys.set i ys[j]).set j ys[i]) (.inr rfl) (hc4.mono (by omega)) ?_ ?_
        · rw [List.length_set, List.length_set]; omega
        · rw [List.length_set, List.length_set]; omega
      · rw [decide_eq_false w2]
        rw [strD_len odd]
        refine draw_ok hc4 (by omega) (by omega) (by omega) fun v5 c5 hv5 hw5 hc5 r => ?_
        obtain ⟨k, rfl⟩ : ∃ k : Nat, v5 = k := ⟨v5.toNat, by omega⟩
        have hk : k < odd.length := by omega
        have gk : odd[k]? = some odd[k] := List.getElem?_eq_getElem hk
        simp_arith [20, atI_nat (strD_get gk), strD_len, ixN_nat hi]
        rw [strD_set]
        have b1 := lens_set ys i odd[k]
        have b2 := o3 _ (List.getElem_mem hk)
        refine fin c5 _ _ _ _ (ys.set i odd[k]) (.inr rfl) (hc5.mono (by omega)) ?_ ?_
        · rw [List.length_set]; omega
        · rw [List.length_set]; omega

/-! K53b: texts spoilt, numbers read -/
open PySem L2
def g_spoilt : GSp := fun args Q _ => ∃ (c : Cell) (u : Int) (x : Str) (odd : List Str), args = [.io c, .fz (.str x), .fz (.list (strD odd))] ∧ TrayS u c ∧ u < 2 ^ 37 ∧ OddS odd ∧ x.length ≤ 10000 ∧
  ∀ y c' r, y.length ≤ 3 * x.length + 200 → TrayS (u + 20) c' → Q (.fz (.str y)) (.io c' :: r)
theorem len_spoilt : ∀ args Q E, g_spoilt args Q E → args.length = ["tray", "line", "odd"].length := by
  rintro args Q E ⟨c, u, x, odd, rfl, _⟩
  rfl
def ds_sp1 (dx : DX) : DS :=
  (dSeq (dIf (dTest (dOp gEq (dVar 3) (dC (.int 0)))) (dRet (dOp gAdd (dOp gAdd (dSl (dVar 1) doNone (doSome (dVar 4))) (dCallR g_sign 0 dx dNil)) (dSl (dVar 1) (doSome (dVar 4)) doNone))) dNext)
  (dSeq (dIf (dTest (dOp gEq (dVar 3) (dC (.int 1)))) (dRet (dOp gAdd (dSl (dVar 1) doNone (doSome (dVar 4))) (dSl (dVar 1) (doSome (dOp gAdd (dVar 4) (dC (.int 1)))) doNone))) dNext)
  (dSeq (dIf (dTest (dOp gEq (dVar 3) (dC (.int 2)))) (dRet (dOp gAdd (dOp gAdd (dSl (dVar 1) doNone (doSome (dVar 4))) (dCallR g_sign 0 dx dNil)) (dSl (dVar 1) (doSome (dOp gAdd (dVar 4) (dC (.int 1)))) doNone))) dNext)
  (dRet (dCallR g_parts_spoilt 0 dx (dCons (dVar 1) (dCons (dVar 2) dNil)))))))
def ds_spoilt (dx : DX) : DS :=
  dSeq (dAsg (dCallR g_draw 0 dx (dCons (dC (.int 6)) dNil)) (dgName 3))
  (dSeq (dAsg (dCallR g_draw 0 dx (dCons (dOp gAdd (dCa gLen (dCons (dVar 1) dNil)) (dC (.int 1))) dNil)) (dgName 4))
  (ds_sp1 dx))
theorem do_spoilt (args : List Slot) (Q : Slot → List Slot → Prop) (Eg : Addr → D → List Slot → Prop) (h : g_spoilt args Q Eg) : ds_spoilt (bodyDX 3 Eg) (bodyEnds 3 Q) (bodyEnv 3 5 args) := by
  obtain ⟨c, u, x, odd, rfl, hc, hu, ho, hx, hq⟩ := h
  have hsz : sizeLine = 16777216 := sizeLine_eq
  obtain ⟨l, rfl⟩ : ∃ l, x = mkS l := ⟨_, mkS_of x⟩
  rw [mkS_len] at hx hq
  unfold ds_spoilt
  simp_arith [20, mkS_len]
  refine draw_ok hc (by omega) (by omega) (by omega) fun v1 c1 hv1 hw1 hc1 r => ?_
  simp_arith [20, mkS_len]
  refine ⟨by omega, draw_ok hc1 (by omega) (by omega) (by omega) fun v2 c2 hv2 hw2 hc2 r => ?_⟩
  obtain ⟨i, rfl⟩ : ∃ i : Nat, v2 = i := ⟨v2.toNat, by omega⟩
  have hi : i ≤ l.length := by omega
  have hi0 : (0 : Int) ≤ (i : Int) := by omega
  have hi1 : (0 : Int) ≤ (i : Int) + 1 := by omega
  have e1 : ((i : Int) + 1).toNat = i + 1 := by omega
  have lt : (l.take i).length ≤ l.length := by rw [List.length_take]; omega
  have ld : (l.drop i).length ≤ l.length := by rw [List.length_drop]; omega
  have le : (l.drop (i + 1)).length ≤ l.length := by rw [List.length_drop]; omega
  simp_arith [20]
  unfold ds_sp1
  simp_arith [20, mkS_head hi0, mkS_tail hi0, mkS_tail hi1, e1, Int.toNat_natCast, mkS_len, mkS_app]
  by_cases w0 : v1 = 0
  · rw [decide_eq_true w0]
    refine ⟨by omega, c2, _, rfl, hc2, by omega, fun s c3 r hc3 => ?_⟩
    simp_arith [20, mkS_len, mkS_app]
    refine ⟨by show _ + 1 ≤ _; omega, by omega, by rw [List.length_append]; show _ + 1 + _ ≤ _; omega, hq _ c3 _ ?_ (hc3.mono (by omega))⟩
    rw [mkS_len, List.length_append, List.length_append]; show _ + 1 + _ ≤ _; omega
  · rw [decide_eq_false w0]
    by_cases w1 : v1 = 1
    · rw [decide_eq_true w1]
      exact ⟨by omega, by omega, by omega, hq _ c2 _ (by rw [mkS_len, List.length_append]; omega) (hc2.mono (by omega))⟩
    · rw [decide_eq_false w1]
      by_cases w2 : v1 = 2
      · rw [decide_eq_true w2]
        refine ⟨by omega, c2, _, rfl, hc2, by omega, fun s c3 r hc3 => ?_⟩
        simp_arith [20, mkS_len, mkS_app]
        refine ⟨by show _ + 1 ≤ _; omega, by omega, by rw [List.length_append]; show _ + 1 + _ ≤ _; omega, hq _ c3 _ ?_ (hc3.mono (by omega))⟩
        rw [mkS_len, List.length_append, List.length_append]; show _ + 1 + _ ≤ _; omega
      · rw [decide_eq_false w2]
        refine ⟨c2, _, mkS l, odd, rfl, hc2, by omega, ho, by rw [mkS_len]; omega, fun y c3 r hy hc3 => ?_⟩
        rw [mkS_len] at hy
        simp_arith [20]
        exact hq y c3 _ hy (hc3.mono (by omega))
def g_odd : GSp := fun args Q _ => args = [] ∧ ∀ ys r, OddS ys → Q (.fz (.list (strD ys))) r
theorem len_odd : ∀ args Q E, g_odd args Q E → args.length = ([] : List Str).length := by
  rintro args Q E ⟨rfl, _⟩
  rfl
def oddL : List Str := ["", "-", "a", "ab", "g", "A", "aa", "first", "second", "other", "First", "0", "1", "01", "-1", "00", "+1", repS "9" 60, repS "9" 61, "1_0", "ab first", "aa other", "ba second", "a b: -", "a b: ab first", "0.0 first", " ", "a b:", "a b: ", "0.0 other", "3.4", "x"]
theorem odd_ok : OddS oddL := ⟨by decide, by decide, by
  have : (oddL.all fun y => decide (y.length ≤ 100)) = true := by decide +kernel
  exact fun y hy => of_decide_eq_true (List.all_eq_true.mp this y hy)⟩
def ds_odd (dx : DX) : DS :=
  dSeq (dAsg (dFrz (dLstN (dCons (dC (.str "")) (dCons (dC (.str "-")) (dCons (dC (.str "a")) (dCons (dC (.str "ab")) (dCons (dC (.str "g")) (dCons (dC (.str "A")) (dCons (dC (.str "aa")) (dCons (dC (.str "first")) (dCons (dC (.str "second")) (dCons (dC (.str "other")) (dCons (dC (.str "First")) (dCons (dC (.str "0")) (dCons (dC (.str "1")) (dCons (dC (.str "01")) (dCons (dC (.str "-1")) (dCons (dC (.str "00")) (dCons (dC (.str "+1")) dNil))))))))))))))))))) (dgName 0))
  (dSeq (dAsg (dOp gAdd (dVar 0) (dFrz (dLstN (dCons (dOp gMulA (dC (.str "9")) (dC (.int 60))) (dCons (dOp gMulA (dC (.str "9")) (dC (.int 61))) (dCons (dC (.str "1_0")) (dCons (dC (.str "ab first")) (dCons (dC (.str "aa other")) (dCons (dC (.str "ba second")) (dCons (dC (.str "a b: -")) (dCons (dC (.str "a b: ab first")) dNil))))))))))) (dgName 0))
  (dRet (dOp gAdd (dVar 0) (dFrz (dLstN (dCons (dC (.str "0.0 first")) (dCons (dC (.str " ")) (dCons (dC (.str "a b:")) (dCons (dC (.str "a b: ")) (dCons (dC (.str "0.0 other")) (dCons (dC (.str "3.4")) (dCons (dC (.str "x")) dNil))))))))))))
theorem do_odd (args : List Slot) (Q : Slot → List Slot → Prop) (Eg : Addr → D → List Slot → Prop) (h : g_odd args Q Eg) : ds_odd (bodyDX 0 Eg) (bodyEnds 0 Q) (bodyEnv 0 1 args) := by
  obtain ⟨rfl, hq⟩ := h
  have hsz : sizeLine = 16777216 := sizeLine_eq
  unfold ds_odd
  simp_arith [20]
  have l9 : (Str.ofString "9").length = 1 := by decide +kernel
  refine ⟨by omega, by omega, by omega, by omega, by omega, by omega, by omega, by omega, by omega, by omega, by omega, ?_⟩
  exact hq oddL _ odd_ok
/-! numbers read in any text -/
theorem num_intF {l : List Nat} (h : isNumL l = true) : intText? (mkS l) = some ((NumText.digitsVal l : Nat) : Int) := by
  unfold isNumL at h
  simp only [Bool.and_eq_true, decide_eq_true_eq] at h
  refine intText_digits (x := mkS l) (fun c hc => ?_) (fun z => ?_) (by rw [mkS_len]; omega)
  · have := h.1.2
    unfold isFig at this
    exact of_decide_eq_true (List.all_eq_true.mp this c hc)
  · have z : l = [] := z
    rw [z] at h
    exact absurd h.1.1.1 (by decide)
theorem depth_strL : ∀ l : List Nat, PyData.plainAll (l.map fun c => PyData.str ⟨#[c]⟩) = true ∧ PyData.depthAll (l.map fun c => PyData.str ⟨#[c]⟩) ≤ 1
  | [] => ⟨rfl, Nat.zero_le _⟩
  | c :: l => by
    have := depth_strL l
    rw [List.map_cons]
    constructor
    · unfold PyData.plainAll
      rw [this.1]
      rfl
    · unfold PyData.depthAll
      have h : (PyData.str ⟨#[c]⟩).depth ≤ 1 := by simp [PyData.depth]
      exact Nat.max_le.mpr ⟨h, this.2⟩
theorem okD_strL (l : List Nat) : okD (.list (l.map fun c => .str ⟨#[c]⟩)) = true := by
  unfold okD
  rw [Bool.and_eq_true]
  have h := depth_strL l
  exact ⟨by rw [PyData.plain]; exact h.1, decide_eq_true (by rw [PyData.depth]; omega)⟩
def g_number_of : GSp := fun args Q _ => ∃ l : List Nat, args = [.fz (.str (mkS l))] ∧ l.length ≤ 5000 ∧ ∀ r, Q (.fz (if isNumL l = true then .int ((NumText.digitsVal l : Nat) : Int) else .none)) r
theorem len_number_of : ∀ args Q E, g_number_of args Q E → args.length = ["word"].length := by
  rintro args Q E ⟨l, rfl, _⟩
  rfl
def ds_number_of (dx : DX) : DS :=
  dSeq (dIf (dOr (dTest (dOp gEq (dVar 0) (dC (.str "")))) (dOr (dTest (dOp fGt (dCa gLen (dCons (dVar 0) dNil)) (dC (.int 60)))) (dTest (dOp gNe (dFrz (dLc (diStr (dVar 0)) (dgName 1) (dTest (dOp (gIn (fun k => !k)) (dVar 1) (dC (.str "0123456789")))) (dVar 1) [1])) (dFrz (dLstN dNil)))))) (dRet (dC .none)) dNext)
  (dRet (dIfE (dOr (dTest (dOp gNe (dOp gIx (dVar 0) (dC (.int 0))) (dC (.str "0")))) (dTest (dOp gEq (dVar 0) (dC (.str "0"))))) (dCa gIntS (dCons (dVar 0) dNil)) (dC .none)))
theorem do_number_of (args : List Slot) (Q : Slot → List Slot → Prop) (Eg : Addr → D → List Slot → Prop) (h : g_number_of args Q Eg) : ds_number_of (bodyDX 1 Eg) (bodyEnds 1 Q) (bodyEnv 1 2 args) := by
  obtain ⟨l, rfl, hl, hq⟩ := h
  have hsz : sizeLine = 16777216 := sizeLine_eq
  unfold ds_number_of
  rw [s_digits, s_nought, show ("" : Str) = mkS [] from rfl]
  simp_arith [20, mkS_len, mkS_inj]
  cases l with
  | nil =>
    have := hq [.no]
    exact this
  | cons c0 l0 =>
  have hne : ¬ (c0 :: l0 = ([] : List Nat)) := by simp
  rw [decide_eq_false hne]
  refine ⟨by omega, ?_⟩
  by_cases h60 : (c0 :: l0).length ≤ 60
  · rw [decide_eq_false (by omega : ¬ (60 : Int) < ((c0 :: l0).length : Int))]
    try dsimp only
    have hf : ∀ k, (((c0 :: l0).take k).filter fun c => !decide (48 ≤ c ∧ c ≤ 57)).length ≤ 60 := fun k => by
      have a := List.length_filter_le (fun c : Nat => !decide (48 ≤ c ∧ c ≤ 57)) ((c0 :: l0).take k)
      rw [List.length_take] at a
      omega
    refine dLc_ind (fun k acc ρ => ρ = [.fz (.str (mkS (c0 :: l0))), .no] ∧ acc = (((c0 :: l0).take k).filter fun c => !decide (48 ≤ c ∧ c ≤ 57)).map fun c => .str ⟨#[c]⟩) ⟨rfl, rfl⟩ ?_ ?_
    · rintro acc ρ ⟨rfl, rfl⟩
      rw [signs_len, List.take_length]
      cases ef : (c0 :: l0).filter fun c => !decide (48 ≤ c ∧ c ≤ 57) with
      | cons z zs =>
        refine ⟨by omega, okD_strL _, rfl, ?_⟩
        have e1 : (PyData.list ((z :: zs).map fun c => .str ⟨#[c]⟩)).eqv (.list []) = false := rfl
        rw [e1]
        have := hq [.no]
        have en : isNumL (c0 :: l0) = false := by
          have hz : z ∈ (c0 :: l0).filter fun c => !decide (48 ≤ c ∧ c ≤ 57) := by rw [ef]; exact List.mem_cons_self
          obtain ⟨h1, h2⟩ := List.mem_filter.mp hz
          have : isFig (c0 :: l0) = false := by
            cases e : isFig (c0 :: l0) with
            | false => rfl
            | true =>
              have := List.all_eq_true.mp e z h1
              rw [this] at h2
              exact absurd h2 (by decide)
          unfold isNumL
          rw [this, Bool.and_false, Bool.false_and]
        rw [en] at this
        exact ⟨Nat.le_succ 1, this⟩
      | nil =>
        refine ⟨by omega, rfl, rfl, ?_⟩
        have efig : isFig (c0 :: l0) = true := by
          unfold isFig
          rw [List.all_eq_true]
          intro c hc
          have := List.filter_eq_nil_iff.mp ef c hc
          simpa using this
        simp_arith [20, mkS_inj, mkS_list]
        have e1 : (PyData.list []).eqv (.list []) = true := rfl
        rw [e1]
        try dsimp only [Bool.not_true]
        have := hq [.no]
        have en : isNumL (c0 :: l0) = (decide (c0 :: l0 = [48]) || decide (c0 ≠ 48)) := by
          unfold isNumL
          rw [efig, decide_eq_true (⟨by simp, h60⟩ : 0 < (c0 :: l0).length ∧ (c0 :: l0).length ≤ 60), Bool.true_and, Bool.true_and]
          rfl
        have ez : decide ((⟨#[c0]⟩ : Str) = mkS [48]) = decide (c0 = 48) := by
          show decide (mkS [c0] = mkS [48]) = _
          refine decide_eq_decide.mpr ⟨fun h => by rw [mkS_inj] at h; simpa using h, fun h => by rw [h]⟩
        rw [ez, mkS_len]
        refine ⟨by omega, ?_⟩
        by_cases hn : isNumL (c0 :: l0) = true
        · rw [if_pos hn] at this
          rw [hn] at en
          have fin : ∃ n, intText? (mkS (c0 :: l0)) = some n ∧ (c0 :: l0).length ≤ 640 ∧ Q (Slot.fz (PyData.int n)) [Slot.no] := ⟨_, num_intF hn, by omega, this⟩
          by_cases h48 : c0 = 48
          · rw [decide_eq_false (fun h : c0 ≠ 48 => h h48), Bool.or_false] at en
            rw [decide_eq_true h48, ← en]
            exact fin
          · rw [decide_eq_false h48]
            exact fin
        · rw [if_neg hn] at this
          rw [eq_false_of_ne_true hn] at en
          by_cases h48 : c0 = 48
          · rw [decide_eq_false (fun h : c0 ≠ 48 => h h48), Bool.or_false] at en
            rw [decide_eq_true h48, ← en]
            exact this
          · rw [decide_eq_true (h48 : c0 ≠ 48), Bool.or_true] at en
            exact absurd en (by decide)
    · rintro k x acc ρ N hk ⟨rfl, rfl⟩ hN
      rw [signs_mkS, List.getElem?_map] at hk
      cases e : (c0 :: l0)[k]? with
      | none => rw [e] at hk; cases hk
      | some c =>
        rw [e] at hk
        cases hk
        have hlen := hf k
        have e3 : (c0 :: l0).take (k + 1) = (c0 :: l0).take k ++ [c] := by rw [List.take_add_one, e]; rfl
        have w := hN _ _ ⟨rfl, rfl⟩
        rw [e3, List.filter_append, List.map_append] at w
        simp_arith [20, mkS_list, fig_mem]
        split
        · next hb =>
          have eb : decide (48 ≤ c ∧ c ≤ 57) = false := (fig_mem c).symm.trans (Bool.not_eq_eq_eq_not.mp hb)
          rw [List.filter_cons_of_pos (by rw [eb]; rfl), List.filter_nil] at w
          exact ⟨by rw [List.length_map]; omega, w⟩
        · next hb =>
          have eb : decide (48 ≤ c ∧ c ≤ 57) = true := (fig_mem c).symm.trans (Bool.not_eq_eq_eq_not.mp hb)
          rw [List.filter_cons_of_neg (by rw [eb]; decide), List.filter_nil, List.map_nil, List.append_nil] at w
          exact w
  · rw [decide_eq_true (by omega : (60 : Int) < ((c0 :: l0).length : Int))]
    try dsimp only
    have := hq [.no]
    have en : isNumL (c0 :: l0) = false := by
      unfold isNumL
      rw [decide_eq_false (by omega : ¬ (0 < (c0 :: l0).length ∧ (c0 :: l0).length ≤ 60)), Bool.false_and, Bool.false_and]
    rw [en] at this
    exact this

/-! K53c: standings read in any text -/
open PySem L2 TL
theorem splitC_le (c : Nat) : ∀ l : List Nat, ∀ p ∈ splitC c l, p.length ≤ l.length
  | [], p, h => by rw [List.mem_singleton.mp h]; exact Nat.le_refl _
  | x :: l, p, h => by
    have ih := splitC_le c l
    unfold splitC at h
    split at h
    · rcases List.mem_cons.mp h with z | z
      · rw [z]; exact Nat.zero_le _
      · exact Nat.le_succ_of_le (ih p z)
    · split at h
      · next e => rw [List.mem_singleton.mp h]; show 1 ≤ _ + 1; omega
      · next hd tl e =>
        rcases List.mem_cons.mp h with z | z
        · have := ih hd (by rw [e]; exact List.mem_cons_self)
          rw [z]
          show _ + 1 ≤ _ + 1
          omega
        · exact Nat.le_succ_of_le (ih p (by rw [e]; exact List.mem_cons_of_mem _ z))
theorem splitC_len (c : Nat) : ∀ l : List Nat, (splitC c l).length ≤ l.length + 1
  | [] => Nat.le_refl _
  | x :: l => by
    have ih := splitC_len c l
    unfold splitC
    split
    · show _ + 1 ≤ _ + 1 + 1; omega
    · split
      · show 1 ≤ _ + 1; omega
      · next e => rw [e] at ih; exact Nat.le_succ_of_le ih
def numD (p : List Nat) : D := if isNumL p = true then .int ((NumText.digitsVal p : Nat) : Int) else .none
/-- the standing that a text writes -/
def stoodD (l : List Nat) : Option D := match splitC 32 l with
  | [a, w] => if w = lateL true ∨ w = lateL false then match splitC 46 a with
    | [i, j] => if isNumL i = true ∧ isNumL j = true then some (.tuple [numD i, numD j, .str (mkS w)]) else none
    | _ => none else none
  | _ => none
def someD (o : Option D) : D := match o with
  | some d => d
  | none => .none
def g_stood_of : GSp := fun args Q _ => ∃ l : List Nat, args = [.fz (.str (mkS l))] ∧ l.length ≤ 5000 ∧ ∀ r, Q (.fz (someD (stoodD l))) r
theorem len_stood_of : ∀ args Q E, g_stood_of args Q E → args.length = ["text"].length := by
  rintro args Q E ⟨l, rfl, _⟩
  rfl
def ds_so3 : DS := dRet (dIfE (dAnd (dTest (dOp gEq (dCa gLen (dCons (dVar 2) dNil)) (dC (.int 2)))) (dTest (dOp (gIn (fun k => !k)) (dC .none) (dVar 2)))) (dTup (dCons (dOp gIx (dVar 2) (dC (.int 0))) (dCons (dOp gIx (dVar 2) (dC (.int 1))) (dCons (dOp gIx (dVar 1) (dC (.int 1))) dNil)))) (dC .none))
def ds_so2 : DS := (dSeq (dSetN 2 (dLc (diList (dMtT "str" gSplit (dOp gIx (dVar 1) (dC (.int 0))) (dCons (dC (.str ".")) dNil))) (dgName 3) dYes (dCall g_number_of [] (fun _ _ _ => False) (dCons (dVar 3) dNil)) [3]))
  ds_so3)
def ds_stood_of (dx : DX) : DS :=
  dSeq (dAsg (dMtT "str" gSplit (dVar 0) (dCons (dC (.str " ")) dNil)) (dgName 1))
  (dSeq (dIf (dOr (dTest (dOp gNe (dCa gLen (dCons (dVar 1) dNil)) (dC (.int 2)))) (dTest (dOp (gIn (fun k => !k)) (dOp gIx (dVar 1) (dC (.int 1))) (dFrz (dLstN (dCons (dC (.str "first")) (dCons (dC (.str "second")) dNil))))))) (dRet (dC .none)) dNext)
  ds_so2)
theorem strD_mk (ps : List (List Nat)) : strD (ps.map mkS) = ps.map fun p => .str (mkS p) := by unfold strD; rw [List.map_map]; rfl
theorem late_any (w : List Nat) : ([PyData.str (Str.ofString "first"), PyData.str (Str.ofString "second")].any fun z => PyData.eqv z (.str (mkS w))) = decide (w = lateL true ∨ w = lateL false) := by
  have e1 : (Str.ofString "first") = mkS (lateL true) := by decide +kernel
  have e2 : (Str.ofString "second") = mkS (lateL false) := by decide +kernel
  rw [e1, e2]
  have h : ∀ a : List Nat, PyData.eqv (.str (mkS a)) (.str (mkS w)) = decide (w = a) := fun a => by
    rw [Bool.eq_iff_iff, decide_eq_true_eq]
    show (mkS a == mkS w) = true ↔ _
    rw [beq_iff_eq, mkS_inj]
    exact eq_comm
  simp only [List.any_cons, List.any_nil, Bool.or_false, h, Bool.decide_or]
theorem do_stood_of (args : List Slot) (Q : Slot → List Slot → Prop) (Eg : Addr → D → List Slot → Prop) (h : g_stood_of args Q Eg) : ds_stood_of (bodyDX 1 Eg) (bodyEnds 1 Q) (bodyEnv 1 4 args) := by
  obtain ⟨l, rfl, hl, hq⟩ := h
  have hsz : sizeLine = 16777216 := sizeLine_eq
  unfold ds_stood_of
  rw [s_blank]
  simp_arith [20, split_one, strD_mk, mkS_len]
  refine ⟨rfl, by omega, ?_⟩
  unfold stoodD at hq
  have hle := splitC_le 32 l
  have hln := splitC_len 32 l
  generalize splitC 32 l = ps at *
  rw [List.length_map]
  have no : ¬ ps.length = 2 → ∀ r, Q (.fz .none) r := fun hn r => by
    have := hq r
    split at this
    · exact absurd rfl hn
    · exact this
  by_cases h2 : ps.length = 2
  · rw [decide_eq_true (by omega : (ps.length : Int) = 2)]
    match ps, h2 with
    | [a, w], _ =>
    have e1 : L2.atI ([a, w].map fun p => PyData.str (mkS p)) 1 = some (.str (mkS w)) := rfl
    rw [e1]
    try dsimp only [Bool.not_true]
    refine ⟨by omega, rfl, by decide +kernel, ?_⟩
    rw [late_any]
    by_cases hw : w = lateL true ∨ w = lateL false
    · rw [decide_eq_true hw]
      try dsimp only [Bool.not_true]
      simp only [if_pos hw] at hq
      have ha : a.length ≤ l.length := hle a List.mem_cons_self
      unfold ds_so2
      rw [s_dot]
      have e0 : L2.atI ([a, w].map fun p => PyData.str (mkS p)) 0 = some (.str (mkS a)) := rfl
      simp_arith [20, e0, split_one, strD_mk, mkS_len]
      refine ⟨rfl, by omega, ?_⟩
      have hpe := splitC_le 46 a
      have hpn := splitC_len 46 a
      generalize splitC 46 a = ps at *
      refine dLc_ind (fun k acc ρ => ρ = [.fz (.str (mkS l)), .fz (.list [.str (mkS a), .str (mkS w)]), .no, .no] ∧ acc = (ps.take k).map numD) ⟨rfl, rfl⟩ ?_ ?_
      · rintro acc ρ ⟨rfl, rfl⟩
        rw [List.length_map, List.take_length]
        refine ⟨rfl, ?_⟩
        unfold ds_so3
        simp_arith [20]
        rw [List.length_map]
        by_cases h2 : ps.length = 2
        · rw [decide_eq_true (by omega : (ps.length : Int) = 2)]
          match ps, h2 with
          | [i, j], _ =>
          try dsimp only
          have eo : okD (.list ([i, j].map numD)) = true := by
            show okD (.list [numD i, numD j]) = true
            unfold numD
            split <;> split <;> rfl
          refine ⟨rfl, eo, ?_⟩
          have ea : ((([i, j].map numD).any fun z => PyData.eqv z .none)) = !decide (isNumL i = true ∧ isNumL j = true) := by
            show ([numD i, numD j].any fun z => PyData.eqv z .none) = _
            unfold numD
            cases isNumL i <;> cases isNumL j <;> rfl
          rw [ea, Bool.not_not]
          try dsimp only at hq
          have a0 : L2.atI ([i, j].map numD) 0 = some (numD i) := rfl
          have a1 : L2.atI ([i, j].map numD) 1 = some (numD j) := rfl
          rw [a0, a1]
          by_cases hn : isNumL i = true ∧ isNumL j = true
          · rw [decide_eq_true hn]
            simp only [if_pos hn] at hq
            exact ⟨by omega, hq _⟩
          · rw [decide_eq_false hn]
            simp only [if_neg hn] at hq
            exact hq _
        · rw [decide_eq_false (by omega : ¬ (ps.length : Int) = 2)]
          have := hq [.no]
          split at this
          · exact absurd rfl h2
          · exact this
      · rintro k x acc ρ N hk ⟨rfl, rfl⟩ hN
        rw [List.getElem?_map] at hk
        cases e : ps[k]? with
        | none => rw [e] at hk; cases hk
        | some p =>
          rw [e] at hk
          cases hk
          have hp := hpe p (List.mem_of_getElem? e)
          simp_arith [20]
          refine ⟨p, rfl, by omega, fun r => ?_⟩
          simp_arith [20]
          have htk : ((ps.take k).map numD).length ≤ l.length + 1 := by rw [List.length_map, List.length_take]; omega
          exact ⟨by omega, hN _ _ ⟨rfl, (take_snoc numD e).symm⟩⟩
    · rw [decide_eq_false hw]
      simp only [if_neg hw] at hq
      exact hq _
  · rw [decide_eq_false (by omega : ¬ (ps.length : Int) = 2)]
    exact no h2 _
section
variable (C_NoText : Addr)
def g_read_stand : GSp := fun args Q E => ∃ l : List Nat, args = [.fz (.str (mkS l))] ∧ l.length ≤ 5000 ∧ match stoodD l with
  | some d => ∀ r, Q (.fz d) r
  | none => ∀ r, E C_NoText (.str (mkS l)) r
theorem len_read_stand : ∀ args Q E, g_read_stand C_NoText args Q E → args.length = ["text"].length := by
  rintro args Q E ⟨l, rfl, _⟩
  rfl
def ds_rs2 : DS := (dRet (dTup (dCons (dCa gIntS (dCons (dVar 4) dNil)) (dCons (dCa gIntS (dCons (dVar 5) dNil)) (dCons (dVar 3) dNil)))))
def ds_rs1 (dx : DX) : DS := (dSeq (dIf (dNot (dAnd (dTest (dCall g_is_number [] dx (dCons (dVar 4) dNil))) (dAnd (dTest (dCall g_is_number [] dx (dCons (dVar 5) dNil))) (dTest (dOp (gIn (fun k => k)) (dVar 3) (dTup (dCons (dC (.str "first")) (dCons (dC (.str "second")) dNil)))))))) (dRaise C_NoText dx (dCons (dVar 0) dNil)) dNext)
  ds_rs2)
def ds_read_stand (dx : DX) : DS :=
  dSeq (dAsg (dMtT "str" gPartition (dVar 0) (dCons (dC (.str " ")) dNil)) (dgTup 3 (dgCons (dgName 1) (dgCons (dgName 2) (dgCons (dgName 3) dgNil)))))
  (dSeq (dAsg (dMtT "str" gPartition (dVar 1) (dCons (dC (.str ".")) dNil)) (dgTup 3 (dgCons (dgName 4) (dgCons (dgName 2) (dgCons (dgName 5) dgNil)))))
  (ds_rs1 C_NoText dx))
end
/-- a text parted at a sign -/
theorem part_at (c : Nat) (l : List Nat) : ∃ a s b : List Nat, Txt.partition (mkS l) (mkS [c]) = (mkS a, mkS s, mkS b) ∧ a.length ≤ l.length ∧ b.length ≤ l.length ∧ s.length ≤ 1 ∧
    ((l = a ++ c :: b ∧ c ∉ a ∧ splitC c l = a :: splitC c b) ∨ (c ∉ l ∧ a = l ∧ b = [] ∧ splitC c l = [l])) := by
  by_cases h : c ∈ l
  · obtain ⟨a, b, e, hn⟩ := first_of h
    subst e
    refine ⟨a, [c], b, ?_, ?_, ?_, Nat.le_refl _, .inl ⟨rfl, hn, splitC_app b hn⟩⟩
    · have := partition_app (y := mkS [c]) (s := c) (S := []) rfl (a := mkS a) (b := mkS b) hn
      rw [mkS_app, mkS_app] at this
      rw [← this, List.append_assoc]
      rfl
    · rw [List.length_append]; omega
    · rw [List.length_append, List.length_cons]; omega
  · exact ⟨l, [], [], partition_none (y := mkS [c]) (s := c) (S := []) rfl h, Nat.le_refl _, Nat.zero_le _, Nat.zero_le _, .inr ⟨h, rfl, rfl, splitC_none h⟩⟩
theorem num_free {c : Nat} {p : List Nat} (hc : c < 48) (h : isNumL p = true) : c ∉ p := fun hm => by
  unfold isNumL at h
  simp only [Bool.and_eq_true] at h
  have := h.1.2
  unfold isFig at this
  have := of_decide_eq_true (List.all_eq_true.mp this c hm)
  omega
theorem num_le {p : List Nat} (h : isNumL p = true) : p.length ≤ 60 := by
  unfold isNumL at h
  simp only [Bool.and_eq_true, decide_eq_true_eq] at h
  exact h.1.1.2
theorem splitC_mem {c : Nat} : ∀ {l : List Nat}, c ∈ l → ∃ a b t, splitC c l = a :: b :: t := fun {l} h => by
  obtain ⟨a, b, e, hn⟩ := first_of h
  subst e
  rw [splitC_app b hn]
  cases e : splitC c b with
  | nil => exact absurd e (splitC_ne c b)
  | cons x t => exact ⟨a, x, t, rfl⟩
theorem do_read_stand (C_NoText : Addr) (args : List Slot) (Q : Slot → List Slot → Prop) (Eg : Addr → D → List Slot → Prop) (h : g_read_stand C_NoText args Q Eg) : ds_read_stand C_NoText (bodyDX 1 Eg) (bodyEnds 1 Q) (bodyEnv 1 6 args) := by
  obtain ⟨l, rfl, hl, hq⟩ := h
  have hsz : sizeLine = 16777216 := sizeLine_eq
  obtain ⟨a, s1, w, e1, la, lw, ls1, k1⟩ := part_at 32 l
  obtain ⟨i, s2, j, e2, li, lj, ls2, k2⟩ := part_at 46 a
  unfold ds_read_stand
  rw [s_dot, s_blank]
  simp_arith [20, e1, e2, mkS_len]
  refine ⟨rfl, by omega, rfl, by omega, ?_⟩
  unfold ds_rs1
  simp_arith [20]
  refine ⟨i, rfl, by omega, fun r => ?_⟩
  have key : stoodD l = if isNumL i = true ∧ isNumL j = true ∧ (w = lateL true ∨ w = lateL false) then some (.tuple [numD i, numD j, .str (mkS w)]) else none := by
    unfold stoodD
    rcases k1 with ⟨r1, n1, e1⟩ | ⟨n1, r1, r2, e1⟩
    · rw [e1]
      by_cases h32 : 32 ∈ w
      · obtain ⟨x, y, t, e⟩ := splitC_mem h32
        rw [e, if_neg]
        rintro ⟨_, _, z | z⟩ <;> rw [z] at h32 <;> exact absurd h32 (by decide)
      · rw [splitC_none h32]
        try dsimp only
        by_cases hw : w = lateL true ∨ w = lateL false
        · rw [if_pos hw]
          rcases k2 with ⟨r1, n2, e2⟩ | ⟨n2, r1, r2, e2⟩
          · rw [e2]
            by_cases h46 : 46 ∈ j
            · obtain ⟨x, y, t, e⟩ := splitC_mem h46
              rw [e, if_neg]
              rintro ⟨_, z, _⟩
              exact num_free (by decide) z h46
            · rw [splitC_none h46]
              try dsimp only
              by_cases hn : isNumL i = true ∧ isNumL j = true
              · rw [if_pos hn, if_pos ⟨hn.1, hn.2, hw⟩]
              · rw [if_neg hn, if_neg fun z => hn ⟨z.1, z.2.1⟩]
          · rw [e2, if_neg]
            rintro ⟨_, z, _⟩
            rw [r2] at z
            exact absurd z (by decide)
        · rw [if_neg hw, if_neg fun z => hw z.2.2]
    · rw [e1, if_neg]
      rintro ⟨_, _, z⟩
      rw [r2] at z
      exact absurd z (by decide)
  rw [key] at hq
  by_cases hi : isNumL i = true
  · rw [hi]
    simp_arith [20]
    refine ⟨j, rfl, by omega, fun r => ?_⟩
    by_cases hj : isNumL j = true
    · rw [hj]
      simp_arith [20]
      refine ⟨by omega, rfl, by decide +kernel, ?_⟩
      rw [late_any]
      by_cases hw : w = lateL true ∨ w = lateL false
      · rw [if_pos ⟨hi, hj, hw⟩] at hq
        rw [decide_eq_true hw]
        unfold ds_rs2
        simp_arith [20]
        have ni := num_le hi
        have nj := num_le hj
        unfold numD at hq
        rw [if_pos hi, if_pos hj] at hq
        exact ⟨_, num_intF hi, by rw [mkS_len]; omega, _, num_intF hj, by rw [mkS_len]; omega, by omega, hq _⟩
      · rw [if_neg fun z => hw z.2.2] at hq
        rw [decide_eq_false hw]
        simp_arith [20, dRaise]
        exact ⟨_, rfl, hq _⟩
    · rw [if_neg fun z => hj z.2.1] at hq
      rw [eq_false_of_ne_true hj]
      simp_arith [20, dRaise]
      exact ⟨_, rfl, hq _⟩
  · rw [if_neg fun z => hi z.1] at hq
    rw [eq_false_of_ne_true hi]
    simp_arith [20, dRaise]
    exact ⟨_, rfl, hq _⟩

/-! K53d: a text read rightly; the law -/
open PySem L2 TL
section
variable (K : PySem.W.Frag) (C_NoText : Addr)
def g_kind (a D d : Addr) : GSp := fun args Q _ => ∃ z, args = [.io (cauC a d z)] ∧ Q (.fz (.list [.str "NoText", z, .bool true])) [.io (cauC a d z)]
theorem len_kind (a D d : Addr) : ∀ args Q E, g_kind a D d args Q E → args.length = ["e"].length := by
  rintro args Q E ⟨z, rfl, _⟩
  rfl
end
theorem do_kind {K : PySem.W.Frag} {R1 R2 R3 R4 R5 R6 R7 a De d : Addr} (k : KindD K De R1 R2 R3 R4 R5 R6 R7 false false false false false false true) (args : List Slot) (Q : Slot → List Slot → Prop) (Eg : Addr → D → List Slot → Prop) (h : g_kind a De d args Q Eg) : ds_kind K R1 R2 R3 R4 R5 R6 R7 a De d (bodyEnds 1 Q) (bodyEnv 1 4 args) := by
  obtain ⟨z, rfl, hq⟩ := h
  exact kind_core k hq
def g_right : GSp := fun args Q _ => ∃ l : List Nat, args = [.fz (.str (mkS l))] ∧ l.length ≤ 5000 ∧ ∀ r, Q (.fz (.bool true)) r
theorem len_right : ∀ args Q E, g_right args Q E → args.length = ["text"].length := by
  rintro args Q E ⟨l, rfl, _⟩
  rfl
section
variable (C_NoText : Addr)
def ds_ri2 (dx : DX) : DS := (dSeq (dIf (dTest (dOp (gIsN fun k => k) (dVar 1) (dC .none))) (dRet (dCall (g_alike 5) [] dx (dCons (dVar 3) (dCons (dFrz (dLstN (dCons (dC (.str "NoText")) (dCons (dVar 0) (dCons (dC (.bool true)) dNil))))) dNil)))) dNext)
  (dRet (dAndV (dOp gEq (dVar 3) (dFrz (dLstN dNil))) (dCall (g_alike 5) [] dx (dCons (dVar 2) (dCons (dVar 1) dNil))))))
def ds_ri1 (dx : DX) : DS := (dSeq (dTry 4 (fun C => C = C_NoText) (fun dx1 => (dAsg (dCallG (g_read_stand C_NoText) [.d (dVar 0)] dx1) (dgName 2))) (fun a C d => (dAsg (dCallX g_kind 4 a C d) (dgName 3))))
  (ds_ri2 dx))
def ds_right (dx : DX) : DS :=
  dSeq (dAsg (dCall g_stood_of [] dx (dCons (dVar 0) dNil)) (dgName 1))
  (dSeq (dAsg (dC .none) (dgName 2))
  (dSeq (dAsg (dFrz (dLstN dNil)) (dgName 3))
  (ds_ri1 C_NoText dx)))
end
theorem stoodD_tup {l : List Nat} {z : PyData} (h : stoodD l = some z) : ∃ (a b : Int) (w : Str), z = .tuple [.int a, .int b, .str w] := by
  unfold stoodD at h
  split at h
  · split at h
    · split at h
      · split at h
        · next hn =>
          unfold numD at h
          rw [if_pos hn.1, if_pos hn.2] at h
          cases h
          exact ⟨_, _, _, rfl⟩
        · cases h
      · cases h
    · cases h
  · cases h
theorem do_right (C_NoText : Addr) (args : List Slot) (Q : Slot → List Slot → Prop) (Eg : Addr → D → List Slot → Prop) (h : g_right args Q Eg) : ds_right C_NoText (bodyDX 1 Eg) (bodyEnds 1 Q) (bodyEnv 1 5 args) := by
  obtain ⟨l, rfl, hl, hq⟩ := h
  have hsz : sizeLine = 16777216 := sizeLine_eq
  unfold ds_right
  simp_arith [20]
  refine ⟨l, rfl, hl, fun r => ?_⟩
  simp_arith [20]
  refine ⟨by omega, ?_⟩
  unfold ds_ri1
  simp_arith [20, dTry]
  refine ⟨rfl, l, rfl, hl, ?_⟩
  cases e : stoodD l with
  | some z =>
    intro r
    dsimp only
    unfold ds_ri2
    obtain ⟨a, b, w, rfl⟩ := stoodD_tup e
    simp_arith [20, e, someD]
    refine ⟨by omega, rfl, rfl, ?_⟩
    have e1 : (PyData.list []).eqv (.list []) = true := rfl
    rw [e1]
    refine ⟨_, rfl, ?_, fun r => ?_⟩
    · refine ⟨by show 3 ≤ _; omega, fun x hx => ?_⟩
      simp only [List.mem_cons, List.not_mem_nil, or_false] at hx
      rcases hx with rfl | rfl | rfl <;> trivial
    · simp_arith [20]
      exact hq _
  | none =>
    intro r
    refine ⟨rfl, fun a d => ?_⟩
    simp_arith [20, dCallX, e]
    refine ⟨rfl, _, rfl, ?_⟩
    simp_arith [20, e, someD]
    unfold ds_ri2
    simp_arith [20]
    refine ⟨by show 3 ≤ _; omega, _, rfl, ?_, fun r => ?_⟩
    · refine ⟨by show 3 ≤ _; omega, fun x hx => ?_⟩
      simp only [List.mem_cons, List.not_mem_nil, or_false] at hx
      rcases hx with rfl | rfl | rfl <;> trivial
    · simp_arith [20]
      exact hq _
def g_law (K : PySem.W.Frag) : GSp := fun args Q _ => ∃ ns : List Int, args = [.io (scrC K ns)] ∧ ns.length ≤ 63 ∧ ∀ r, Q (.fz (.bool true)) r
theorem len_law (K : PySem.W.Frag) : ∀ args Q E, g_law K args Q E → args.length = ["script"].length := by
  rintro args Q E ⟨ns, rfl, _⟩
  rfl
def ds_law4 (dx : DX) : DS := (dIf (dNot (dTest (dCall g_right [] dx (dCons (dSl (dVar 5) doNone (doSome (dC (.int 4000)))) dNil)))) (dRet (dC (.bool false))) dNext)
def ds_law3 (dx : DX) : DS := (dSeq (dFor (diR1 (dCons (dOp gIx (dFrz (dLstN (dCons (dC (.int 0)) (dCons (dC (.int 1)) (dCons (dC (.int 1)) (dCons (dC (.int 2)) (dCons (dC (.int 3)) dNil))))))) (dCallR g_draw 1 dx (dCons (dC (.int 5)) dNil))) dNil)) (dgName 6) (dAsg (dCallR g_spoilt 1 dx (dCons (dVar 5) (dCons (dVar 2) dNil))) (dgName 5)))
  (ds_law4 dx))
def ds_law2 (dx : DX) : DS := (dSeq (dIf (dTest (dOp gEq (dCallR g_draw 1 dx (dCons (dC (.int 10)) dNil)) (dC (.int 0)))) (dAsg (dOp gIx (dVar 2) (dCallR g_draw 1 dx (dCons (dCa gLen (dCons (dVar 2) dNil)) dNil))) (dgName 5)) dNext)
  (ds_law3 dx))
def ds_law1 (dx : DX) : DS := (dSeq (dAsg (dCallR g_any_stood 1 dx dNil) (dgName 4))
  (dSeq (dAsg (dOp gAdd (dOp gAdd (dOp gAdd (dOp gAdd (dCa gStr1 (dCons (dOp gIx (dVar 4) (dC (.int 0))) dNil)) (dC (.str "."))) (dCa gStr1 (dCons (dOp gIx (dVar 4) (dC (.int 1))) dNil))) (dC (.str " "))) (dOp gIx (dVar 4) (dC (.int 2)))) (dgName 5))
  (ds_law2 dx)))
def ds_law (K : PySem.W.Frag) (dx : DX) : DS :=
  dSeq (dSetN 1 (dCallRN (g_trayK K) 0 dx dNil))
  (dSeq (dAsg (dCallG g_odd [] dx) (dgName 2))
  (dSeq (dFor (diR1 (dCons (dOp gAdd (dC (.int 8)) (dOp gMulA (dC (.int 3)) (dCa gLen (dCons (dSlScr K 0 doNone (doSome (dC (.int 12)))) dNil)))) dNil)) (dgName 3) (ds_law1 dx))
  (dRet (dC (.bool true)))))
theorem law3_ok {c : Cell} {u : Int} {od : List Str} {x : Str} {S D1 : PyData} {t : Cell} {s6 : Slot} {E : DX} {DD : DEnds} (hc : TrayS u c) (hu : u < 2 ^ 36) (ho : OddS od) (hx : x.length ≤ 200) (h6 : s6.isIo = false)
    (h : ∀ (c' : Cell) (s4 s5 s6 : Slot), s4.isIo = false → s5.isIo = false → s6.isIo = false → TrayS (u + 61) c' → DD.nx [.io t, .ow c', .fz (.list (strD od)), .fz D1, s4, s5, s6]) :
    ds_law3 E DD [.io t, .ow c, .fz (.list (strD od)), .fz D1, .fz S, .fz (.str x), s6] := by
  have hsz : sizeLine = 16777216 := sizeLine_eq
  unfold ds_law3
  simp_arith [20]
  refine ⟨by omega, draw_ok hc (by omega) (by omega) (by omega) fun v1 c1 hv1 hw1 hc1 r => ?_⟩
  obtain ⟨n, en, hn⟩ : ∃ n : Nat, L2.atI [PyData.int 0, PyData.int 1, PyData.int 1, PyData.int 2, PyData.int 3] v1 = some (.int (n : Int)) ∧ n ≤ 3 := by
    have h5 : v1 = 0 ∨ v1 = 1 ∨ v1 = 2 ∨ v1 = 3 ∨ v1 = 4 := by omega
    rcases h5 with z | z | z | z | z <;> subst z
    · exact ⟨0, rfl, by decide⟩
    · exact ⟨1, rfl, by decide⟩
    · exact ⟨1, rfl, by decide⟩
    · exact ⟨2, rfl, by decide⟩
    · exact ⟨3, rfl, by decide⟩
  simp_arith [20, en, Int.toNat_natCast]
  refine ⟨by omega, by omega, ?_⟩
  refine dLoop_ind (fun k ρ => ∃ (c : Cell) (y : Str) (s6 : Slot), ρ = [.io t, .ow c, .fz (.list (strD od)), .fz D1, .fz S, .fz (.str y), s6] ∧ TrayS (u + 1 + 20 * k) c ∧ s6.isIo = false ∧ ((k = 0 ∧ y.length ≤ 200) ∨ (k = 1 ∧ y.length ≤ 800) ∨ (k = 2 ∧ y.length ≤ 2600) ∨ (k = 3 ∧ y.length ≤ 8000)))
    ⟨_, _, _, rfl, hc1.mono (by omega), h6, .inl ⟨rfl, hx⟩⟩ ?_ ?_
  · rintro ρ ⟨c, y, s6, rfl, hc, h6, hy⟩
    rw [dInts_len] at hc hy
    obtain ⟨l, rfl⟩ : ∃ l, y = mkS l := ⟨_, mkS_of y⟩
    rw [mkS_len] at hy
    unfold ds_law4
    have hl : l.length ≤ 8000 := by omega
    simp_arith [20, mkS_head (by omega : (0 : Int) ≤ 4000)]
    refine ⟨by rw [mkS_len]; omega, l.take 4000, rfl, by rw [List.length_take]; omega, fun r => ?_⟩
    simp_arith [20]
    exact h c _ _ _ rfl rfl h6 (hc.mono (by omega))
  · rintro k z ρ N hk ⟨c, y, s6, rfl, hc, h6, hy⟩ hN
    have hk2 := lt_of_get hk
    rw [dInts_len] at hk2
    rw [dInts_get, if_pos hk2] at hk
    cases hk
    simp_arith [20, h6]
    refine ⟨c, u + 1 + 20 * k, y, od, rfl, hc, by omega, ho, by omega, fun y' c' r hy' hc' => ?_⟩
    simp_arith [20]
    refine hN _ ⟨c', y', _, rfl, hc'.mono (by omega), rfl, ?_⟩
    omega
theorem law2_ok {c : Cell} {u : Int} {od : List Str} {x : List Nat} {S D1 : PyData} {t : Cell} {s6 : Slot} {E : DX} {DD : DEnds} (hc : TrayS u c) (hu : u < 2 ^ 35) (ho : OddS od) (hx : x.length ≤ 200) (h6 : s6.isIo = false)
    (h : ∀ (c' : Cell) (s4 s5 s6 : Slot), s4.isIo = false → s5.isIo = false → s6.isIo = false → TrayS (u + 70) c' → DD.nx [.io t, .ow c', .fz (.list (strD od)), .fz D1, s4, s5, s6]) :
    ds_law2 E DD [.io t, .ow c, .fz (.list (strD od)), .fz D1, .fz S, .fz (.str (mkS x)), s6] := by
  have hsz : sizeLine = 16777216 := sizeLine_eq
  have ho' := ho
  obtain ⟨o1, o2, o3⟩ := ho'
  unfold ds_law2
  simp_arith [20]
  refine draw_ok hc (by omega) (by omega) (by omega) fun v1 c1 hv1 hw1 hc1 r => ?_
  simp_arith [20, strD_len]
  by_cases e : v1 = 0
  · rw [decide_eq_true e]
    refine draw_ok hc1 (by omega) (by omega) (by omega) fun v2 c2 hv2 hw2 hc2 r => ?_
    obtain ⟨k, rfl⟩ : ∃ k : Nat, v2 = k := ⟨v2.toNat, by omega⟩
    have hk : k < od.length := by omega
    have gk : od[k]? = some od[k] := List.getElem?_eq_getElem hk
    simp_arith [20, atI_nat (strD_get gk)]
    have b2 := o3 _ (List.getElem_mem hk)
    exact law3_ok hc2 (by omega) ho (by omega) h6 fun c' s4 s5 s6 i4 i5 i6 hc' => h c' s4 s5 s6 i4 i5 i6 (hc'.mono (by omega))
  · rw [decide_eq_false e]
    exact law3_ok hc1 (by omega) ho (by rw [mkS_len]; omega) h6 fun c' s4 s5 s6 i4 i5 i6 hc' => h c' s4 s5 s6 i4 i5 i6 (hc'.mono (by omega))
theorem do_law (K : PySem.W.Frag) (args : List Slot) (Q : Slot → List Slot → Prop) (Eg : Addr → D → List Slot → Prop) (h : g_law K args Q Eg) : ds_law K (bodyDX 1 Eg) (bodyEnds 1 Q) (bodyEnv 1 7 args) := by
  obtain ⟨ns, rfl, hn, hq⟩ := h
  have hsz : sizeLine = 16777216 := sizeLine_eq
  have ht : ((ns.map PyData.int).take 12).length ≤ 12 := by rw [List.length_take]; omega
  unfold ds_law
  simp_arith [20]
  refine ⟨ns, rfl, hn, fun c r hc => ?_⟩
  simp_arith [20]
  refine ⟨rfl, rfl, fun od r ho => ?_⟩
  simp_arith [20]
  refine ⟨⟨_, rfl⟩, ns, rfl, ?_⟩
  rw [List.length_map]
  rw [cutX_head (by omega : (0 : Int) ≤ 12), List.length_take]
  have h12 : (min (12 : Int).toNat ns.length) ≤ 12 := Nat.min_le_left _ _
  generalize hm : (min (12 : Int).toNat ns.length) = m at h12
  refine ⟨.inl (.inr ⟨by omega, by omega⟩), by omega, by omega, ?_⟩
  refine dLoop_ind (fun k ρ => ∃ (c : Cell) (s3 s4 s5 s6 : Slot), ρ = [.io (scrC K ns), .ow c, .fz (.list (strD od)), s3, s4, s5, s6] ∧ TrayS (110 * k) c ∧ s3.isIo = false ∧ s4.isIo = false ∧ s5.isIo = false ∧ s6.isIo = false)
    ⟨_, _, _, _, _, rfl, hc.mono (by omega), rfl, rfl, rfl, rfl⟩ ?_ ?_
  · rintro ρ ⟨c, s3, s4, s5, s6, rfl, hc, h3, h4, h5, h6⟩
    simp_arith [20]
    exact hq _
  · rintro k x ρ N hk ⟨c, s3, s4, s5, s6, rfl, hc, h3, h4, h5, h6⟩ hN
    have hk2 := lt_of_get hk
    rw [dInts_len] at hk2
    rw [dInts_get, if_pos hk2] at hk
    cases hk
    unfold ds_law1
    simp_arith [20, h3]
    refine ⟨c, 110 * k, rfl, hc, by omega, fun s c1 r hs hc1 => ?_⟩
    obtain ⟨i, j, b⟩ := s
    have hs' := hs
    obtain ⟨hi, hj⟩ := hs
    dsimp only at hi hj
    have n1 := num60 hi
    have n2 := num60 hj
    have n3 := late_len b
    unfold standD
    rw [s_dot, s_blank]
    simp_arith [20, h4, h5, h6, num_mkS, late_mk, mkS_app, mkS_len, List.length_append]
    refine ⟨log2_60 hi, by omega, log2_60 hj, by omega, by omega, by omega, ?_⟩
    have hx : (numL i ++ [46] ++ numL j ++ [32] ++ lateL b).length ≤ 200 := by
      simp only [List.length_append, List.length_cons, List.length_nil]; omega
    generalize numL i ++ [46] ++ numL j ++ [32] ++ lateL b = x at hx
    generalize PyData.tuple [PyData.int (i : Int), PyData.int (j : Int), PyData.str (mkS (lateL b))] = z4
    refine law2_ok hc1 (by omega) ho hx h6 fun c2 s4 s5 s6 i4 i5 i6 hc2 => ?_
    exact hN _ ⟨c2, _, s4, s5, s6, rfl, hc2.mono (by omega), rfl, i4, i5, i6⟩

/-! RD52: a def called with the handled error, by its name -/
open PySem L2
/-- what a law knows of a def that it calls with the handled error -/
def CalX (P : Program) (w : World) (K : PySem.W.Frag) (mg : Str → Option Value) (base : Heap) (Cs : Addr → Prop) (x : Str) (k : Nat) (ps : List Str) (g : Addr → Addr → Addr → GSp) : Prop :=
  ∃ f fd, FnX P w K mg base Cs k f fd ps g ∧ mg x = some (.ref f) ∧ PySem.W.keepIn K (.ref f) = true ∧ Binds K fd ps []

open PySem L2
def top (i : Nat) : Stmt := PySem.Challenge.pw_roundfence_k53_texts_of_no_standing.main.body.getD i (.Pass ⟨0, 0, 0, 0⟩)
structure Tx (mg : Str → Option Value) : Prop extends Txt mg where
  DIGITS : ∃ t, mg "DIGITS" = some (.str "0123456789" t)
  FIGURES : ∃ t, mg "FIGURES" = some (.int 60 t)
  FIRST : ∃ t, mg "FIRST" = some (.str "first" t)
  SECOND : ∃ t, mg "SECOND" = some (.str "second" t)
  ValueError : mg "ValueError" = none
theorem law_ok (K : PySem.W.Frag) (ns : List Int) (hn : ns.length ≤ 63) (_ : ∀ n ∈ ns, Builtin.Int.intBits n ≤ 1048576) : g_law K [.io (scrC K ns)] (fun r _ => r = .fz (.bool true)) (fun _ _ _ => False) := ⟨ns, rfl, hn, fun _ => rfl⟩
section
variable {P : Program} {w : World} {K : PySem.W.Frag} {mg : Str → Option Value} {base : Heap} {C_NoText C_FenceError C_NoPlace C_NoRow C_NoRound C_NoTicks C_NoLast C_NoTimes : Addr}
abbrev s_tray : Stmt := top 17
abbrev N_tray : List Str := ["script", "fold", "great", "cell", "much"]
abbrev p_tray : List Str := ["script"]
theorem sc_tray : FnScope N_tray p_tray (defScope s_tray) := ⟨rfl, rfl, rfl, by decide +kernel, rfl, by decide +kernel, by decide +kernel⟩
theorem ok_tray {f : Addr} {fd : FuncData} (T : Tx mg) (Fn : Fun K "_law_tray" "_law_tray" s_tray f fd) : FnOk P w K mg base (L2N.CX P w) 1 f fd p_tray (spOf (g_trayK K)) := by
  refine fn_d Fn sc_tray (len_trayK K) fun cdv A outer s H E W dx hr xl => ⟨ds_trayK K dx, ?_, fun args Q Eg hg hdx => by subst hdx; exact do_trayK K args Q Eg hg⟩
  exact dss_cons (ds_set (i := 1) sc_tray.nd rfl (Or.inl rfl) de_int)
      (dss_cons (ds_setN (i := 2) sc_tray.nd rfl (Or.inl rfl) (dn_lst da_nil))
      (dss_cons (ds_for (passes_of rfl) rfl (di_scr (pv 0)) (dg_name (i := 3) sc_tray.nd rfl (Or.inl rfl)) (dss_cons (ds_set (i := 1) sc_tray.nd rfl (Or.inl rfl) (de_mod (de_add (de_mulA (de_var 1) de_int) (de_var 3)) (de_sub (de_powX de_int de_int) de_int)))
      (dss_cons (ds_set (i := 4) sc_tray.nd rfl (Or.inl rfl) (de_max2 rfl rfl T.max (da_cons (de_var 3) (da_cons (de_sub de_int (de_var 3)) da_nil))))
      (dss_one (ds_if (dt_ge (de_var 4) (de_powX de_int de_int)) (dss_one (ds_expr (de_lm PySem.F.slot_list_append PySem.F.type_list_append mt_append lm_append (pv 2) (da_cons (de_sub (de_var 4) (de_powX de_int de_int)) da_nil)))) dss_nil)))))
      (dss_one (ds_retC (dn_xn (pv 2) (da_cons de_int (da_cons (de_var 1) (da_cons de_int da_nil))))))))

abbrev s_draw : Stmt := top 18
abbrev N_draw : List Str := ["tray", "many", "mixed", "found"]
abbrev p_draw : List Str := ["tray", "many"]
theorem sc_draw : FnScope N_draw p_draw (defScope s_draw) := ⟨rfl, rfl, rfl, by decide +kernel, rfl, by decide +kernel, by decide +kernel⟩
theorem ok_draw {f : Addr} {fd : FuncData} (T : Tx mg) (Fn : Fun K "_law_draw" "_law_draw" s_draw f fd) : FnOk P w K mg base (L2N.CX P w) 1 f fd p_draw (spOf g_draw) := by
  refine fn_d Fn sc_draw len_draw fun cdv A outer s H E W dx hr xl => ⟨ds_draw dx, ?_, fun args Q Eg hg hdx => by subst hdx; exact do_draw args Q Eg hg⟩
  exact dss_cons (ds_while (passes_of rfl) (PDW.pt (dw_and (dt_lt (de_xg 0 (pv 0)) de_int) (dw_and1 (dt_xe hr.units (pv 0))))) (dss_one (ds_xs 0 (pv 0) (de_xp (pv 0)))))
      (dss_cons (ds_if (dt_ge (de_xg 0 (pv 0)) de_int) (dss_cons (ds_set (i := 3) sc_draw.nd rfl (Or.inl rfl) (de_mod (de_xg 0 (pv 0)) (de_var 1)))
      (dss_cons (ds_xs 0 (pv 0) (de_fdivW (de_xg 0 (pv 0)) (de_var 1)))
      (dss_one (ds_ret (de_var 3))))) dss_nil)
      (dss_cons (ds_xs 2 (pv 0) (de_add (de_xg 2 (pv 0)) de_int))
      (dss_cons (ds_set (i := 2) sc_draw.nd rfl (Or.inl rfl) (de_mod (de_add (de_mulA (de_add (de_xg 1 (pv 0)) de_int) (de_powX (de_add (de_xg 2 (pv 0)) de_int) de_int)) (de_mulA de_int (de_xg 2 (pv 0)))) (de_sub (de_powX de_int de_int) de_int)))
      (dss_one (ds_ret (de_mod (de_fdivW (de_mod (de_powX (de_var 2) de_int) (de_add (de_powX de_int de_int) de_int)) de_int) (de_var 1)))))))

abbrev s_great : Stmt := top 19
abbrev N_great : List Str := ["tray", "found", "k"]
abbrev p_great : List Str := ["tray"]
theorem sc_great : FnScope N_great p_great (defScope s_great) := ⟨rfl, rfl, rfl, by decide +kernel, rfl, by decide +kernel, by decide +kernel⟩
theorem ok_great {f : Addr} {fd : FuncData} (T : Tx mg) (c_draw : Cal P w K mg base "_law_draw" 1 p_draw g_draw) (Fn : Fun K "_law_great" "_law_great" s_great f fd) : FnOk P w K mg base (L2N.CX P w) 2 f fd p_great (spOf g_great) := by
  obtain ⟨f_draw, fd_draw, G_draw, m_draw, k_draw, b_draw⟩ := c_draw
  refine fn_d Fn sc_great len_great fun cdv A outer s H E W dx hr xl => ⟨ds_great dx, ?_, fun args Q Eg hg hdx => by subst hdx; exact do_great args Q Eg hg⟩
  exact dss_cons (ds_set (i := 1) sc_great.nd rfl (Or.inl rfl) (de_callR xl (L2N.takes_of rfl rfl rfl rfl) G_draw (hr.mono (by omega)) rfl m_draw k_draw b_draw (pv 0) (da_cons (de_powX de_int de_int) da_nil)))
      (dss_cons (ds_for (passes_of rfl) rfl (di_r1 rfl T.range (da_cons de_int da_nil)) (dg_name (i := 2) sc_great.nd rfl (Or.inl rfl)) (dss_one (ds_set (i := 1) sc_great.nd rfl (Or.inl rfl) (de_add (de_mulA (de_var 1) (de_powX de_int de_int)) (de_callR xl (L2N.takes_of rfl rfl rfl rfl) G_draw (hr.mono (by omega)) rfl m_draw k_draw b_draw (pv 0) (da_cons (de_powX de_int de_int) da_nil))))))
      (dss_one (ds_ret (de_var 1))))

abbrev s_alike : Stmt := top 20
abbrev N_alike : List Str := ["found", "due", "k"]
abbrev p_alike : List Str := ["found", "due"]
theorem sc_alike : FnScope N_alike p_alike (defScope s_alike) := ⟨rfl, rfl, rfl, by decide +kernel, rfl, by decide +kernel, by decide +kernel⟩
theorem ok_alike (n : Nat) {f : Addr} {fd : FuncData} (T : Tx mg) (c_alike : Cal P w K mg base "_law_alike" (n + 1) p_alike (g_alike n)) (Fn : Fun K "_law_alike" "_law_alike" s_alike f fd) : FnOk P w K mg base (L2N.CX P w) (n + 2) f fd p_alike (spOf (g_alike (n + 1))) := by
  obtain ⟨f_alike, fd_alike, G_alike, m_alike, k_alike, b_alike⟩ := c_alike
  refine fn_d Fn sc_alike (len_alike (n + 1)) fun cdv A outer s H E W dx hr xl => ⟨ds_alike (g_alike n) dx, ?_, fun args Q Eg hg hdx => by subst hdx; exact do_alike n args Q Eg hg⟩
  exact dss_cons (ds_if (dt_isN (de_var 1) de_non) (dss_one (ds_ret (de_isN (de_var 0) de_non))) dss_nil)
      (dss_cons (ds_if (dt_val (de_isi (T := "bool") (by simp) (by rfl) T.isinstance (by rfl) T.bool (by decide +kernel) (de_var 1))) (dss_one (ds_ret (de_and (de_isi (T := "bool") (by simp) (by rfl) T.isinstance (by rfl) T.bool (by decide +kernel) (de_var 0)) (de_one (de_eq hr.units (de_var 0) (de_var 1)))))) dss_nil)
      (dss_cons (ds_if (dt_val (de_isi (T := "int") (by simp) (by rfl) T.isinstance (by rfl) T.int (by decide +kernel) (de_var 1))) (dss_one (ds_ret (de_and (de_isi (T := "int") (by simp) (by rfl) T.isinstance (by rfl) T.int (by decide +kernel) (de_var 0)) (de_and (de_not (de_isi (T := "bool") (by simp) (by rfl) T.isinstance (by rfl) T.bool (by decide +kernel) (de_var 0))) (de_one (de_eq hr.units (de_var 0) (de_var 1))))))) dss_nil)
      (dss_cons (ds_if (dt_val (de_isi (T := "str") (by simp) (by rfl) T.isinstance (by rfl) T.str (by decide +kernel) (de_var 1))) (dss_one (ds_ret (de_and (de_isi (T := "str") (by simp) (by rfl) T.isinstance (by rfl) T.str (by decide +kernel) (de_var 0)) (de_one (de_eq hr.units (de_var 0) (de_var 1)))))) dss_nil)
      (dss_cons (ds_if (PDW.pt (dw_or (dt_ne hr.units (de_isi (T := "list") (by simp) (by rfl) T.isinstance (by rfl) T.list (by decide +kernel) (de_var 0)) (de_isi (T := "list") (by simp) (by rfl) T.isinstance (by rfl) T.list (by decide +kernel) (de_var 1))) (dw_or1 (dt_ne hr.units (de_isi (T := "tuple") (by simp) (by rfl) T.isinstance (by rfl) T.tuple (by decide +kernel) (de_var 0)) (de_isi (T := "tuple") (by simp) (by rfl) T.isinstance (by rfl) T.tuple (by decide +kernel) (de_var 1)))))) (dss_one (ds_ret de_bl)) dss_nil)
      (dss_cons (ds_if (dt_ne hr.units (de_len rfl T.len (da_cons (de_var 0) da_nil)) (de_len rfl T.len (da_cons (de_var 1) da_nil))) (dss_one (ds_ret de_bl)) dss_nil)
      (dss_cons (ds_for (passes_of rfl) rfl (di_r1 rfl T.range (da_cons (de_len rfl T.len (da_cons (de_var 1) da_nil)) da_nil)) (dg_name (i := 2) sc_alike.nd rfl (Or.inl rfl)) (dss_one (ds_if (dt_not (dt_val (de_call xl (L2N.takes_of rfl rfl rfl rfl) G_alike (hr.mono (by omega)) rfl m_alike k_alike b_alike .nil (fun _ => .nil) (da_cons (de_ix (de_var 0) (de_var 2)) (da_cons (de_ix (de_var 1) (de_var 2)) da_nil))))) (dss_one (ds_ret de_bl)) dss_nil)))
      (dss_one (ds_ret de_bl))))))))

abbrev s_any_stood : Stmt := top 28
abbrev N_any_stood : List Str := ["tray", "some", "other", "last_word"]
abbrev p_any_stood : List Str := ["tray"]
theorem sc_any_stood : FnScope N_any_stood p_any_stood (defScope s_any_stood) := ⟨rfl, rfl, rfl, by decide +kernel, rfl, by decide +kernel, by decide +kernel⟩
theorem ok_any_stood {f : Addr} {fd : FuncData} (T : Tx mg) (c_great : Cal P w K mg base "_law_great" 2 p_great g_great) (c_draw : Cal P w K mg base "_law_draw" 1 p_draw g_draw) (Fn : Fun K "_law_any_stood" "_law_any_stood" s_any_stood f fd) : FnOk P w K mg base (L2N.CX P w) 3 f fd p_any_stood (spOf g_any_stood) := by
  obtain ⟨f_great, fd_great, G_great, m_great, k_great, b_great⟩ := c_great
  obtain ⟨f_draw, fd_draw, G_draw, m_draw, k_draw, b_draw⟩ := c_draw
  refine fn_d Fn sc_any_stood len_any_stood fun cdv A outer s H E W dx hr xl => ⟨ds_any_stood dx, ?_, fun args Q Eg hg hdx => by subst hdx; exact do_any_stood args Q Eg hg⟩
  exact dss_cons (ds_set (i := 1) sc_any_stood.nd rfl (Or.inl rfl) (de_frz (dn_lst (da_cons (de_callR xl (L2N.takes_of rfl rfl rfl rfl) G_draw (hr.mono (by omega)) rfl m_draw k_draw b_draw (pv 0) (da_cons de_int da_nil)) (da_cons (de_callR xl (L2N.takes_of rfl rfl rfl rfl) G_draw (hr.mono (by omega)) rfl m_draw k_draw b_draw (pv 0) (da_cons de_int da_nil)) (da_cons (de_callR xl (L2N.takes_of rfl rfl rfl rfl) G_great (hr.mono (by omega)) rfl m_great k_great b_great (pv 0) da_nil) (da_cons (de_add (de_mulA (de_callR xl (L2N.takes_of rfl rfl rfl rfl) G_great (hr.mono (by omega)) rfl m_great k_great b_great (pv 0) da_nil) de_int) (de_callR xl (L2N.takes_of rfl rfl rfl rfl) G_draw (hr.mono (by omega)) rfl m_draw k_draw b_draw (pv 0) (da_cons de_int da_nil))) da_nil)))))))
      (dss_cons (ds_set (i := 2) sc_any_stood.nd rfl (Or.inl rfl) (de_frz (dn_lst (da_cons (de_callR xl (L2N.takes_of rfl rfl rfl rfl) G_draw (hr.mono (by omega)) rfl m_draw k_draw b_draw (pv 0) (da_cons de_int da_nil)) (da_cons (de_callR xl (L2N.takes_of rfl rfl rfl rfl) G_draw (hr.mono (by omega)) rfl m_draw k_draw b_draw (pv 0) (da_cons de_int da_nil)) (da_cons (de_callR xl (L2N.takes_of rfl rfl rfl rfl) G_great (hr.mono (by omega)) rfl m_great k_great b_great (pv 0) da_nil) (da_cons (de_add (de_mulA (de_callR xl (L2N.takes_of rfl rfl rfl rfl) G_great (hr.mono (by omega)) rfl m_great k_great b_great (pv 0) da_nil) de_int) (de_callR xl (L2N.takes_of rfl rfl rfl rfl) G_draw (hr.mono (by omega)) rfl m_draw k_draw b_draw (pv 0) (da_cons de_int da_nil))) da_nil)))))))
      (dss_cons (ds_set (i := 3) sc_any_stood.nd rfl (Or.inl rfl) (de_ix (de_frz (dn_lst (da_cons de_str (da_cons de_str da_nil)))) (de_callR xl (L2N.takes_of rfl rfl rfl rfl) G_draw (hr.mono (by omega)) rfl m_draw k_draw b_draw (pv 0) (da_cons de_int da_nil))))
      (dss_one (ds_ret (de_tup (da_cons (de_ix (de_var 1) (de_callR xl (L2N.takes_of rfl rfl rfl rfl) G_draw (hr.mono (by omega)) rfl m_draw k_draw b_draw (pv 0) (da_cons de_int da_nil))) (da_cons (de_ix (de_var 2) (de_callR xl (L2N.takes_of rfl rfl rfl rfl) G_draw (hr.mono (by omega)) rfl m_draw k_draw b_draw (pv 0) (da_cons de_int da_nil))) (da_cons (de_var 3) da_nil))))))))

abbrev s_kind : Stmt := top 21
abbrev N_kind : List Str := ["e", "some", "word", "so"]
abbrev p_kind : List Str := ["e"]
theorem sc_kind : FnScope N_kind p_kind (defScope s_kind) := ⟨rfl, rfl, rfl, by decide +kernel, rfl, by decide +kernel, by decide +kernel⟩
theorem ok_kind {f : Addr} {fd : FuncData} (T : Tx mg) (g_NoPlace : mg "NoPlace" = some (.ref C_NoPlace)) (g_NoRow : mg "NoRow" = some (.ref C_NoRow)) (g_NoRound : mg "NoRound" = some (.ref C_NoRound)) (g_NoTicks : mg "NoTicks" = some (.ref C_NoTicks)) (g_NoLast : mg "NoLast" = some (.ref C_NoLast)) (g_NoText : mg "NoText" = some (.ref C_NoText)) (g_NoTimes : mg "NoTimes" = some (.ref C_NoTimes)) (kd : ∀ D, (fun C => C = C_NoText) D → ExcD K D) (ki : KindD K C_NoText C_NoRound C_NoRow C_NoPlace C_NoLast C_NoTicks C_NoTimes C_NoText false false false false false false true) (Fn : Fun K "_law_kind" "_law_kind" s_kind f fd) : FnX P w K mg base (fun C => C = C_NoText) 1 f fd p_kind g_kind := by
  refine fn_dX Fn sc_kind len_kind fun cdv A outer s H W p D d hr hot hCs hz hf => ⟨ds_kind K C_NoRound C_NoRow C_NoPlace C_NoLast C_NoTicks C_NoTimes C_NoText p.1 D d, fun E => ?_, fun args Q Eg hg => by have e : D = C_NoText := hCs; subst e; exact do_kind ki args Q Eg hg⟩
  exact dss_cons (ds_set (i := 1) sc_kind.nd rfl (Or.inl rfl) (de_frz (dn_lst (da_cons (de_tup (da_cons de_str (da_cons (de_isK (oe := p.2) (a := p.1) (List.mem_singleton.mpr rfl) (kd D hCs) hz hf rfl T.isinstance (pv 0) (pe_glob rfl g_NoRound (v := .ref C_NoRound) rfl) (.own _)) da_nil))) (da_cons (de_tup (da_cons de_str (da_cons (de_isK (oe := p.2) (a := p.1) (List.mem_singleton.mpr rfl) (kd D hCs) hz hf rfl T.isinstance (pv 0) (pe_glob rfl g_NoRow (v := .ref C_NoRow) rfl) (.own _)) da_nil))) (da_cons (de_tup (da_cons de_str (da_cons (de_isK (oe := p.2) (a := p.1) (List.mem_singleton.mpr rfl) (kd D hCs) hz hf rfl T.isinstance (pv 0) (pe_glob rfl g_NoPlace (v := .ref C_NoPlace) rfl) (.own _)) da_nil))) da_nil))))))
      (dss_cons (ds_set (i := 1) sc_kind.nd rfl (Or.inl rfl) (de_add (de_var 1) (de_frz (dn_lst (da_cons (de_tup (da_cons de_str (da_cons (de_isK (oe := p.2) (a := p.1) (List.mem_singleton.mpr rfl) (kd D hCs) hz hf rfl T.isinstance (pv 0) (pe_glob rfl g_NoLast (v := .ref C_NoLast) rfl) (.own _)) da_nil))) (da_cons (de_tup (da_cons de_str (da_cons (de_isK (oe := p.2) (a := p.1) (List.mem_singleton.mpr rfl) (kd D hCs) hz hf rfl T.isinstance (pv 0) (pe_glob rfl g_NoTicks (v := .ref C_NoTicks) rfl) (.own _)) da_nil))) da_nil))))))
      (dss_cons (ds_set (i := 1) sc_kind.nd rfl (Or.inl rfl) (de_add (de_var 1) (de_frz (dn_lst (da_cons (de_tup (da_cons de_str (da_cons (de_isK (oe := p.2) (a := p.1) (List.mem_singleton.mpr rfl) (kd D hCs) hz hf rfl T.isinstance (pv 0) (pe_glob rfl g_NoTimes (v := .ref C_NoTimes) rfl) (.own _)) da_nil))) (da_cons (de_tup (da_cons de_str (da_cons (de_isK (oe := p.2) (a := p.1) (List.mem_singleton.mpr rfl) (kd D hCs) hz hf rfl T.isinstance (pv 0) (pe_glob rfl g_NoText (v := .ref C_NoText) rfl) (.own _)) da_nil))) da_nil))))))
      (dss_one (ds_ret (de_add (de_frz (dn_lcIfH (own := [("word", 2), ("so", 3)]) hot (List.mem_singleton.mpr rfl) sc_kind.nd (di_listH (de_var 1)) (blkOk_by (N := N_kind) (sc := defScope s_kind) (by decide +kernel)) (fun _ _ _ _ _ => dg_tupH (hot_bkH hot) (n := 2) (dgs_cons (dg_name (i := 2) sc_kind.nd rfl (Or.inl rfl)) (dgs_cons (dg_name (i := 3) sc_kind.nd rfl (Or.inl rfl)) dgs_nil))) (fun _ _ _ _ _ => dt_val (de_var 3)) (fun _ _ _ _ _ => de_var 2))) (de_frz (dn_lst (da_cons (de_whatK (oe := p.2) (a := p.1) (List.mem_singleton.mpr rfl) (kd D hCs) hz hf (pv 0)) (da_cons (de_isK (oe := p.2) (a := p.1) (List.mem_singleton.mpr rfl) (kd D hCs) hz hf rfl T.isinstance (pv 0) (pe_bltn (v := .ty "ValueError") (u := .type "ValueError") rfl T.ValueError (by rfl) rfl (by decide) (by decide)) (.ty _)) da_nil)))))))))

abbrev s_sign : Stmt := top 22
abbrev N_sign : List Str := ["tray", "some"]
abbrev p_sign : List Str := ["tray"]
theorem sc_sign : FnScope N_sign p_sign (defScope s_sign) := ⟨rfl, rfl, rfl, by decide +kernel, rfl, by decide +kernel, by decide +kernel⟩
theorem ok_sign {f : Addr} {fd : FuncData} (T : Tx mg) (c_draw : Cal P w K mg base "_law_draw" 1 p_draw g_draw) (Fn : Fun K "_law_sign" "_law_sign" s_sign f fd) : FnOk P w K mg base (L2N.CX P w) 2 f fd p_sign (spOf g_sign) := by
  obtain ⟨f_draw, fd_draw, G_draw, m_draw, k_draw, b_draw⟩ := c_draw
  refine fn_d Fn sc_sign len_sign fun cdv A outer s H E W dx hr xl => ⟨ds_sign dx, ?_, fun args Q Eg hg hdx => by subst hdx; exact do_sign args Q Eg hg⟩
  exact dss_cons (ds_if (dt_eq hr.units (de_callR xl (L2N.takes_of rfl rfl rfl rfl) G_draw (hr.mono (by omega)) rfl m_draw k_draw b_draw (pv 0) (da_cons de_int da_nil)) de_int) (dss_cons (ds_set (i := 1) sc_sign.nd rfl (Or.inl rfl) de_str)
      (dss_one (ds_ret (de_ix (de_var 1) (de_callR xl (L2N.takes_of rfl rfl rfl rfl) G_draw (hr.mono (by omega)) rfl m_draw k_draw b_draw (pv 0) (da_cons (de_len rfl T.len (da_cons (de_var 1) da_nil)) da_nil)))))) dss_nil)
      (dss_cons (ds_set (i := 1) sc_sign.nd rfl (Or.inl rfl) de_str)
      (dss_cons (ds_set (i := 1) sc_sign.nd rfl (Or.inl rfl) (de_add (de_var 1) de_str))
      (dss_one (ds_ret (de_ix (de_var 1) (de_callR xl (L2N.takes_of rfl rfl rfl rfl) G_draw (hr.mono (by omega)) rfl m_draw k_draw b_draw (pv 0) (da_cons (de_len rfl T.len (da_cons (de_var 1) da_nil)) da_nil)))))))

abbrev s_parts_spoilt : Stmt := top 23
abbrev N_parts_spoilt : List Str := ["tray", "line", "odd", "joint", "parts", "at", "spot", "lot"]
abbrev p_parts_spoilt : List Str := ["tray", "line", "odd"]
theorem sc_parts_spoilt : FnScope N_parts_spoilt p_parts_spoilt (defScope s_parts_spoilt) := ⟨rfl, rfl, rfl, by decide +kernel, rfl, by decide +kernel, by decide +kernel⟩
theorem ok_parts_spoilt {f : Addr} {fd : FuncData} (T : Tx mg) (c_draw : Cal P w K mg base "_law_draw" 1 p_draw g_draw) (Fn : Fun K "_law_parts_spoilt" "_law_parts_spoilt" s_parts_spoilt f fd) : FnOk P w K mg base (L2N.CX P w) 2 f fd p_parts_spoilt (spOf g_parts_spoilt) := by
  obtain ⟨f_draw, fd_draw, G_draw, m_draw, k_draw, b_draw⟩ := c_draw
  refine fn_d Fn sc_parts_spoilt len_parts_spoilt fun cdv A outer s H E W dx hr xl => ⟨ds_parts_spoilt dx, ?_, fun args Q Eg hg hdx => by subst hdx; exact do_parts_spoilt args Q Eg hg⟩
  exact dss_cons (ds_set (i := 3) sc_parts_spoilt.nd rfl (Or.inl rfl) (de_ix (de_frz (dn_lst (da_cons de_str (da_cons de_str (da_cons de_str (da_cons de_str da_nil)))))) (de_callR xl (L2N.takes_of rfl rfl rfl rfl) G_draw (hr.mono (by omega)) rfl m_draw k_draw b_draw (pv 0) (da_cons de_int da_nil))))
      (dss_cons (ds_setN (i := 4) sc_parts_spoilt.nd rfl (Or.inl rfl) (dn_split (de_var 1) (de_var 3)))
      (dss_cons (ds_set (i := 5) sc_parts_spoilt.nd rfl (Or.inl rfl) (de_callR xl (L2N.takes_of rfl rfl rfl rfl) G_draw (hr.mono (by omega)) rfl m_draw k_draw b_draw (pv 0) (da_cons (de_lenV rfl T.len (pv 4)) da_nil)))
      (dss_cons (ds_set (i := 6) sc_parts_spoilt.nd rfl (Or.inl rfl) (de_callR xl (L2N.takes_of rfl rfl rfl rfl) G_draw (hr.mono (by omega)) rfl m_draw k_draw b_draw (pv 0) (da_cons (de_lenV rfl T.len (pv 4)) da_nil)))
      (dss_cons (ds_set (i := 7) sc_parts_spoilt.nd rfl (Or.inl rfl) (de_callR xl (L2N.takes_of rfl rfl rfl rfl) G_draw (hr.mono (by omega)) rfl m_draw k_draw b_draw (pv 0) (da_cons de_int da_nil)))
      (dss_cons (ds_if (dt_eq hr.units (de_var 7) de_int) (dss_one (ds_set (i := 4) sc_parts_spoilt.nd rfl (Or.inl rfl) (de_add (de_sl (de_var 4) do_none (do_some (de_var 5))) (de_sl (de_var 4) (do_some (de_add (de_var 5) de_int)) do_none)))) (dss_one (ds_if (dt_eq hr.units (de_var 7) de_int) (dss_one (ds_set (i := 4) sc_parts_spoilt.nd rfl (Or.inl rfl) (de_add (de_add (de_sl (de_var 4) do_none (do_some (de_var 5))) (de_sl (de_var 4) (do_some (de_var 5)) (do_some (de_add (de_var 5) de_int)))) (de_sl (de_var 4) (do_some (de_var 5)) do_none)))) (dss_one (ds_if (dt_eq hr.units (de_var 7) de_int) (dss_one (ds_asg (de_tup (da_cons (de_ixV (pv 4) (de_var 6)) (da_cons (de_ixV (pv 4) (de_var 5)) da_nil))) (dg_tup (n := 2) rfl (dgs_cons (dg_ix (pv 4) (de_var 5)) (dgs_cons (dg_ix (pv 4) (de_var 6)) dgs_nil))))) (dss_one (ds_setIx (pv 4) (de_var 5) (de_ix (de_var 2) (de_callR xl (L2N.takes_of rfl rfl rfl rfl) G_draw (hr.mono (by omega)) rfl m_draw k_draw b_draw (pv 0) (da_cons (de_len rfl T.len (da_cons (de_var 2) da_nil)) da_nil))))))))))
      (dss_one (ds_ret (de_join (de_var 3) (da_cons (de_var 4) da_nil)))))))))

abbrev s_spoilt : Stmt := top 24
abbrev N_spoilt : List Str := ["tray", "line", "odd", "lot", "at"]
abbrev p_spoilt : List Str := ["tray", "line", "odd"]
theorem sc_spoilt : FnScope N_spoilt p_spoilt (defScope s_spoilt) := ⟨rfl, rfl, rfl, by decide +kernel, rfl, by decide +kernel, by decide +kernel⟩
theorem ok_spoilt {f : Addr} {fd : FuncData} (T : Tx mg) (c_draw : Cal P w K mg base "_law_draw" 1 p_draw g_draw) (c_sign : Cal P w K mg base "_law_sign" 2 p_sign g_sign) (c_parts_spoilt : Cal P w K mg base "_law_parts_spoilt" 2 p_parts_spoilt g_parts_spoilt) (Fn : Fun K "_law_spoilt" "_law_spoilt" s_spoilt f fd) : FnOk P w K mg base (L2N.CX P w) 3 f fd p_spoilt (spOf g_spoilt) := by
  obtain ⟨f_draw, fd_draw, G_draw, m_draw, k_draw, b_draw⟩ := c_draw
  obtain ⟨f_sign, fd_sign, G_sign, m_sign, k_sign, b_sign⟩ := c_sign
  obtain ⟨f_parts_spoilt, fd_parts_spoilt, G_parts_spoilt, m_parts_spoilt, k_parts_spoilt, b_parts_spoilt⟩ := c_parts_spoilt
  refine fn_d Fn sc_spoilt len_spoilt fun cdv A outer s H E W dx hr xl => ⟨ds_spoilt dx, ?_, fun args Q Eg hg hdx => by subst hdx; exact do_spoilt args Q Eg hg⟩
  exact dss_cons (ds_set (i := 3) sc_spoilt.nd rfl (Or.inl rfl) (de_callR xl (L2N.takes_of rfl rfl rfl rfl) G_draw (hr.mono (by omega)) rfl m_draw k_draw b_draw (pv 0) (da_cons de_int da_nil)))
      (dss_cons (ds_set (i := 4) sc_spoilt.nd rfl (Or.inl rfl) (de_callR xl (L2N.takes_of rfl rfl rfl rfl) G_draw (hr.mono (by omega)) rfl m_draw k_draw b_draw (pv 0) (da_cons (de_add (de_len rfl T.len (da_cons (de_var 1) da_nil)) de_int) da_nil)))
      (dss_cons (ds_if (dt_eq hr.units (de_var 3) de_int) (dss_one (ds_ret (de_add (de_add (de_sl (de_var 1) do_none (do_some (de_var 4))) (de_callR xl (L2N.takes_of rfl rfl rfl rfl) G_sign (hr.mono (by omega)) rfl m_sign k_sign b_sign (pv 0) da_nil)) (de_sl (de_var 1) (do_some (de_var 4)) do_none)))) dss_nil)
      (dss_cons (ds_if (dt_eq hr.units (de_var 3) de_int) (dss_one (ds_ret (de_add (de_sl (de_var 1) do_none (do_some (de_var 4))) (de_sl (de_var 1) (do_some (de_add (de_var 4) de_int)) do_none)))) dss_nil)
      (dss_cons (ds_if (dt_eq hr.units (de_var 3) de_int) (dss_one (ds_ret (de_add (de_add (de_sl (de_var 1) do_none (do_some (de_var 4))) (de_callR xl (L2N.takes_of rfl rfl rfl rfl) G_sign (hr.mono (by omega)) rfl m_sign k_sign b_sign (pv 0) da_nil)) (de_sl (de_var 1) (do_some (de_add (de_var 4) de_int)) do_none)))) dss_nil)
      (dss_one (ds_ret (de_callR xl (L2N.takes_of rfl rfl rfl rfl) G_parts_spoilt (hr.mono (by omega)) rfl m_parts_spoilt k_parts_spoilt b_parts_spoilt (pv 0) (da_cons (de_var 1) (da_cons (de_var 2) da_nil)))))))))

abbrev s_odd : Stmt := top 25
abbrev N_odd : List Str := ["some"]
abbrev p_odd : List Str := []
theorem sc_odd : FnScope N_odd p_odd (defScope s_odd) := ⟨rfl, rfl, rfl, by decide +kernel, rfl, by decide +kernel, by decide +kernel⟩
theorem ok_odd {f : Addr} {fd : FuncData} (T : Tx mg) (Fn : Fun K "_law_odd" "_law_odd" s_odd f fd) : FnOk P w K mg base (L2N.CX P w) 1 f fd p_odd (spOf g_odd) := by
  refine fn_d Fn sc_odd len_odd fun cdv A outer s H E W dx hr xl => ⟨ds_odd dx, ?_, fun args Q Eg hg hdx => by subst hdx; exact do_odd args Q Eg hg⟩
  exact dss_cons (ds_set (i := 0) sc_odd.nd rfl (Or.inl rfl) (de_frz (dn_lst (da_cons de_str (da_cons de_str (da_cons de_str (da_cons de_str (da_cons de_str (da_cons de_str (da_cons de_str (da_cons de_str (da_cons de_str (da_cons de_str (da_cons de_str (da_cons de_str (da_cons de_str (da_cons de_str (da_cons de_str (da_cons de_str (da_cons de_str da_nil))))))))))))))))))))
      (dss_cons (ds_set (i := 0) sc_odd.nd rfl (Or.inl rfl) (de_add (de_var 0) (de_frz (dn_lst (da_cons (de_mulA de_str de_int) (da_cons (de_mulA de_str de_int) (da_cons de_str (da_cons de_str (da_cons de_str (da_cons de_str (da_cons de_str (da_cons de_str da_nil))))))))))))
      (dss_one (ds_ret (de_add (de_var 0) (de_frz (dn_lst (da_cons de_str (da_cons de_str (da_cons de_str (da_cons de_str (da_cons de_str (da_cons de_str (da_cons de_str da_nil)))))))))))))

abbrev s_number_of : Stmt := top 26
abbrev N_number_of : List Str := ["word", "sign"]
abbrev p_number_of : List Str := ["word"]
theorem sc_number_of : FnScope N_number_of p_number_of (defScope s_number_of) := ⟨rfl, rfl, rfl, by decide +kernel, rfl, by decide +kernel, by decide +kernel⟩
theorem ok_number_of {f : Addr} {fd : FuncData} (T : Tx mg) (Fn : Fun K "_law_number_of" "_law_number_of" s_number_of f fd) : FnOk P w K mg base (L2N.CX P w) 1 f fd p_number_of (spOf g_number_of) := by
  refine fn_d Fn sc_number_of len_number_of fun cdv A outer s H E W dx hr xl => ⟨ds_number_of dx, ?_, fun args Q Eg hg hdx => by subst hdx; exact do_number_of args Q Eg hg⟩
  exact dss_cons (ds_if (PDW.pt (dw_or (dt_eq hr.units (de_var 0) de_str) (dw_or (dt_gt (de_len rfl T.len (da_cons (de_var 0) da_nil)) de_int) (dw_or1 (dt_ne hr.units (de_frz (dn_lcIf (own := [("sign", 1)]) rfl sc_number_of.nd (di_str (de_var 0)) (blkOk_by (N := N_number_of) (sc := defScope s_number_of) (by decide +kernel)) (fun _ _ _ _ _ => dg_name (i := 1) sc_number_of.nd rfl (Or.inl rfl)) (fun _ _ _ _ _ => dt_notIn hr.units (de_var 1) de_str) (fun _ _ _ _ _ => de_var 1))) (de_frz (dn_lst da_nil))))))) (dss_one (ds_ret de_non)) dss_nil)
      (dss_one (ds_ret (de_if (PDW.pt (dw_or (dt_ne hr.units (de_ix (de_var 0) de_int) de_str) (dw_or1 (dt_eq hr.units (de_var 0) de_str)))) (de_intS rfl T.int (da_cons (de_var 0) da_nil)) de_non)))

abbrev s_stood_of : Stmt := top 27
abbrev N_stood_of : List Str := ["line", "parts", "numbers", "word"]
abbrev p_stood_of : List Str := ["line"]
theorem sc_stood_of : FnScope N_stood_of p_stood_of (defScope s_stood_of) := ⟨rfl, rfl, rfl, by decide +kernel, rfl, by decide +kernel, by decide +kernel⟩
theorem ok_stood_of {f : Addr} {fd : FuncData} (T : Tx mg) (c_number_of : Cal P w K mg base "_law_number_of" 1 p_number_of g_number_of) (Fn : Fun K "_law_stood_of" "_law_stood_of" s_stood_of f fd) : FnOk P w K mg base (L2N.CX P w) 2 f fd p_stood_of (spOf g_stood_of) := by
  obtain ⟨f_number_of, fd_number_of, G_number_of, m_number_of, k_number_of, b_number_of⟩ := c_number_of
  refine fn_d Fn sc_stood_of len_stood_of fun cdv A outer s H E W dx hr xl => ⟨ds_stood_of dx, ?_, fun args Q Eg hg hdx => by subst hdx; exact do_stood_of args Q Eg hg⟩
  exact dss_cons (ds_set (i := 1) sc_stood_of.nd rfl (Or.inl rfl) (de_split (de_var 0) (da_cons de_str da_nil)))
      (dss_cons (ds_if (PDW.pt (dw_or (dt_ne hr.units (de_len rfl T.len (da_cons (de_var 1) da_nil)) de_int) (dw_or1 (dt_notIn hr.units (de_ix (de_var 1) de_int) (de_frz (dn_lst (da_cons de_str (da_cons de_str da_nil)))))))) (dss_one (ds_ret de_non)) dss_nil)
      (dss_cons (ds_setLc (i := 2) (own := [("word", 3)]) rfl sc_stood_of.nd rfl rfl (sw_true rfl rfl rfl (by decide +kernel)) (di_list (de_split (de_ix (de_var 1) de_int) (da_cons de_str da_nil))) (blkOk_by (N := N_stood_of) (sc := defScope s_stood_of) (by decide +kernel)) (fun _ _ _ _ _ => dg_name (i := 3) sc_stood_of.nd rfl (Or.inl rfl)) (fun _ _ _ _ _ => de_call exl0 takes0N G_number_of (hr.mono (by omega)) rfl m_number_of k_number_of b_number_of .nil (fun _ => .nil) (da_cons (de_var 3) da_nil)))
      (dss_one (ds_ret (de_if (PDW.pt (dw_and (dt_eq hr.units (de_len rfl T.len (da_cons (de_var 2) da_nil)) de_int) (dw_and1 (dt_notIn hr.units de_non (de_var 2))))) (de_tup (da_cons (de_ix (de_var 2) de_int) (da_cons (de_ix (de_var 2) de_int) (da_cons (de_ix (de_var 1) de_int) da_nil)))) de_non)))))

abbrev s_is_number : Stmt := top 15
abbrev N_is_number : List Str := ["text", "figure"]
abbrev p_is_number : List Str := ["text"]
theorem sc_is_number : FnScope N_is_number p_is_number (defScope s_is_number) := ⟨rfl, rfl, rfl, by decide +kernel, rfl, by decide +kernel, by decide +kernel⟩
theorem ok_is_number {f : Addr} {fd : FuncData} (T : Tx mg) (Fn : Fun K "is_number" "is_number" s_is_number f fd) : FnOk P w K mg base (L2N.CX P w) 1 f fd p_is_number (spOf g_is_number) := by
  obtain ⟨t_DIGITS, m_DIGITS⟩ := T.DIGITS
  obtain ⟨t_FIGURES, m_FIGURES⟩ := T.FIGURES
  refine fn_d Fn sc_is_number len_is_number fun cdv A outer s H E W dx hr xl => ⟨ds_is_number dx, ?_, fun args Q Eg hg hdx => by subst hdx; exact do_is_number args Q Eg hg⟩
  exact dss_cons (ds_if (PDW.pt (dw_or (dt_not (dt_chain or_lt or_le od_lt od_lt de_int (de_len rfl T.len (da_cons (de_var 0) da_nil)) (de_globI rfl m_FIGURES))) (dw_or1 (dt_not (dt_val (de_all rfl rfl T.all (da_cons (de_frz (dn_lc (own := [("figure", 1)]) rfl sc_is_number.nd (di_str (de_var 0)) (blkOk_by (N := N_is_number) (sc := defScope s_is_number) (by decide +kernel)) (fun _ _ _ _ _ => dg_name (i := 1) sc_is_number.nd rfl (Or.inl rfl)) (fun _ _ _ _ _ => de_in hr.units (de_var 1) (de_globS rfl m_DIGITS)))) da_nil))))))) (dss_one (ds_ret de_bl)) dss_nil)
      (dss_one (ds_ret (de_or (de_eq hr.units (de_var 0) de_str) (de_one (de_ne hr.units (de_ix (de_var 0) de_int) de_str)))))

abbrev s_read_standing : Stmt := top 14
abbrev N_read_standing : List Str := ["text", "place", "_", "last", "i", "j"]
abbrev p_read_standing : List Str := ["text"]
theorem sc_read_standing : FnScope N_read_standing p_read_standing (defScope s_read_standing) := ⟨rfl, rfl, rfl, by decide +kernel, rfl, by decide +kernel, by decide +kernel⟩
theorem ok_read_standing {f : Addr} {fd : FuncData} (T : Tx mg) (c_is_number : Cal P w K mg base "is_number" 1 p_is_number g_is_number) (e_NoText : ErrC P w K mg base "NoText" C_NoText) (Fn : Fun K "read_standing" "read_standing" s_read_standing f fd) : FnOk P w K mg base (L2N.CX P w) 3 f fd p_read_standing (spOf (g_read_stand C_NoText)) := by
  obtain ⟨f_is_number, fd_is_number, G_is_number, m_is_number, k_is_number, b_is_number⟩ := c_is_number
  obtain ⟨t_FIRST, m_FIRST⟩ := T.FIRST
  obtain ⟨t_SECOND, m_SECOND⟩ := T.SECOND
  refine fn_d Fn sc_read_standing (len_read_stand C_NoText) fun cdv A outer s H E W dx hr xl => ⟨ds_read_stand C_NoText dx, ?_, fun args Q Eg hg hdx => by subst hdx; exact do_read_stand C_NoText args Q Eg hg⟩
  exact dss_cons (ds_asg (de_partition (de_var 0) (da_cons de_str da_nil)) (dg_tup (n := 3) rfl (dgs_cons (dg_name (i := 1) sc_read_standing.nd rfl (Or.inl rfl)) (dgs_cons (dg_name (i := 2) sc_read_standing.nd rfl (Or.inl rfl)) (dgs_cons (dg_name (i := 3) sc_read_standing.nd rfl (Or.inl rfl)) dgs_nil)))))
      (dss_cons (ds_asg (de_partition (de_var 1) (da_cons de_str da_nil)) (dg_tup (n := 3) rfl (dgs_cons (dg_name (i := 4) sc_read_standing.nd rfl (Or.inl rfl)) (dgs_cons (dg_name (i := 2) sc_read_standing.nd rfl (Or.inl rfl)) (dgs_cons (dg_name (i := 5) sc_read_standing.nd rfl (Or.inl rfl)) dgs_nil)))))
      (dss_cons (ds_if (dt_not (PDW.pt (dw_and (dt_val (de_call xl (L2N.takes_of rfl rfl rfl rfl) G_is_number (hr.mono (by omega)) rfl m_is_number k_is_number b_is_number .nil (fun _ => .nil) (da_cons (de_var 4) da_nil))) (dw_and (dt_val (de_call xl (L2N.takes_of rfl rfl rfl rfl) G_is_number (hr.mono (by omega)) rfl m_is_number k_is_number b_is_number .nil (fun _ => .nil) (da_cons (de_var 5) da_nil))) (dw_and1 (dt_in hr.units (de_var 3) (de_tup (da_cons (de_globS rfl m_FIRST) (da_cons (de_globS rfl m_SECOND) da_nil))))))))) (dss_one (ds_raise xl (L2N.takes_of rfl rfl rfl rfl) rfl e_NoText hr rfl (da_cons (de_var 0) da_nil))) dss_nil)
      (dss_one (ds_ret (de_tup (da_cons (de_intS rfl T.int (da_cons (de_var 4) da_nil)) (da_cons (de_intS rfl T.int (da_cons (de_var 5) da_nil)) (da_cons (de_var 3) da_nil))))))))

abbrev s_right : Stmt := top 29
abbrev N_right : List Str := ["line", "due", "found", "caught", "e"]
abbrev p_right : List Str := ["line"]
theorem sc_right : FnScope N_right p_right (defScope s_right) := ⟨rfl, rfl, rfl, by decide +kernel, rfl, by decide +kernel, by decide +kernel⟩
theorem ok_right {f : Addr} {fd : FuncData} (T : Tx mg) (c_stood_of : Cal P w K mg base "_law_stood_of" 2 p_stood_of g_stood_of) (c_read_standing : Cal P w K mg base "read_standing" 3 p_read_standing (g_read_stand C_NoText)) (c_alike : Cal P w K mg base "_law_alike" 6 p_alike (g_alike 5)) (g_FenceError : mg "FenceError" = some (.ref C_FenceError)) (kx : ∀ C, (C = C_NoText) → PySem.W.exmOne K (.ref C) (.ref C_FenceError) = some true) (kd : ∀ C, (C = C_NoText) → ExcD K C) (c_kind : CalX P w K mg base (fun C => C = C_NoText) "_law_kind" 1 p_kind g_kind) (Fn : Fun K "_law_right" "_law_right" s_right f fd) : FnOk P w K mg base (L2N.CX P w) 7 f fd p_right (spOf g_right) := by
  obtain ⟨f_stood_of, fd_stood_of, G_stood_of, m_stood_of, k_stood_of, b_stood_of⟩ := c_stood_of
  obtain ⟨f_read_standing, fd_read_standing, G_read_standing, m_read_standing, k_read_standing, b_read_standing⟩ := c_read_standing
  obtain ⟨f_alike, fd_alike, G_alike, m_alike, k_alike, b_alike⟩ := c_alike
  obtain ⟨f_kind, fd_kind, G_kind, m_kind, k_kind, b_kind⟩ := c_kind
  refine fn_d Fn sc_right len_right fun cdv A outer s H E W dx hr xl => ⟨ds_right C_NoText dx, ?_, fun args Q Eg hg hdx => by subst hdx; exact do_right C_NoText args Q Eg hg⟩
  exact dss_cons (ds_set (i := 1) sc_right.nd rfl (Or.inl rfl) (de_call xl (L2N.takes_of rfl rfl rfl rfl) G_stood_of (hr.mono (by omega)) rfl m_stood_of k_stood_of b_stood_of .nil (fun _ => .nil) (da_cons (de_var 0) da_nil)))
      (dss_cons (ds_set (i := 2) sc_right.nd rfl (Or.inl rfl) de_non)
      (dss_cons (ds_set (i := 3) sc_right.nd rfl (Or.inl rfl) (de_frz (dn_lst da_nil)))
      (dss_cons (ds_tryAsN (i := 4) (CF := C_FenceError) rfl rfl sc_right.nd rfl rfl ⟨rfl, by decide, .inl g_FenceError⟩ kx (fun W1 W2 pn xe dx1 tk1 px xw => (dss_one (ds_set (i := 2) sc_right.nd rfl (Or.inl rfl) (de_callGT xw tk1 G_read_standing (hr.mono (by omega)) rfl m_read_standing k_read_standing b_read_standing (ag_d (de_var 0) ag_nil))))) (fun a d C oe pn hC hz hf => (dss_one (ds_set (i := 3) sc_right.nd rfl (Or.inl rfl) (de_callX G_kind (hr.mono (by omega)) hC hz hf rfl m_kind k_kind b_kind (pv 4))))))
      (dss_cons (ds_if (dt_isN (de_var 1) de_non) (dss_one (ds_ret (de_call xl (L2N.takes_of rfl rfl rfl rfl) G_alike (hr.mono (by omega)) rfl m_alike k_alike b_alike .nil (fun _ => .nil) (da_cons (de_var 3) (da_cons (de_frz (dn_lst (da_cons de_str (da_cons (de_var 0) (da_cons de_bl da_nil))))) da_nil))))) dss_nil)
      (dss_one (ds_ret (de_and (de_eq hr.units (de_var 3) (de_frz (dn_lst da_nil))) (de_one (de_call xl (L2N.takes_of rfl rfl rfl rfl) G_alike (hr.mono (by omega)) rfl m_alike k_alike b_alike .nil (fun _ => .nil) (da_cons (de_var 2) (da_cons (de_var 1) da_nil)))))))))))

abbrev s_law : Stmt := top 30
abbrev N_law : List Str := ["script", "tray", "odd", "k", "one", "line", "turn"]
abbrev p_law : List Str := ["script"]
theorem sc_law : FnScope N_law p_law (defScope s_law) := ⟨rfl, rfl, rfl, by decide +kernel, rfl, by decide +kernel, by decide +kernel⟩
theorem ok_law {f : Addr} {fd : FuncData} (T : Tx mg) (c_tray : Cal P w K mg base "_law_tray" 1 p_tray (g_trayK K)) (c_odd : Cal P w K mg base "_law_odd" 1 p_odd g_odd) (c_any_stood : Cal P w K mg base "_law_any_stood" 3 p_any_stood g_any_stood) (c_draw : Cal P w K mg base "_law_draw" 1 p_draw g_draw) (c_spoilt : Cal P w K mg base "_law_spoilt" 3 p_spoilt g_spoilt) (c_right : Cal P w K mg base "_law_right" 7 p_right g_right) (Fn : Fun K "law" "law" s_law f fd) : FnOk P w K mg base (L2N.CX P w) 8 f fd p_law (spOf (g_law K)) := by
  obtain ⟨f_tray, fd_tray, G_tray, m_tray, k_tray, b_tray⟩ := c_tray
  obtain ⟨f_odd, fd_odd, G_odd, m_odd, k_odd, b_odd⟩ := c_odd
  obtain ⟨f_any_stood, fd_any_stood, G_any_stood, m_any_stood, k_any_stood, b_any_stood⟩ := c_any_stood
  obtain ⟨f_draw, fd_draw, G_draw, m_draw, k_draw, b_draw⟩ := c_draw
  obtain ⟨f_spoilt, fd_spoilt, G_spoilt, m_spoilt, k_spoilt, b_spoilt⟩ := c_spoilt
  obtain ⟨f_right, fd_right, G_right, m_right, k_right, b_right⟩ := c_right
  refine fn_d Fn sc_law (len_law K) fun cdv A outer s H E W dx hr xl => ⟨ds_law K dx, ?_, fun args Q Eg hg hdx => by subst hdx; exact do_law K args Q Eg hg⟩
  exact dss_cons (ds_setN (i := 1) sc_law.nd rfl (Or.inl rfl) (dn_callRN xl (L2N.takes_of rfl rfl rfl rfl) G_tray (hr.mono (by omega)) rfl m_tray k_tray b_tray (pv 0) da_nil))
      (dss_cons (ds_set (i := 2) sc_law.nd rfl (Or.inl rfl) (de_callG0 xl (L2N.takes_of rfl rfl rfl rfl) G_odd (hr.mono (by omega)) rfl m_odd k_odd b_odd))
      (dss_cons (ds_for (passes_of rfl) rfl (di_r1 rfl T.range (da_cons (de_add de_int (de_mulA de_int (de_len rfl T.len (da_cons (de_slScr (pv 0) do_none (do_some de_int)) da_nil)))) da_nil)) (dg_name (i := 3) sc_law.nd rfl (Or.inl rfl)) (dss_cons (ds_set (i := 4) sc_law.nd rfl (Or.inl rfl) (de_callR xl (L2N.takes_of rfl rfl rfl rfl) G_any_stood (hr.mono (by omega)) rfl m_any_stood k_any_stood b_any_stood (pv 1) da_nil))
      (dss_cons (ds_set (i := 5) sc_law.nd rfl (Or.inl rfl) (de_add (de_add (de_add (de_add (de_str1 rfl T.str (da_cons (de_ix (de_var 4) de_int) da_nil)) de_str) (de_str1 rfl T.str (da_cons (de_ix (de_var 4) de_int) da_nil))) de_str) (de_ix (de_var 4) de_int)))
      (dss_cons (ds_if (dt_eq hr.units (de_callR xl (L2N.takes_of rfl rfl rfl rfl) G_draw (hr.mono (by omega)) rfl m_draw k_draw b_draw (pv 1) (da_cons de_int da_nil)) de_int) (dss_one (ds_set (i := 5) sc_law.nd rfl (Or.inl rfl) (de_ix (de_var 2) (de_callR xl (L2N.takes_of rfl rfl rfl rfl) G_draw (hr.mono (by omega)) rfl m_draw k_draw b_draw (pv 1) (da_cons (de_len rfl T.len (da_cons (de_var 2) da_nil)) da_nil))))) dss_nil)
      (dss_cons (ds_for (passes_of rfl) rfl (di_r1 rfl T.range (da_cons (de_ix (de_frz (dn_lst (da_cons de_int (da_cons de_int (da_cons de_int (da_cons de_int (da_cons de_int da_nil))))))) (de_callR xl (L2N.takes_of rfl rfl rfl rfl) G_draw (hr.mono (by omega)) rfl m_draw k_draw b_draw (pv 1) (da_cons de_int da_nil))) da_nil)) (dg_name (i := 6) sc_law.nd rfl (Or.inl rfl)) (dss_one (ds_set (i := 5) sc_law.nd rfl (Or.inl rfl) (de_callR xl (L2N.takes_of rfl rfl rfl rfl) G_spoilt (hr.mono (by omega)) rfl m_spoilt k_spoilt b_spoilt (pv 1) (da_cons (de_var 5) (da_cons (de_var 2) da_nil))))))
      (dss_one (ds_if (dt_not (dt_val (de_call xl (L2N.takes_of rfl rfl rfl rfl) G_right (hr.mono (by omega)) rfl m_right k_right b_right .nil (fun _ => .nil) (da_cons (de_sl (de_var 5) do_none (do_some de_int)) da_nil)))) (dss_one (ds_ret de_bl)) dss_nil)))))))
      (dss_one (ds_ret de_bl))))

abbrev s_xi_NoText : Stmt := inClass (top 8) 0
theorem sc_xi_NoText : FnScope ["self", "what"] ["self", "what"] (defScope s_xi_NoText) := ⟨rfl, rfl, rfl, by decide +kernel, rfl, by decide +kernel, by decide +kernel⟩
theorem ok_xi_NoText {f : Addr} {fd : FuncData} (Fn : Fun K "__init__" "NoText.__init__" s_xi_NoText f fd) : FnOk P w K mg base (L2N.CX P w) 1 f fd ["self", "what"] (spXI K) :=
  ok_xinit rfl Fn sc_xi_NoText fun cdv A outer s H E => pss_one (ps_ost (pv 0) (pv 1))

end
section
theorem all_mk {P : Program} {w : World} {K : PySem.W.Frag} {h : Heap} {mg : Str → Option Value} {fa : Addr} (X : K.In h) (G : h.Ns mainGlobals mg) (hfa : mg "law" = some (.ref fa))
    {C_NoText : Addr} {nm_NoText q_NoText : Str} {N_NoText b0_NoText : Addr} {bs_NoText : List Value} {sn_NoText : List Str} {sub_NoText : List Value} {ab_NoText : Bool} {col_NoText : Option Bool} {dd_NoText : Option Addr} {m0_NoText m1_NoText m2_NoText m3_NoText m5_NoText : Option Value}
    {f_xi_NoText : Addr} {oc_xi_NoText kV_xi_NoText dc_xi_NoText pm_xi_NoText cd_xi_NoText ct_xi_NoText : Value} {od_xi_NoText an_xi_NoText : Option Addr} {sl_xi_NoText : Array (Option Value)}
    {C_FenceError : Addr}
    {C_NoPlace : Addr}
    {C_NoRow : Addr}
    {C_NoRound : Addr}
    {C_NoTicks : Addr}
    {C_NoLast : Addr}
    {C_NoTimes : Addr}
    {f_tray : Addr} {oc_tray kV_tray dc_tray pm_tray cd_tray ct_tray : Value} {od_tray an_tray : Option Addr} {sl_tray : Array (Option Value)}
    {f_draw : Addr} {oc_draw kV_draw dc_draw pm_draw cd_draw ct_draw : Value} {od_draw an_draw : Option Addr} {sl_draw : Array (Option Value)}
    {f_great : Addr} {oc_great kV_great dc_great pm_great cd_great ct_great : Value} {od_great an_great : Option Addr} {sl_great : Array (Option Value)}
    {f_alike : Addr} {oc_alike kV_alike dc_alike pm_alike cd_alike ct_alike : Value} {od_alike an_alike : Option Addr} {sl_alike : Array (Option Value)}
    {f_any_stood : Addr} {oc_any_stood kV_any_stood dc_any_stood pm_any_stood cd_any_stood ct_any_stood : Value} {od_any_stood an_any_stood : Option Addr} {sl_any_stood : Array (Option Value)}
    {f_kind : Addr} {oc_kind kV_kind dc_kind pm_kind cd_kind ct_kind : Value} {od_kind an_kind : Option Addr} {sl_kind : Array (Option Value)}
    {f_sign : Addr} {oc_sign kV_sign dc_sign pm_sign cd_sign ct_sign : Value} {od_sign an_sign : Option Addr} {sl_sign : Array (Option Value)}
    {f_parts_spoilt : Addr} {oc_parts_spoilt kV_parts_spoilt dc_parts_spoilt pm_parts_spoilt cd_parts_spoilt ct_parts_spoilt : Value} {od_parts_spoilt an_parts_spoilt : Option Addr} {sl_parts_spoilt : Array (Option Value)}
    {f_spoilt : Addr} {oc_spoilt kV_spoilt dc_spoilt pm_spoilt cd_spoilt ct_spoilt : Value} {od_spoilt an_spoilt : Option Addr} {sl_spoilt : Array (Option Value)}
    {f_odd : Addr} {oc_odd kV_odd dc_odd pm_odd cd_odd ct_odd : Value} {od_odd an_odd : Option Addr} {sl_odd : Array (Option Value)}
    {f_number_of : Addr} {oc_number_of kV_number_of dc_number_of pm_number_of cd_number_of ct_number_of : Value} {od_number_of an_number_of : Option Addr} {sl_number_of : Array (Option Value)}
    {f_stood_of : Addr} {oc_stood_of kV_stood_of dc_stood_of pm_stood_of cd_stood_of ct_stood_of : Value} {od_stood_of an_stood_of : Option Addr} {sl_stood_of : Array (Option Value)}
    {f_is_number : Addr} {oc_is_number kV_is_number dc_is_number pm_is_number cd_is_number ct_is_number : Value} {od_is_number an_is_number : Option Addr} {sl_is_number : Array (Option Value)}
    {f_read_standing : Addr} {oc_read_standing kV_read_standing dc_read_standing pm_read_standing cd_read_standing ct_read_standing : Value} {od_read_standing an_read_standing : Option Addr} {sl_read_standing : Array (Option Value)}
    {f_right : Addr} {oc_right kV_right dc_right pm_right cd_right ct_right : Value} {od_right an_right : Option Addr} {sl_right : Array (Option Value)}
    {f_law : Addr} {oc_law kV_law dc_law pm_law cd_law ct_law : Value} {od_law an_law : Option Addr} {sl_law : Array (Option Value)}
    {t_DIGITS : Tok}
    {t_FIGURES : Tok}
    {t_FIRST : Tok}
    {t_SECOND : Tok}
    (a_NoText : PySem.W.nsIn K mainGlobals "NoText" = some (some (.ref C_NoText))) (x_NoText : K.lookup C_NoText = some (excClassObj nm_NoText q_NoText C_NoText N_NoText bs_NoText [.ref b0_NoText, .type "ValueError", .type "Exception", .type "BaseException", .type "object"] true sn_NoText sub_NoText ab_NoText col_NoText dd_NoText m0_NoText m1_NoText m2_NoText m3_NoText m5_NoText "ValueError.__new__")) (sa_NoText : PySem.W.findIn K (.ref C_NoText) "__setattr__" = some (some (.builtin "object.__setattr__"))) (e_NoText : PySem.W.subIn K (.ref C_NoText) (.type "BaseException") = some true) (ty_NoText : PySem.W.typeIn K (.ref C_NoText) = some (.type "type")) (kc_NoText : PySem.W.keepIn K (.ref C_NoText) = true) (nw_NoText : PySem.W.findIn K (.ref C_NoText) "what" = some none)
    (i_xi_NoText : PySem.W.findIn K (.ref C_NoText) "__init__" = some (some (.ref f_xi_NoText))) (ti_xi_NoText : PySem.W.typeIn K (.ref f_xi_NoText) = some (.type "function")) (l_xi_NoText : K.lookup f_xi_NoText = some ⟨oc_xi_NoText, od_xi_NoText, .func (PySem.W.fnOf "__init__" "NoText.__init__" (defArgs s_xi_NoText) (defBody s_xi_NoText) (defScope s_xi_NoText) .none kV_xi_NoText dc_xi_NoText pm_xi_NoText an_xi_NoText cd_xi_NoText ct_xi_NoText), sl_xi_NoText⟩) (c_xi_NoText : PySem.W.codeIn K cd_xi_NoText "NoText.__init__" = true) (k_xi_NoText : PySem.W.keepIn K (.ref f_xi_NoText) = true)
    (a_FenceError : PySem.W.nsIn K mainGlobals "FenceError" = some (some (.ref C_FenceError)))
    (a_NoPlace : PySem.W.nsIn K mainGlobals "NoPlace" = some (some (.ref C_NoPlace)))
    (a_NoRow : PySem.W.nsIn K mainGlobals "NoRow" = some (some (.ref C_NoRow)))
    (a_NoRound : PySem.W.nsIn K mainGlobals "NoRound" = some (some (.ref C_NoRound)))
    (a_NoTicks : PySem.W.nsIn K mainGlobals "NoTicks" = some (some (.ref C_NoTicks)))
    (a_NoLast : PySem.W.nsIn K mainGlobals "NoLast" = some (some (.ref C_NoLast)))
    (a_NoTimes : PySem.W.nsIn K mainGlobals "NoTimes" = some (some (.ref C_NoTimes)))
    (f1_FenceError : PySem.W.subIn K (.ref C_FenceError) (.type "BaseException") = some true) (f2_FenceError : PySem.W.hasDictIn K C_FenceError = true) (f3_FenceError : PySem.W.typeIn K (.ref C_FenceError) = some (.type "type"))
    (cn0 : PySem.W.specialIn K (.builtin "object.__class__") "__get__" = some (some (.builtin "getset_descriptor.__get__"))) (ct0 : PySem.W.takesIn K (.builtin "object.__class__") = some true)
    (s_NoText : PySem.W.subIn K (.ref C_NoText) (.ref C_FenceError) = some true) (ga_NoText : PySem.W.findIn K (.ref C_NoText) "__getattribute__" = some (some (.builtin "BaseException.__getattribute__"))) (gt_NoText : PySem.W.findIn K (.ref C_NoText) "__getattr__" = some none) (hd_NoText : PySem.W.hasDictIn K C_NoText = true) (ca_NoText : PySem.W.findIn K (.ref C_NoText) "__class__" = some (some (.builtin "object.__class__"))) (mr_NoText : PySem.W.mroIn K C_NoText (.type "object") = some true)
    (ki_k1 : PySem.W.kitOne K (.ref C_NoText) (.ref C_NoRound) = some false)
    (ki_k2 : PySem.W.kitOne K (.ref C_NoText) (.ref C_NoRow) = some false)
    (ki_k3 : PySem.W.kitOne K (.ref C_NoText) (.ref C_NoPlace) = some false)
    (ki_k4 : PySem.W.kitOne K (.ref C_NoText) (.ref C_NoLast) = some false)
    (ki_k5 : PySem.W.kitOne K (.ref C_NoText) (.ref C_NoTicks) = some false)
    (ki_k6 : PySem.W.kitOne K (.ref C_NoText) (.ref C_NoTimes) = some false)
    (ki_k7 : PySem.W.kitOne K (.ref C_NoText) (.ref C_NoText) = some true)
    (ki_kv : PySem.W.kitOne K (.ref C_NoText) (.type "ValueError") = some true)
    (a_tray : PySem.W.nsIn K mainGlobals "_law_tray" = some (some (.ref f_tray))) (l_tray : K.lookup f_tray = some ⟨oc_tray, od_tray, .func (PySem.W.fnOf "_law_tray" "_law_tray" (defArgs s_tray) (defBody s_tray) (defScope s_tray) .none kV_tray dc_tray pm_tray an_tray cd_tray ct_tray), sl_tray⟩) (c_tray : PySem.W.codeIn K cd_tray "_law_tray" = true) (k_tray : PySem.W.keepIn K (.ref f_tray) = true)
    (a_draw : PySem.W.nsIn K mainGlobals "_law_draw" = some (some (.ref f_draw))) (l_draw : K.lookup f_draw = some ⟨oc_draw, od_draw, .func (PySem.W.fnOf "_law_draw" "_law_draw" (defArgs s_draw) (defBody s_draw) (defScope s_draw) .none kV_draw dc_draw pm_draw an_draw cd_draw ct_draw), sl_draw⟩) (c_draw : PySem.W.codeIn K cd_draw "_law_draw" = true) (k_draw : PySem.W.keepIn K (.ref f_draw) = true)
    (a_great : PySem.W.nsIn K mainGlobals "_law_great" = some (some (.ref f_great))) (l_great : K.lookup f_great = some ⟨oc_great, od_great, .func (PySem.W.fnOf "_law_great" "_law_great" (defArgs s_great) (defBody s_great) (defScope s_great) .none kV_great dc_great pm_great an_great cd_great ct_great), sl_great⟩) (c_great : PySem.W.codeIn K cd_great "_law_great" = true) (k_great : PySem.W.keepIn K (.ref f_great) = true)
    (a_alike : PySem.W.nsIn K mainGlobals "_law_alike" = some (some (.ref f_alike))) (l_alike : K.lookup f_alike = some ⟨oc_alike, od_alike, .func (PySem.W.fnOf "_law_alike" "_law_alike" (defArgs s_alike) (defBody s_alike) (defScope s_alike) .none kV_alike dc_alike pm_alike an_alike cd_alike ct_alike), sl_alike⟩) (c_alike : PySem.W.codeIn K cd_alike "_law_alike" = true) (k_alike : PySem.W.keepIn K (.ref f_alike) = true)
    (a_any_stood : PySem.W.nsIn K mainGlobals "_law_any_stood" = some (some (.ref f_any_stood))) (l_any_stood : K.lookup f_any_stood = some ⟨oc_any_stood, od_any_stood, .func (PySem.W.fnOf "_law_any_stood" "_law_any_stood" (defArgs s_any_stood) (defBody s_any_stood) (defScope s_any_stood) .none kV_any_stood dc_any_stood pm_any_stood an_any_stood cd_any_stood ct_any_stood), sl_any_stood⟩) (c_any_stood : PySem.W.codeIn K cd_any_stood "_law_any_stood" = true) (k_any_stood : PySem.W.keepIn K (.ref f_any_stood) = true)
    (a_kind : PySem.W.nsIn K mainGlobals "_law_kind" = some (some (.ref f_kind))) (l_kind : K.lookup f_kind = some ⟨oc_kind, od_kind, .func (PySem.W.fnOf "_law_kind" "_law_kind" (defArgs s_kind) (defBody s_kind) (defScope s_kind) .none kV_kind dc_kind pm_kind an_kind cd_kind ct_kind), sl_kind⟩) (c_kind : PySem.W.codeIn K cd_kind "_law_kind" = true) (k_kind : PySem.W.keepIn K (.ref f_kind) = true)
    (a_sign : PySem.W.nsIn K mainGlobals "_law_sign" = some (some (.ref f_sign))) (l_sign : K.lookup f_sign = some ⟨oc_sign, od_sign, .func (PySem.W.fnOf "_law_sign" "_law_sign" (defArgs s_sign) (defBody s_sign) (defScope s_sign) .none kV_sign dc_sign pm_sign an_sign cd_sign ct_sign), sl_sign⟩) (c_sign : PySem.W.codeIn K cd_sign "_law_sign" = true) (k_sign : PySem.W.keepIn K (.ref f_sign) = true)
    (a_parts_spoilt : PySem.W.nsIn K mainGlobals "_law_parts_spoilt" = some (some (.ref f_parts_spoilt))) (l_parts_spoilt : K.lookup f_parts_spoilt = some ⟨oc_parts_spoilt, od_parts_spoilt, .func (PySem.W.fnOf "_law_parts_spoilt" "_law_parts_spoilt" (defArgs s_parts_spoilt) (defBody s_parts_spoilt) (defScope s_parts_spoilt) .none kV_parts_spoilt dc_parts_spoilt pm_parts_spoilt an_parts_spoilt cd_parts_spoilt ct_parts_spoilt), sl_parts_spoilt⟩) (c_parts_spoilt : PySem.W.codeIn K cd_parts_spoilt "_law_parts_spoilt" = true) (k_parts_spoilt : PySem.W.keepIn K (.ref f_parts_spoilt) = true)
    (a_spoilt : PySem.W.nsIn K mainGlobals "_law_spoilt" = some (some (.ref f_spoilt))) (l_spoilt : K.lookup f_spoilt = some ⟨oc_spoilt, od_spoilt, .func (PySem.W.fnOf "_law_spoilt" "_law_spoilt" (defArgs s_spoilt) (defBody s_spoilt) (defScope s_spoilt) .none kV_spoilt dc_spoilt pm_spoilt an_spoilt cd_spoilt ct_spoilt), sl_spoilt⟩) (c_spoilt : PySem.W.codeIn K cd_spoilt "_law_spoilt" = true) (k_spoilt : PySem.W.keepIn K (.ref f_spoilt) = true)
    (a_odd : PySem.W.nsIn K mainGlobals "_law_odd" = some (some (.ref f_odd))) (l_odd : K.lookup f_odd = some ⟨oc_odd, od_odd, .func (PySem.W.fnOf "_law_odd" "_law_odd" (defArgs s_odd) (defBody s_odd) (defScope s_odd) .none kV_odd dc_odd pm_odd an_odd cd_odd ct_odd), sl_odd⟩) (c_odd : PySem.W.codeIn K cd_odd "_law_odd" = true) (k_odd : PySem.W.keepIn K (.ref f_odd) = true)
    (a_number_of : PySem.W.nsIn K mainGlobals "_law_number_of" = some (some (.ref f_number_of))) (l_number_of : K.lookup f_number_of = some ⟨oc_number_of, od_number_of, .func (PySem.W.fnOf "_law_number_of" "_law_number_of" (defArgs s_number_of) (defBody s_number_of) (defScope s_number_of) .none kV_number_of dc_number_of pm_number_of an_number_of cd_number_of ct_number_of), sl_number_of⟩) (c_number_of : PySem.W.codeIn K cd_number_of "_law_number_of" = true) (k_number_of : PySem.W.keepIn K (.ref f_number_of) = true)
    (a_stood_of : PySem.W.nsIn K mainGlobals "_law_stood_of" = some (some (.ref f_stood_of))) (l_stood_of : K.lookup f_stood_of = some ⟨oc_stood_of, od_stood_of, .func (PySem.W.fnOf "_law_stood_of" "_law_stood_of" (defArgs s_stood_of) (defBody s_stood_of) (defScope s_stood_of) .none kV_stood_of dc_stood_of pm_stood_of an_stood_of cd_stood_of ct_stood_of), sl_stood_of⟩) (c_stood_of : PySem.W.codeIn K cd_stood_of "_law_stood_of" = true) (k_stood_of : PySem.W.keepIn K (.ref f_stood_of) = true)
    (a_is_number : PySem.W.nsIn K mainGlobals "is_number" = some (some (.ref f_is_number))) (l_is_number : K.lookup f_is_number = some ⟨oc_is_number, od_is_number, .func (PySem.W.fnOf "is_number" "is_number" (defArgs s_is_number) (defBody s_is_number) (defScope s_is_number) .none kV_is_number dc_is_number pm_is_number an_is_number cd_is_number ct_is_number), sl_is_number⟩) (c_is_number : PySem.W.codeIn K cd_is_number "is_number" = true) (k_is_number : PySem.W.keepIn K (.ref f_is_number) = true)
    (a_read_standing : PySem.W.nsIn K mainGlobals "read_standing" = some (some (.ref f_read_standing))) (l_read_standing : K.lookup f_read_standing = some ⟨oc_read_standing, od_read_standing, .func (PySem.W.fnOf "read_standing" "read_standing" (defArgs s_read_standing) (defBody s_read_standing) (defScope s_read_standing) .none kV_read_standing dc_read_standing pm_read_standing an_read_standing cd_read_standing ct_read_standing), sl_read_standing⟩) (c_read_standing : PySem.W.codeIn K cd_read_standing "read_standing" = true) (k_read_standing : PySem.W.keepIn K (.ref f_read_standing) = true)
    (a_right : PySem.W.nsIn K mainGlobals "_law_right" = some (some (.ref f_right))) (l_right : K.lookup f_right = some ⟨oc_right, od_right, .func (PySem.W.fnOf "_law_right" "_law_right" (defArgs s_right) (defBody s_right) (defScope s_right) .none kV_right dc_right pm_right an_right cd_right ct_right), sl_right⟩) (c_right : PySem.W.codeIn K cd_right "_law_right" = true) (k_right : PySem.W.keepIn K (.ref f_right) = true)
    (a_law : PySem.W.nsIn K mainGlobals "law" = some (some (.ref f_law))) (l_law : K.lookup f_law = some ⟨oc_law, od_law, .func (PySem.W.fnOf "law" "law" (defArgs s_law) (defBody s_law) (defScope s_law) .none kV_law dc_law pm_law an_law cd_law ct_law), sl_law⟩) (c_law : PySem.W.codeIn K cd_law "law" = true) (k_law : PySem.W.keepIn K (.ref f_law) = true)
    (q_DIGITS : PySem.W.nsIn K mainGlobals "DIGITS" = some (some (.str "0123456789" t_DIGITS)))
    (q_FIGURES : PySem.W.nsIn K mainGlobals "FIGURES" = some (some (.int 60 t_FIGURES)))
    (q_FIRST : PySem.W.nsIn K mainGlobals "FIRST" = some (some (.str "first" t_FIRST)))
    (q_SECOND : PySem.W.nsIn K mainGlobals "SECOND" = some (some (.str "second" t_SECOND)))
    (z_len : PySem.W.nsIn K mainGlobals "len" = some none)
    (z_range : PySem.W.nsIn K mainGlobals "range" = some none)
    (z_max : PySem.W.nsIn K mainGlobals "max" = some none)
    (z_min : PySem.W.nsIn K mainGlobals "min" = some none)
    (z_abs : PySem.W.nsIn K mainGlobals "abs" = some none)
    (z_int : PySem.W.nsIn K mainGlobals "int" = some none)
    (z_str : PySem.W.nsIn K mainGlobals "str" = some none)
    (z_bool : PySem.W.nsIn K mainGlobals "bool" = some none)
    (z_list : PySem.W.nsIn K mainGlobals "list" = some none)
    (z_tuple : PySem.W.nsIn K mainGlobals "tuple" = some none)
    (z_dict : PySem.W.nsIn K mainGlobals "dict" = some none)
    (z_set : PySem.W.nsIn K mainGlobals "set" = some none)
    (z_sum : PySem.W.nsIn K mainGlobals "sum" = some none)
    (z_all : PySem.W.nsIn K mainGlobals "all" = some none)
    (z_any : PySem.W.nsIn K mainGlobals "any" = some none)
    (z_sorted : PySem.W.nsIn K mainGlobals "sorted" = some none)
    (z_isinstance : PySem.W.nsIn K mainGlobals "isinstance" = some none)
    (z_enumerate : PySem.W.nsIn K mainGlobals "enumerate" = some none)
    (z_zip : PySem.W.nsIn K mainGlobals "zip" = some none)
    (z_ValueError : PySem.W.nsIn K mainGlobals "ValueError" = some none)
    : ∃ fd : FuncData, (∀ (s : Shared) (u : Value), BindsTo s fd ⟨[u], []⟩ [("script", u)]) ∧ ∀ base : Heap, K.In base → base.Ns mainGlobals mg → FnOk P w K mg base (L2N.CX P w) 8 fa fd ["script"] (spOf (g_law K)) := by
  have e := hfa.symm.trans (PySem.W.mg_of X G a_law)
  cases e
  have F_xi_NoText := fun_mk (st := s_xi_NoText) l_xi_NoText c_xi_NoText k_xi_NoText
  have b_xi_NoText := F_xi_NoText.binds (ps := ["self", "what"]) fun _ _ _ _ _ _ us hl => match us, hl with | [_, _], _ => rfl
  have F_tray := fun_mk (st := s_tray) l_tray c_tray k_tray
  have b_tray := F_tray.binds (ps := p_tray) fun _ _ _ _ _ _ us hl => match us, hl with | [_], _ => rfl
  have F_draw := fun_mk (st := s_draw) l_draw c_draw k_draw
  have b_draw := F_draw.binds (ps := p_draw) fun _ _ _ _ _ _ us hl => match us, hl with | [_, _], _ => rfl
  have F_great := fun_mk (st := s_great) l_great c_great k_great
  have b_great := F_great.binds (ps := p_great) fun _ _ _ _ _ _ us hl => match us, hl with | [_], _ => rfl
  have F_alike := fun_mk (st := s_alike) l_alike c_alike k_alike
  have b_alike := F_alike.binds (ps := p_alike) fun _ _ _ _ _ _ us hl => match us, hl with | [_, _], _ => rfl
  have F_any_stood := fun_mk (st := s_any_stood) l_any_stood c_any_stood k_any_stood
  have b_any_stood := F_any_stood.binds (ps := p_any_stood) fun _ _ _ _ _ _ us hl => match us, hl with | [_], _ => rfl
  have F_kind := fun_mk (st := s_kind) l_kind c_kind k_kind
  have b_kind := F_kind.binds (ps := p_kind) fun _ _ _ _ _ _ us hl => match us, hl with | [_], _ => rfl
  have F_sign := fun_mk (st := s_sign) l_sign c_sign k_sign
  have b_sign := F_sign.binds (ps := p_sign) fun _ _ _ _ _ _ us hl => match us, hl with | [_], _ => rfl
  have F_parts_spoilt := fun_mk (st := s_parts_spoilt) l_parts_spoilt c_parts_spoilt k_parts_spoilt
  have b_parts_spoilt := F_parts_spoilt.binds (ps := p_parts_spoilt) fun _ _ _ _ _ _ us hl => match us, hl with | [_, _, _], _ => rfl
  have F_spoilt := fun_mk (st := s_spoilt) l_spoilt c_spoilt k_spoilt
  have b_spoilt := F_spoilt.binds (ps := p_spoilt) fun _ _ _ _ _ _ us hl => match us, hl with | [_, _, _], _ => rfl
  have F_odd := fun_mk (st := s_odd) l_odd c_odd k_odd
  have b_odd := F_odd.binds (ps := p_odd) fun _ _ _ _ _ _ us hl => match us, hl with | [], _ => rfl
  have F_number_of := fun_mk (st := s_number_of) l_number_of c_number_of k_number_of
  have b_number_of := F_number_of.binds (ps := p_number_of) fun _ _ _ _ _ _ us hl => match us, hl with | [_], _ => rfl
  have F_stood_of := fun_mk (st := s_stood_of) l_stood_of c_stood_of k_stood_of
  have b_stood_of := F_stood_of.binds (ps := p_stood_of) fun _ _ _ _ _ _ us hl => match us, hl with | [_], _ => rfl
  have F_is_number := fun_mk (st := s_is_number) l_is_number c_is_number k_is_number
  have b_is_number := F_is_number.binds (ps := p_is_number) fun _ _ _ _ _ _ us hl => match us, hl with | [_], _ => rfl
  have F_read_standing := fun_mk (st := s_read_standing) l_read_standing c_read_standing k_read_standing
  have b_read_standing := F_read_standing.binds (ps := p_read_standing) fun _ _ _ _ _ _ us hl => match us, hl with | [_], _ => rfl
  have F_right := fun_mk (st := s_right) l_right c_right k_right
  have b_right := F_right.binds (ps := p_right) fun _ _ _ _ _ _ us hl => match us, hl with | [_], _ => rfl
  have F_law := fun_mk (st := s_law) l_law c_law k_law
  have T : Tx mg := { len := PySem.W.mg_none_of X G z_len, range := PySem.W.mg_none_of X G z_range, max := PySem.W.mg_none_of X G z_max, min := PySem.W.mg_none_of X G z_min, abs := PySem.W.mg_none_of X G z_abs, int := PySem.W.mg_none_of X G z_int, str := PySem.W.mg_none_of X G z_str, bool := PySem.W.mg_none_of X G z_bool, list := PySem.W.mg_none_of X G z_list, tuple := PySem.W.mg_none_of X G z_tuple, dict := PySem.W.mg_none_of X G z_dict, set := PySem.W.mg_none_of X G z_set, sum := PySem.W.mg_none_of X G z_sum, all := PySem.W.mg_none_of X G z_all, any := PySem.W.mg_none_of X G z_any, sorted := PySem.W.mg_none_of X G z_sorted, isinstance := PySem.W.mg_none_of X G z_isinstance, enumerate := PySem.W.mg_none_of X G z_enumerate, zip := PySem.W.mg_none_of X G z_zip, ValueError := PySem.W.mg_none_of X G z_ValueError, DIGITS := ⟨_, PySem.W.mg_of X G q_DIGITS⟩, FIGURES := ⟨_, PySem.W.mg_of X G q_FIGURES⟩, FIRST := ⟨_, PySem.W.mg_of X G q_FIRST⟩, SECOND := ⟨_, PySem.W.mg_of X G q_SECOND⟩ }
  refine ⟨_, fun s v => (?_ : BindsTo s (PySem.W.fnOf "law" "law" (defArgs s_law) (defBody s_law) (defScope s_law) .none kV_law dc_law pm_law an_law cd_law ct_law) ⟨[v], []⟩ [("script", v)]), fun base _ _ => ?_⟩
  · exact .of_eq rfl
  · have E_NoText : ErrC P w K mg base "NoText" C_NoText := ⟨⟨⟨nm_NoText, q_NoText, N_NoText, bs_NoText, _, sn_NoText, sub_NoText, ab_NoText, col_NoText, dd_NoText, m0_NoText, m1_NoText, m2_NoText, m3_NoText, m5_NoText, x_NoText, rfl⟩, sa_NoText, e_NoText, ty_NoText, kc_NoText⟩, nw_NoText, PySem.W.mg_of X G a_NoText, ⟨_, _, i_xi_NoText, ti_xi_NoText, ok_xi_NoText F_xi_NoText, b_xi_NoText⟩⟩
    have kx : ∀ C, (C = C_NoText) → PySem.W.exmOne K (.ref C) (.ref C_FenceError) = some true := fun C hC => by
      rcases hC with rfl
      · exact PySem.W.exm_ref f1_FenceError f2_FenceError f3_FenceError s_NoText
    have kd : ∀ C, (C = C_NoText) → ExcD K C := fun C hC => by
      rcases hC with rfl
      · exact ⟨(by obtain ⟨cd, hc, _⟩ := PySem.W.any_some hd_NoText; rw [hc]; rfl), ga_NoText, gt_NoText, e_NoText, hd_NoText, ca_NoText, cn0, ct0, mr_NoText, nw_NoText⟩
    have ki : KindD K C_NoText C_NoRound C_NoRow C_NoPlace C_NoLast C_NoTicks C_NoTimes C_NoText false false false false false false true := ⟨ki_k1, ki_k2, ki_k3, ki_k4, ki_k5, ki_k6, ki_k7, ki_kv⟩
    have O_tray : FnOk P w K mg base (L2N.CX P w) 1 f_tray _ p_tray (spOf (g_trayK K)) := ok_tray T  F_tray
    have G_tray := cal_mk O_tray F_tray (PySem.W.mg_of X G a_tray) b_tray
    have O_draw : FnOk P w K mg base (L2N.CX P w) 1 f_draw _ p_draw (spOf g_draw) := ok_draw T  F_draw
    have G_draw := cal_mk O_draw F_draw (PySem.W.mg_of X G a_draw) b_draw
    have O_great : FnOk P w K mg base (L2N.CX P w) 2 f_great _ p_great (spOf g_great) := ok_great T G_draw F_great
    have G_great := cal_mk O_great F_great (PySem.W.mg_of X G a_great) b_great
    have O_alike : ∀ n, FnOk P w K mg base (L2N.CX P w) (n + 1) f_alike _ p_alike (spOf (g_alike n)) := fun n => by
      induction n with
      | zero => exact fn_never fun args Q E z => by obtain ⟨d, _, z, _⟩ := z; exact z
      | succ n ih => exact ok_alike n T (cal_mk ih F_alike (PySem.W.mg_of X G a_alike) b_alike) F_alike
    have G_alike := cal_mk (O_alike 5) F_alike (PySem.W.mg_of X G a_alike) b_alike
    have O_any_stood : FnOk P w K mg base (L2N.CX P w) 3 f_any_stood _ p_any_stood (spOf g_any_stood) := ok_any_stood T G_great G_draw F_any_stood
    have G_any_stood := cal_mk O_any_stood F_any_stood (PySem.W.mg_of X G a_any_stood) b_any_stood
    have X_kind : CalX P w K mg base (fun C => C = C_NoText) "_law_kind" 1 p_kind g_kind := ⟨_, _, ok_kind T (PySem.W.mg_of X G a_NoPlace) (PySem.W.mg_of X G a_NoRow) (PySem.W.mg_of X G a_NoRound) (PySem.W.mg_of X G a_NoTicks) (PySem.W.mg_of X G a_NoLast) (PySem.W.mg_of X G a_NoText) (PySem.W.mg_of X G a_NoTimes) kd ki F_kind, PySem.W.mg_of X G a_kind, k_kind, b_kind⟩
    have O_sign : FnOk P w K mg base (L2N.CX P w) 2 f_sign _ p_sign (spOf g_sign) := ok_sign T G_draw F_sign
    have G_sign := cal_mk O_sign F_sign (PySem.W.mg_of X G a_sign) b_sign
    have O_parts_spoilt : FnOk P w K mg base (L2N.CX P w) 2 f_parts_spoilt _ p_parts_spoilt (spOf g_parts_spoilt) := ok_parts_spoilt T G_draw F_parts_spoilt
    have G_parts_spoilt := cal_mk O_parts_spoilt F_parts_spoilt (PySem.W.mg_of X G a_parts_spoilt) b_parts_spoilt
    have O_spoilt : FnOk P w K mg base (L2N.CX P w) 3 f_spoilt _ p_spoilt (spOf g_spoilt) := ok_spoilt T G_draw G_sign G_parts_spoilt F_spoilt
    have G_spoilt := cal_mk O_spoilt F_spoilt (PySem.W.mg_of X G a_spoilt) b_spoilt
    have O_odd : FnOk P w K mg base (L2N.CX P w) 1 f_odd _ p_odd (spOf g_odd) := ok_odd T  F_odd
    have G_odd := cal_mk O_odd F_odd (PySem.W.mg_of X G a_odd) b_odd
    have O_number_of : FnOk P w K mg base (L2N.CX P w) 1 f_number_of _ p_number_of (spOf g_number_of) := ok_number_of T  F_number_of
    have G_number_of := cal_mk O_number_of F_number_of (PySem.W.mg_of X G a_number_of) b_number_of
    have O_stood_of : FnOk P w K mg base (L2N.CX P w) 2 f_stood_of _ p_stood_of (spOf g_stood_of) := ok_stood_of T G_number_of F_stood_of
    have G_stood_of := cal_mk O_stood_of F_stood_of (PySem.W.mg_of X G a_stood_of) b_stood_of
    have O_is_number : FnOk P w K mg base (L2N.CX P w) 1 f_is_number _ p_is_number (spOf g_is_number) := ok_is_number T  F_is_number
    have G_is_number := cal_mk O_is_number F_is_number (PySem.W.mg_of X G a_is_number) b_is_number
    have O_read_standing : FnOk P w K mg base (L2N.CX P w) 3 f_read_standing _ p_read_standing (spOf (g_read_stand C_NoText)) := ok_read_standing T G_is_number E_NoText F_read_standing
    have G_read_standing := cal_mk O_read_standing F_read_standing (PySem.W.mg_of X G a_read_standing) b_read_standing
    have O_right : FnOk P w K mg base (L2N.CX P w) 7 f_right _ p_right (spOf g_right) := ok_right T G_stood_of G_read_standing G_alike (PySem.W.mg_of X G a_FenceError) kx kd X_kind F_right
    have G_right := cal_mk O_right F_right (PySem.W.mg_of X G a_right) b_right
    exact ok_law T G_tray G_odd G_any_stood G_draw G_spoilt G_right F_law
end
end RD
open PySem PySem.W PyProof.Rows
set_option maxRecDepth 100000 in
set_option maxHeartbeats 0 in
theorem PySem.Challenge.cw_roundfence_k53_texts_of_no_standing_holds : PySem.Challenge.rw_roundfence_k53_texts_of_no_standing.Holds := by
  w_on; o_law; k_head; (case hw => w_witness2)
  k_fill
  refine RD.walk_law (l := PySem.Challenge.rw_roundfence_k53_texts_of_no_standing) (k := 8) RD.g_law rfl rfl ⟨rfl, by decide, by decide⟩ (fun w h Y => PySem.W.kIn_of Y) RD.law_ok ?F
  case F =>
    intro w mg fa h KX G hmg
    refine' RD.all_mk KX G hmg ?a_NoText ?x_NoText ?sa_NoText ?e_NoText ?ty_NoText ?kc_NoText ?nw_NoText ?i_xi_NoText ?ti_xi_NoText ?l_xi_NoText ?c_xi_NoText ?k_xi_NoText ?a_FenceError ?a_NoPlace ?a_NoRow ?a_NoRound ?a_NoTicks ?a_NoLast ?a_NoTimes ?f1_FenceError ?f2_FenceError ?f3_FenceError ?cn0 ?ct0 ?s_NoText ?ga_NoText ?gt_NoText ?hd_NoText ?ca_NoText ?mr_NoText ?ki_k1 ?ki_k2 ?ki_k3 ?ki_k4 ?ki_k5 ?ki_k6 ?ki_k7 ?ki_kv ?a_tray ?l_tray ?c_tray ?k_tray ?a_draw ?l_draw ?c_draw ?k_draw ?a_great ?l_great ?c_great ?k_great ?a_alike ?l_alike ?c_alike ?k_alike ?a_any_stood ?l_any_stood ?c_any_stood ?k_any_stood ?a_kind ?l_kind ?c_kind ?k_kind ?a_sign ?l_sign ?c_sign ?k_sign ?a_parts_spoilt ?l_parts_spoilt ?c_parts_spoilt ?k_parts_spoilt ?a_spoilt ?l_spoilt ?c_spoilt ?k_spoilt ?a_odd ?l_odd ?c_odd ?k_odd ?a_number_of ?l_number_of ?c_number_of ?k_number_of ?a_stood_of ?l_stood_of ?c_stood_of ?k_stood_of ?a_is_number ?l_is_number ?c_is_number ?k_is_number ?a_read_standing ?l_read_standing ?c_read_standing ?k_read_standing ?a_right ?l_right ?c_right ?k_right ?a_law ?l_law ?c_law ?k_law ?q_DIGITS ?q_FIGURES ?q_FIRST ?q_SECOND ?z_len ?z_range ?z_max ?z_min ?z_abs ?z_int ?z_str ?z_bool ?z_list ?z_tuple ?z_dict ?z_set ?z_sum ?z_all ?z_any ?z_sorted ?z_isinstance ?z_enumerate ?z_zip ?z_ValueError
    (case a_NoText => k_is)
    (case x_NoText => k_is)
    (case sa_NoText => k_is)
    (case e_NoText => k_is)
    (case ty_NoText => k_is)
    (case kc_NoText => k_is)
    (case nw_NoText => k_is)
    (case i_xi_NoText => k_is)
    (case ti_xi_NoText => k_is)
    (case l_xi_NoText => k_is)
    (case c_xi_NoText => k_is)
    (case k_xi_NoText => k_is)
    (case a_FenceError => k_is)
    (case a_NoPlace => k_is)
    (case a_NoRow => k_is)
    (case a_NoRound => k_is)
    (case a_NoTicks => k_is)
    (case a_NoLast => k_is)
    (case a_NoTimes => k_is)
    (case f1_FenceError => k_is)
    (case f2_FenceError => k_is)
    (case f3_FenceError => k_is)
    (case cn0 => k_is)
    (case ct0 => k_is)
    (case s_NoText => k_is)
    (case ga_NoText => k_is)
    (case gt_NoText => k_is)
    (case hd_NoText => k_is)
    (case ca_NoText => k_is)
    (case mr_NoText => k_is)
    (case ki_k1 => kit_is)
    (case ki_k2 => kit_is)
    (case ki_k3 => kit_is)
    (case ki_k4 => kit_is)
    (case ki_k5 => kit_is)
    (case ki_k6 => kit_is)
    (case ki_k7 => kit_is)
    (case ki_kv => kit_is)
    (case a_tray => k_is)
    (case l_tray => k_is)
    (case c_tray => k_is)
    (case k_tray => k_is)
    (case a_draw => k_is)
    (case l_draw => k_is)
    (case c_draw => k_is)
    (case k_draw => k_is)
    (case a_great => k_is)
    (case l_great => k_is)
    (case c_great => k_is)
    (case k_great => k_is)
    (case a_alike => k_is)
    (case l_alike => k_is)
    (case c_alike => k_is)
    (case k_alike => k_is)
    (case a_any_stood => k_is)
    (case l_any_stood => k_is)
    (case c_any_stood => k_is)
    (case k_any_stood => k_is)
    (case a_kind => k_is)
    (case l_kind => k_is)
    (case c_kind => k_is)
    (case k_kind => k_is)
    (case a_sign => k_is)
    (case l_sign => k_is)
    (case c_sign => k_is)
    (case k_sign => k_is)
    (case a_parts_spoilt => k_is)
    (case l_parts_spoilt => k_is)
    (case c_parts_spoilt => k_is)
    (case k_parts_spoilt => k_is)
    (case a_spoilt => k_is)
    (case l_spoilt => k_is)
    (case c_spoilt => k_is)
    (case k_spoilt => k_is)
    (case a_odd => k_is)
    (case l_odd => k_is)
    (case c_odd => k_is)
    (case k_odd => k_is)
    (case a_number_of => k_is)
    (case l_number_of => k_is)
    (case c_number_of => k_is)
    (case k_number_of => k_is)
    (case a_stood_of => k_is)
    (case l_stood_of => k_is)
    (case c_stood_of => k_is)
    (case k_stood_of => k_is)
    (case a_is_number => k_is)
    (case l_is_number => k_is)
    (case c_is_number => k_is)
    (case k_is_number => k_is)
    (case a_read_standing => k_is)
    (case l_read_standing => k_is)
    (case c_read_standing => k_is)
    (case k_read_standing => k_is)
    (case a_right => k_is)
    (case l_right => k_is)
    (case c_right => k_is)
    (case k_right => k_is)
    (case a_law => k_is)
    (case l_law => k_is)
    (case c_law => k_is)
    (case k_law => k_is)
    (case q_DIGITS => k_is)
    (case q_FIGURES => k_is)
    (case q_FIRST => k_is)
    (case q_SECOND => k_is)
    (case z_len => k_is)
    (case z_range => k_is)
    (case z_max => k_is)
    (case z_min => k_is)
    (case z_abs => k_is)
    (case z_int => k_is)
    (case z_str => k_is)
    (case z_bool => k_is)
    (case z_list => k_is)
    (case z_tuple => k_is)
    (case z_dict => k_is)
    (case z_set => k_is)
    (case z_sum => k_is)
    (case z_all => k_is)
    (case z_any => k_is)
    (case z_sorted => k_is)
    (case z_isinstance => k_is)
    (case z_enumerate => k_is)
    (case z_zip => k_is)
    (case z_ValueError => k_is)
#print axioms PySem.Challenge.cw_roundfence_k53_texts_of_no_standing_holds
