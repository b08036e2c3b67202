import PyProof.Rows.All
import HandS.ForMost
import HandS.ForExc
import HandS.IsInst
import HandS.Deep
import HandS.TupMul
import HandS.Conv
import HandS.Flow
import HandS.TupAny
import HandS.More
import HandS.Zip
import KE.GoesMore
import KE.GoesEnum
import PyProof.EnumFor
import PyProof.EnumMake
import HandS.Small
import HandS.RevRange
import PyProof.EqKinds
import HandS.RaiseMore
import HandS.WordsDict
import HandS.Style
import KE.DatumOrd
import HandS.DictComp
import PyProof.Rows.SortShell
import KE.KDictDisplayH
import HandS.AnyAll
import HandS.SortInts
import KE.LtSeq
import HandS.SortKw
import KE.KDictZip
import KE.GoesZip
import PySem.Challenge.RW_longernearer_k44_whole_choices_that_serv
set_option Elab.async false
set_option linter.all false
set_option maxRecDepth 100000
/- part PLa -/
set_option maxHeartbeats 4000000
namespace PL
open PySem PySem.Spec PyProof.Rows L2
abbrev Fg := PySem.W.Frag
abbrev St := L2.St

/-! ### pure values, cells, outcomes -/
inductive W where
  | non
  | bl (b : Bool)
  | int (i : Int)
  | str (x : Str)
  | ty (s : String)
  | tup (ws : List W)
  | ref (n : Nat)
  | fn (a : Addr)
instance : Inhabited W := ⟨.non⟩

inductive Cell where
  | lst (ws : List W)
  | rol (ws : List W)
  | dct (kvs : List (Key × W))
  | tct (kvs : List (List Key × W))
  | lkd (kvs : List (Key × W))
instance : Inhabited Cell := ⟨.lst []⟩
def Cell.mut : Cell → Bool
  | .rol _ => false
  | .lkd _ => false
  | _ => true
/-- one place alone stands for it -/
def Cell.own : Cell → Bool
  | .rol _ => false
  | _ => true
theorem Cell.own_of {c : Cell} (h : c.mut = true) : c.own = true := by cases c <;> first | rfl | cases h
abbrev Cells := List Cell
abbrev PEnv := List (Option W)
structure Exn where
  cls : Str
  arg : Option (Str × W)

inductive Rs (α : Type) where
  | ok (a : α) (G : Cells)
  | ex (e : Exn) (G : Cells)
  | no
def Rs.bind {α β : Type} (r : Rs α) (k : α → Cells → Rs β) : Rs β :=
  match r with
  | .ok a G => k a G
  | .ex e G => .ex e G
  | .no => .no
@[simp] theorem Rs.bind_ok {α β : Type} (a : α) (G : Cells) (k : α → Cells → Rs β) : (Rs.ok a G).bind k = k a G := rfl
@[simp] theorem Rs.bind_ex {α β : Type} (e : Exn) (G : Cells) (k : α → Cells → Rs β) : (Rs.ex e G : Rs α).bind k = .ex e G := rfl
@[simp] theorem Rs.bind_no {α β : Type} (k : α → Cells → Rs β) : (Rs.no : Rs α).bind k = .no := rfl
inductive So where
  | nx (E : PEnv) (G : Cells)
  | rt (w : W) (G : Cells)
  | bk (E : PEnv) (G : Cells)
  | ct (E : PEnv) (G : Cells)
  | ex (e : Exn) (E : PEnv) (G : Cells)
  | no

/-! ### a pure value stands for a value -/
mutual
inductive VR (K : Fg) (ρ : List Addr) (H : Hp) : W → V → Prop
  | non : VR K ρ H .non .non
  | bl (b : Bool) : VR K ρ H (.bl b) (.bl b)
  | int (i : Int) : VR K ρ H (.int i) (.int i)
  | str (x : Str) : VR K ρ H (.str x) (.str x)
  | ty (s : String) : VR K ρ H (.ty s) (.ty s)
  | fn (a : Addr) : VR K ρ H (.fn a) (.ref a)
  | tup {a : Addr} {vs : List V} {ws : List W} : H a = some (.tup vs) → VRs K ρ H ws vs → VR K ρ H (.tup ws) (.ref a)
  | ref {n : Nat} {a : Addr} : ρ[n]? = some a → VR K ρ H (.ref n) (.ref a)
inductive VRs (K : Fg) (ρ : List Addr) (H : Hp) : List W → List V → Prop
  | nil : VRs K ρ H [] []
  | cons {w : W} {v : V} {ws : List W} {vs : List V} : VR K ρ H w v → VRs K ρ H ws vs → VRs K ρ H (w :: ws) (v :: vs)
end
structure Ext (K : Fg) (ρ : List Addr) (H : Hp) (ρ' : List Addr) (H' : Hp) : Prop where
  rho : ∀ (n : Nat) (a : Addr), ρ[n]? = some a → ρ'[n]? = some a
  tups : ∀ a vs, H a = some (.tup vs) → H' a = some (.tup vs)
  frz : ∀ a o u, H a = some (.frz o u) → H' a = some (.frz o u)
theorem Ext.refl {K : Fg} {ρ : List Addr} {H : Hp} : Ext K ρ H ρ H := ⟨fun _ _ h => h, fun _ _ h => h, fun _ _ _ h => h⟩
theorem Ext.trans {K : Fg} {ρ ρ1 ρ2 : List Addr} {H H1 H2 : Hp} (a : Ext K ρ H ρ1 H1) (b : Ext K ρ1 H1 ρ2 H2) : Ext K ρ H ρ2 H2 :=
  ⟨fun n x h => b.rho n x (a.rho n x h), fun x vs h => b.tups x vs (a.tups x vs h), fun x o u h => b.frz x o u (a.frz x o u h)⟩
section
variable {K : Fg} {ρ ρ' : List Addr} {H H' : Hp}
mutual
theorem VR.mono (e : Ext K ρ H ρ' H') : ∀ {w : W} {v : V}, VR K ρ H w v → VR K ρ' H' w v
  | _, _, .non => .non
  | _, _, .bl b => .bl b
  | _, _, .int i => .int i
  | _, _, .str x => .str x
  | _, _, .ty s => .ty s
  | _, _, .fn a => .fn a
  | _, _, .tup h k => .tup (e.tups _ _ h) (VRs.mono e k)
  | _, _, .ref h => .ref (e.rho _ _ h)
theorem VRs.mono (e : Ext K ρ H ρ' H') : ∀ {ws : List W} {vs : List V}, VRs K ρ H ws vs → VRs K ρ' H' ws vs
  | _, _, .nil => .nil
  | _, _, .cons h k => .cons (VR.mono e h) (VRs.mono e k)
end
theorem VRs.length : ∀ {ws : List W} {vs : List V}, VRs K ρ H ws vs → ws.length = vs.length
  | _, _, .nil => rfl
  | _, _, .cons _ k => by rw [List.length_cons, List.length_cons, k.length]
theorem VRs.get : ∀ {ws : List W} {vs : List V} {i : Nat} {w : W}, VRs K ρ H ws vs → ws[i]? = some w → ∃ v, vs[i]? = some v ∧ VR K ρ H w v
  | _, _, _, _, .nil, h => by simp at h
  | _, _, 0, w, .cons h k, e => by simp at e; subst e; exact ⟨_, rfl, h⟩
  | _, _, i + 1, w, .cons h k, e => by
    obtain ⟨v, e1, e2⟩ := VRs.get (i := i) (w := w) k (by simpa using e)
    exact ⟨v, by simpa using e1, e2⟩
theorem VRs.append : ∀ {ws xs : List W} {vs us : List V}, VRs K ρ H ws vs → VRs K ρ H xs us → VRs K ρ H (ws ++ xs) (vs ++ us)
  | _, _, _, _, .nil, s => s
  | _, _, _, _, .cons h k, s => .cons h (VRs.append k s)
theorem VRs.take : ∀ {ws : List W} {vs : List V} (n : Nat), VRs K ρ H ws vs → VRs K ρ H (ws.take n) (vs.take n)
  | _, _, 0, _ => .nil
  | _, _, _ + 1, .nil => .nil
  | _, _, n + 1, .cons h k => .cons h (VRs.take n k)
theorem VRs.drop : ∀ {ws : List W} {vs : List V} (n : Nat), VRs K ρ H ws vs → VRs K ρ H (ws.drop n) (vs.drop n)
  | _, _, 0, h => h
  | _, _, _ + 1, .nil => .nil
  | _, _, n + 1, .cons h k => VRs.drop n k
theorem VRs.set {w : W} {v : V} (h : VR K ρ H w v) : ∀ {ws : List W} {vs : List V} (n : Nat), VRs K ρ H ws vs → VRs K ρ H (ws.set n w) (vs.set n v)
  | _, _, _, .nil => .nil
  | _, _, 0, .cons _ k => .cons h k
  | _, _, n + 1, .cons h' k => .cons h' (VRs.set h n k)
theorem VRs.get_none {ws : List W} {vs : List V} {i : Nat} (h : VRs K ρ H ws vs) (e : ws[i]? = none) : vs[i]? = none := by
  have h1 := h.length
  have h2 := List.getElem?_eq_none_iff.mp e
  exact List.getElem?_eq_none_iff.mpr (by omega)
theorem VRs.reverse : ∀ {ws : List W} {vs : List V}, VRs K ρ H ws vs → VRs K ρ H ws.reverse vs.reverse
  | _, _, .nil => .nil
  | _, _, .cons h k => by rw [List.reverse_cons, List.reverse_cons]; exact VRs.append (VRs.reverse k) (.cons h .nil)
theorem VRs.rep {ws : List W} {vs : List V} (h : VRs K ρ H ws vs) : ∀ n : Nat, VRs K ρ H (List.replicate n ws).flatten (List.replicate n vs).flatten
  | 0 => .nil
  | n + 1 => by rw [List.replicate_succ, List.replicate_succ, List.flatten_cons, List.flatten_cons]; exact h.append (VRs.rep h n)
end

/-! ### cells -/
inductive KVR {κ : Type} (K : Fg) (ρ : List Addr) (H : Hp) : List (κ × W) → List (κ × V) → Prop
  | nil : KVR K ρ H [] []
  | cons {k : κ} {w : W} {v : V} {r : List (κ × W)} {q : List (κ × V)} : VR K ρ H w v → KVR K ρ H r q → KVR K ρ H ((k, w) :: r) ((k, v) :: q)
theorem KVR.mono {κ : Type} {K : Fg} {ρ ρ' : List Addr} {H H' : Hp} (e : Ext K ρ H ρ' H') : ∀ {r : List (κ × W)} {q : List (κ × V)}, KVR K ρ H r q → KVR K ρ' H' r q
  | _, _, .nil => .nil
  | _, _, .cons h k => .cons (h.mono e) (k.mono e)
def KList (K : Fg) (a : Addr) (xs : List V) : Prop :=
  ∃ (o : Obj) (its : Array Value) (n : Nat), K.lookup a = some o ∧ o.cls = .type "list" ∧ o.dict = none ∧ o.data = .seq its n ∧ its.size ≤ sizeLine ∧ Vals xs its.toList
def CR (K : Fg) (ρ : List Addr) (H : Hp) : Cell → Addr → Prop
  | .lst ws, a => ∃ vs, H a = some (.lst vs) ∧ VRs K ρ H ws vs
  | .rol ws, a => ∃ vs, ((∃ o, H a = some (.frz o (.lst vs))) ∨ KList K a vs) ∧ VRs K ρ H ws vs
  | .dct kvs, a => ∃ q, H a = some (.dK q) ∧ KVR K ρ H kvs q
  | .tct kvs, a => ∃ q, H a = some (.dT q) ∧ KVR K ρ H kvs q
  | .lkd kvs, a => ∃ o q, H a = some (.frz o (.dK q)) ∧ KVR K ρ H kvs q
structure SR (K : Fg) (ρ : List Addr) (G : Cells) (H : Hp) : Prop where
  len : ρ.length = G.length
  cell : ∀ (n : Nat) (c : Cell) (a : Addr), G[n]? = some c → ρ[n]? = some a → CR K ρ H c a
  inj : ∀ (n m : Nat) (a : Addr) (c d : Cell), ρ[n]? = some a → ρ[m]? = some a → G[n]? = some c → c.own = true → G[m]? = some d → d.own = true → n = m
section
variable {K : Fg} {ρ ρ' : List Addr} {H H' : Hp} {G : Cells} {n : Nat} {a p : Addr} {c : Cell} {o : HO}
theorem SR.at (s : SR K ρ G H) (h : ρ[n]? = some a) : ∃ c, G[n]? = some c := by
  obtain ⟨hn, _⟩ := List.getElem?_eq_some_iff.mp h
  rw [s.len] at hn
  exact ⟨G[n], List.getElem?_eq_getElem hn⟩
/-- what a store at x keeps -/
theorem ext_upd {x : Addr} (hx : H x = none ∨ Mut (H x)) (hr : ∀ (n : Nat) (a : Addr), ρ[n]? = some a → ρ'[n]? = some a) : Ext K ρ H ρ' (upd H x o) := by
  have ne : ∀ b u, H b = some u → ¬ Mut (some u) → b ≠ x := fun b u h m z => by
    subst z
    rcases hx with e | e
    · rw [e] at h; cases h
    · rw [h] at e; exact m e
  exact ⟨hr, fun b vs h => by rw [upd_ne (ne b _ h fun z => z)]; exact h, fun b ob u h => by rw [upd_ne (ne b _ h fun z => z)]; exact h⟩
theorem CR.mono {c : Cell} (r : CR K ρ H c a) (e : Ext K ρ H ρ' H') (k : c.mut = true → H' a = H a) : CR K ρ' H' c a := by
  cases c with
  | lst ws => obtain ⟨vs, h, q⟩ := r; exact ⟨vs, by rw [k rfl]; exact h, q.mono e⟩
  | rol ws =>
    obtain ⟨vs, h, q⟩ := r
    refine ⟨vs, ?_, q.mono e⟩
    rcases h with ⟨o, h⟩ | h
    · exact .inl ⟨o, e.frz _ _ _ h⟩
    · exact .inr h
  | dct kvs => obtain ⟨vs, h, q⟩ := r; exact ⟨vs, by rw [k rfl]; exact h, q.mono e⟩
  | tct kvs => obtain ⟨vs, h, q⟩ := r; exact ⟨vs, by rw [k rfl]; exact h, q.mono e⟩
  | lkd kvs => obtain ⟨o, q, h, z⟩ := r; exact ⟨o, q, e.frz _ _ _ h, z.mono e⟩
theorem CR.here {c : Cell} (r : CR K ρ H c a) (m : c.mut = true) : ∃ o, H a = some o ∧ Mut (some o) := by
  cases c with
  | lst ws => obtain ⟨vs, h, q⟩ := r; exact ⟨_, h, trivial⟩
  | rol ws => cases m
  | dct kvs => obtain ⟨vs, h, q⟩ := r; exact ⟨_, h, trivial⟩
  | tct kvs => obtain ⟨vs, h, q⟩ := r; exact ⟨_, h, trivial⟩
  | lkd kvs => cases m
theorem CR.hereO {c : Cell} (r : CR K ρ H c a) (m : c.own = true) : ∃ o, H a = some o := by
  cases c with
  | lst ws => obtain ⟨vs, h, q⟩ := r; exact ⟨_, h⟩
  | rol ws => cases m
  | dct kvs => obtain ⟨vs, h, q⟩ := r; exact ⟨_, h⟩
  | tct kvs => obtain ⟨vs, h, q⟩ := r; exact ⟨_, h⟩
  | lkd kvs => obtain ⟨o, q, h, z⟩ := r; exact ⟨_, h⟩
/-- a new tuple (or whatever is not a cell) -/
theorem SR.fresh (s : SR K ρ G H) (hp : H p = none) : SR K ρ G (upd H p o) := by
  refine ⟨s.len, fun n c a h1 h2 => (s.cell n c a h1 h2).mono (ext_upd (.inl hp) fun _ _ h => h) fun m => ?_, s.inj⟩
  obtain ⟨u, hu, _⟩ := (s.cell n c a h1 h2).here m
  exact upd_ne (ne_of_none hu hp)
theorem get_snoc {α : Type} {l : List α} {x y : α} {n : Nat} (h : (l ++ [x])[n]? = some y) : l[n]? = some y ∨ (n = l.length ∧ y = x) := by
  by_cases hn : n < l.length
  · rw [List.getElem?_append_left hn] at h; exact .inl h
  · rw [List.getElem?_append_right (by omega)] at h
    have : n - l.length = 0 := by
      obtain ⟨q, _⟩ := List.getElem?_eq_some_iff.mp h
      simp at q; omega
    rw [this] at h
    simp at h
    exact .inr ⟨by omega, h.symm⟩
theorem get_left {α : Type} {l r : List α} {y : α} {n : Nat} (h : l[n]? = some y) : (l ++ r)[n]? = some y := by
  obtain ⟨q, _⟩ := List.getElem?_eq_some_iff.mp h
  rw [List.getElem?_append_left q]; exact h
theorem ext_alloc (hp : H p = none) : Ext K ρ H (ρ ++ [p]) (upd H p o) := ext_upd (.inl hp) fun _ _ h => get_left h
/-- a new cell -/
theorem SR.alloc (s : SR K ρ G H) (hp : H p = none) (hc : CR K (ρ ++ [p]) (upd H p o) c p) : SR K (ρ ++ [p]) (G ++ [c]) (upd H p o) := by
  have keep : ∀ (n : Nat) (c : Cell) (a : Addr), G[n]? = some c → ρ[n]? = some a → c.own = true → a ≠ p := fun n c a h1 h2 m => by
    obtain ⟨u, hu⟩ := (s.cell n c a h1 h2).hereO m
    exact ne_of_none hu hp
  refine ⟨by simp [s.len], fun n d a h1 h2 => ?_, fun n m a d e h1 h2 h3 h4 h5 h6 => ?_⟩
  · rcases get_snoc h1 with h1 | ⟨h1, rfl⟩
    · rcases get_snoc h2 with h2 | ⟨h2, _⟩
      · exact (s.cell n d a h1 h2).mono (ext_alloc hp) fun m => upd_ne (keep n d a h1 h2 (Cell.own_of m))
      · obtain ⟨q, _⟩ := List.getElem?_eq_some_iff.mp h1
        have := s.len; omega
    · rcases get_snoc h2 with h2 | ⟨h2, rfl⟩
      · obtain ⟨q, _⟩ := List.getElem?_eq_some_iff.mp h2
        have := s.len; omega
      · exact hc
  · rcases get_snoc h1 with h1 | ⟨h1, e1⟩
    · rcases get_snoc h2 with h2 | ⟨h2, e2⟩
      · rcases get_snoc h3 with h3 | ⟨h3, _⟩
        · rcases get_snoc h5 with h5 | ⟨h5, _⟩
          · exact s.inj n m a d e h1 h2 h3 h4 h5 h6
          · obtain ⟨q, _⟩ := List.getElem?_eq_some_iff.mp h2
            have := s.len; omega
        · obtain ⟨q, _⟩ := List.getElem?_eq_some_iff.mp h1
          have := s.len; omega
      · rcases get_snoc h3 with h3 | ⟨h3, _⟩
        · exact absurd e2 (keep n d a h3 h1 h4)
        · obtain ⟨q, _⟩ := List.getElem?_eq_some_iff.mp h1
          have := s.len; omega
    · rcases get_snoc h2 with h2 | ⟨h2, e2⟩
      · rcases get_snoc h5 with h5 | ⟨h5, _⟩
        · exact absurd e1 (keep m e a h5 h2 h6)
        · obtain ⟨q, _⟩ := List.getElem?_eq_some_iff.mp h2
          have := s.len; omega
      · omega
/-- a cell is written -/
theorem SR.write {c' : Cell} (s : SR K ρ G H) (hn : G[n]? = some c) (ha : ρ[n]? = some a) (hm : c.mut = true) (hm' : c'.mut = true) (hc : CR K ρ (upd H a o) c' a) : SR K ρ (G.set n c') (upd H a o) := by
  have mu : Mut (H a) := by
    obtain ⟨u, hu, h⟩ := (s.cell n c a hn ha).here hm
    rw [hu]; exact h
  have hlt : n < G.length := (List.getElem?_eq_some_iff.mp hn).1
  refine ⟨by simp [s.len], fun m d b h1 h2 => ?_, fun i j b d e h1 h2 h3 h4 h5 h6 => ?_⟩
  · by_cases e : m = n
    · subst e
      rw [List.getElem?_set_self hlt] at h1
      cases h1
      rw [ha] at h2; cases h2
      exact hc
    · rw [List.getElem?_set_ne (Ne.symm e)] at h1
      exact (s.cell m d b h1 h2).mono (ext_upd (.inr mu) fun _ _ h => h) fun md => upd_ne fun z => e (s.inj m n b d c h2 (z ▸ ha) h1 (Cell.own_of md) hn (Cell.own_of hm))
  · have back : ∀ (i : Nat) (d : Cell), (G.set n c')[i]? = some d → d.own = true → ∃ d', G[i]? = some d' ∧ d'.own = true := fun i d h m => by
      by_cases e : i = n
      · subst e; exact ⟨c, hn, Cell.own_of hm⟩
      · rw [List.getElem?_set_ne (Ne.symm e)] at h; exact ⟨d, h, m⟩
    obtain ⟨d', q1, q2⟩ := back i d h3 h4
    obtain ⟨e', q3, q4⟩ := back j e h5 h6
    exact s.inj i j b d' e' h1 h2 q1 q2 q3 q4
theorem SR.ext_write (s : SR K ρ G H) (hn : G[n]? = some c) (ha : ρ[n]? = some a) (hm : c.mut = true) : Ext K ρ H ρ (upd H a o) := by
  obtain ⟨u, hu, h⟩ := (s.cell n c a hn ha).here hm
  exact ext_upd (.inr (by rw [hu]; exact h)) fun _ _ h => h
theorem same_ext (h : Same H H') : Ext K ρ H ρ H' := ⟨fun _ _ h => h, fun a vs q => h _ _ q, fun a o u q => h _ _ q⟩
theorem SR.same (s : SR K ρ G H) (h : Same H H') : SR K ρ G H' := ⟨s.len, fun n c a h1 h2 => (s.cell n c a h1 h2).mono (same_ext h) fun m => by
  obtain ⟨u, hu, _⟩ := (s.cell n c a h1 h2).here m
  rw [hu, h _ _ hu], s.inj⟩
end

/-! ### slots -/
inductive ER (K : Fg) (ρ : List Addr) (H : Hp) : PEnv → St → Prop
  | nil : ER K ρ H [] []
  | none {v : Option V} {E : PEnv} {σ : St} : ER K ρ H E σ → ER K ρ H (.none :: E) (v :: σ)
  | some {w : W} {v : V} {E : PEnv} {σ : St} : VR K ρ H w v → ER K ρ H E σ → ER K ρ H (.some w :: E) (.some v :: σ)
section
variable {K : Fg} {ρ ρ' : List Addr} {H H' : Hp}
theorem ER.mono (e : Ext K ρ H ρ' H') : ∀ {E : PEnv} {σ : St}, ER K ρ H E σ → ER K ρ' H' E σ
  | _, _, .nil => .nil
  | _, _, .none k => .none (k.mono e)
  | _, _, .some h k => .some (h.mono e) (k.mono e)
theorem ER.get : ∀ {E : PEnv} {σ : St} {i : Nat} {w : W}, ER K ρ H E σ → E[i]? = .some (.some w) → ∃ v, σ[i]? = .some (.some v) ∧ VR K ρ H w v
  | _, _, _, _, .nil, h => by simp at h
  | _, _, 0, _, .none _, h => by simp at h
  | _, _, 0, _, .some q _, h => by simp at h; subst h; exact ⟨_, rfl, q⟩
  | _, _, i + 1, w, .none k, h => by
    obtain ⟨v, e1, e2⟩ := ER.get (i := i) (w := w) k (by simpa using h)
    exact ⟨v, by simpa using e1, e2⟩
  | _, _, i + 1, w, .some _ k, h => by
    obtain ⟨v, e1, e2⟩ := ER.get (i := i) (w := w) k (by simpa using h)
    exact ⟨v, by simpa using e1, e2⟩
theorem ER.set {w : W} {v : V} (h : VR K ρ H w v) : ∀ {E : PEnv} {σ : St} (i : Nat), ER K ρ H E σ → ER K ρ H (E.set i (.some w)) (σ.set i (.some v))
  | _, _, _, .nil => .nil
  | _, _, 0, .none k => .some h k
  | _, _, 0, .some _ k => .some h k
  | _, _, i + 1, .none k => .none (ER.set h i k)
  | _, _, i + 1, .some q k => .some q (ER.set h i k)
theorem ER.unset : ∀ {E : PEnv} {σ : St} (i : Nat) (v : Option V), ER K ρ H E σ → ER K ρ H (E.set i .none) (σ.set i v)
  | _, _, _, _, .nil => .nil
  | _, _, 0, _, .none k => .none k
  | _, _, 0, _, .some _ k => .none k
  | _, _, i + 1, v, .none k => .none (ER.unset i v k)
  | _, _, i + 1, v, .some q k => .some q (ER.unset i v k)
theorem ER.length : ∀ {E : PEnv} {σ : St}, ER K ρ H E σ → E.length = σ.length
  | _, _, .nil => rfl
  | _, _, .none k => by rw [List.length_cons, List.length_cons, k.length]
  | _, _, .some _ k => by rw [List.length_cons, List.length_cons, k.length]
theorem ER.replicate : ∀ n : Nat, ER K ρ H (List.replicate n .none) (List.replicate n .none)
  | 0 => .nil
  | n + 1 => .none (ER.replicate n)
theorem ER.args : ∀ {ws : List W} {vs : List V}, VRs K ρ H ws vs → ∀ {E : PEnv} {σ : St}, ER K ρ H E σ → ER K ρ H (ws.map .some ++ E) (vs.map .some ++ σ)
  | _, _, .nil, _, _, k => k
  | _, _, .cons h q, _, _, k => .some h (ER.args q k)
end

/-! ### outcomes -/
abbrev Wish := Exn → St → List Addr → Hp → Prop
def Out {α β : Type} (K : Fg) (XP : Wish) (Rel : List Addr → Hp → α → β → Prop) (σ : St) (ρ : List Addr) (H : Hp) (r : Rs α) (Q : β → Hp → Prop) : Prop :=
  match r with
  | .ok w G => ∀ ρ' H' v, Ext K ρ H ρ' H' → SR K ρ' G H' → Rel ρ' H' w v → Q v H'
  | .ex e G => ∀ ρ' H', Ext K ρ H ρ' H' → SR K ρ' G H' → XP e σ ρ' H'
  | .no => False
theorem Out.mono {α β : Type} {K : Fg} {XP : Wish} {Rel : List Addr → Hp → α → β → Prop} {σ : St} {ρ ρ' : List Addr} {H H' : Hp} {r : Rs α} {Q : β → Hp → Prop} (h : Out K XP Rel σ ρ H r Q) (e : Ext K ρ H ρ' H') : Out K XP Rel σ ρ' H' r Q := by
  cases r with
  | ok w G => exact fun ρ2 H2 v e2 s q => h ρ2 H2 v (e.trans e2) s q
  | ex x G => exact fun ρ2 H2 e2 s => h ρ2 H2 (e.trans e2) s
  | no => exact h
theorem Out.bind {α β α' β' : Type} {K : Fg} {XP : Wish} {Rel : List Addr → Hp → α → β → Prop} {Rel' : List Addr → Hp → α' → β' → Prop} {σ : St} {ρ : List Addr} {H : Hp} {r : Rs α} {k : α → Cells → Rs α'} {Q : β → Hp → Prop} {Q' : β' → Hp → Prop}
    (h : Out K XP Rel' σ ρ H (r.bind k) Q') (f : ∀ w G ρ1 H1 v, Ext K ρ H ρ1 H1 → SR K ρ1 G H1 → Rel ρ1 H1 w v → Out K XP Rel' σ ρ1 H1 (k w G) Q' → Q v H1) : Out K XP Rel σ ρ H r Q := by
  cases r with
  | ok w G => exact fun ρ1 H1 v e s q => f w G ρ1 H1 v e s q (h.mono e)
  | ex x G => exact h
  | no => exact h
theorem Out.ok {α β : Type} {K : Fg} {XP : Wish} {Rel : List Addr → Hp → α → β → Prop} {σ : St} {ρ : List Addr} {H : Hp} {w : α} {G : Cells} {Q : β → Hp → Prop} (h : Out K XP Rel σ ρ H (.ok w G) Q) {v : β} (s : SR K ρ G H) (q : Rel ρ H w v) : Q v H := h ρ H v .refl s q

abbrev ME := PEnv → Cells → Rs W
abbrev MA := PEnv → Cells → Rs (List W)
abbrev MT := PEnv → Cells → Rs Bool
abbrev MS := PEnv → Cells → So
def BR : List Addr → Hp → Bool → Bool → Prop := fun _ _ a b => a = b

structure HE (X : Cx) (XP : Wish) (e : Expr) (m : ME) : Prop where
  ex : ∃ t, PE X e t ∧ ∀ ρ E G σ H Q, ER X.K ρ H E σ → SR X.K ρ G H → Out X.K XP (VR X.K) σ ρ H (m E G) Q → t σ H Q
structure HA (X : Cx) (XP : Wish) (es : List Expr) (m : MA) : Prop where
  ex : ∃ t, PA X es t ∧ ∀ ρ E G σ H Q, ER X.K ρ H E σ → SR X.K ρ G H → Out X.K XP (VRs X.K) σ ρ H (m E G) Q → t σ H Q
structure HT (X : Cx) (XP : Wish) (e : Expr) (m : MT) : Prop where
  ex : ∃ t, PT X e t ∧ ∀ ρ E G σ H Q, ER X.K ρ H E σ → SR X.K ρ G H → Out X.K XP BR σ ρ H (m E G) Q → t σ H Q
def OutS (K : Fg) (XP : Wish) (ρ : List Addr) (H : Hp) (r : So) (D : Ends) : Prop :=
  match r with
  | .nx E G => ∀ ρ' H' σ', Ext K ρ H ρ' H' → SR K ρ' G H' → ER K ρ' H' E σ' → D.nx σ' H'
  | .rt w G => ∀ ρ' H' v, Ext K ρ H ρ' H' → SR K ρ' G H' → VR K ρ' H' w v → D.rt v H'
  | .bk E G => ∀ ρ' H' σ', Ext K ρ H ρ' H' → SR K ρ' G H' → ER K ρ' H' E σ' → D.bk σ' H'
  | .ct E G => ∀ ρ' H' σ', Ext K ρ H ρ' H' → SR K ρ' G H' → ER K ρ' H' E σ' → D.ct σ' H'
  | .ex e E G => ∀ ρ' H' σ', Ext K ρ H ρ' H' → SR K ρ' G H' → ER K ρ' H' E σ' → XP e σ' ρ' H'
  | .no => False
theorem OutS.mono {K : Fg} {XP : Wish} {ρ ρ' : List Addr} {H H' : Hp} {r : So} {D : Ends} (h : OutS K XP ρ H r D) (e : Ext K ρ H ρ' H') : OutS K XP ρ' H' r D := by
  cases r with
  | nx E G => exact fun ρ2 H2 v e2 s q => h ρ2 H2 v (e.trans e2) s q
  | rt w G => exact fun ρ2 H2 v e2 s q => h ρ2 H2 v (e.trans e2) s q
  | bk E G => exact fun ρ2 H2 v e2 s q => h ρ2 H2 v (e.trans e2) s q
  | ct E G => exact fun ρ2 H2 v e2 s q => h ρ2 H2 v (e.trans e2) s q
  | ex x E G => exact fun ρ2 H2 v e2 s q => h ρ2 H2 v (e.trans e2) s q
  | no => exact h
structure HS (X : Cx) (XP : Wish) (st : Stmt) (m : MS) : Prop where
  ex : ∃ t, PS X st t ∧ ∀ ρ E G σ H D, ER X.K ρ H E σ → SR X.K ρ G H → OutS X.K XP ρ H (m E G) D → t D σ H
structure HB (X : Cx) (XP : Wish) (sts : List Stmt) (m : MS) : Prop where
  ex : ∃ t, PSs X sts t ∧ ∀ ρ E G σ H D, ER X.K ρ H E σ → SR X.K ρ G H → OutS X.K XP ρ H (m E G) D → t D σ H
end PL
/- part PLb -/
set_option maxHeartbeats 4000000
namespace PL
open PySem PySem.Spec PyProof.Rows L2
section
variable {X : Cx} {XP : Wish} {pos : Pos}

/-! ### names, constants -/
def mVar (i : Nat) : ME := fun E G => match E[i]? with | some (some w) => .ok w G | _ => .no
def mC (w : W) : ME := fun _ G => .ok w G
theorem he_var {i : Nat} {x : Str} (hN : X.N[i]? = some x) (hv : Vis X.env.scope x) (hd : (x == ("__debug__" : Str)) = false := by decide) (hcd : (x == ("__classdict__" : Str)) = false := by decide) : HE X XP (.Name x pos) (mVar i) := by
  refine ⟨_, pe_var hN hv hd hcd, fun ρ E G σ H Q er sr h => ?_⟩
  unfold mVar at h
  split at h
  · rename_i w hw
    obtain ⟨v, h1, h2⟩ := er.get hw
    exact ⟨v, h1, h.ok sr h2⟩
  · exact h.elim
theorem he_const {e : Expr} {v : V} {w : W} (h : PE X e (tC v)) (r : ∀ ρ H, VR X.K ρ H w v) : HE X XP e (mC w) :=
  ⟨_, h, fun ρ E G σ H Q er sr q => q.ok sr (r ρ H)⟩
theorem he_int {i : Int} {j} : HE X XP (.Constant (.int i) j pos) (mC (.int i)) := he_const pe_int fun _ _ => .int i
theorem he_bl {b : Bool} {j} : HE X XP (.Constant (.bool b) j pos) (mC (.bl b)) := he_const pe_bl fun _ _ => .bl b
theorem he_non {j} : HE X XP (.Constant .none j pos) (mC .non) := he_const pe_non fun _ _ => .non
theorem he_str {x : Str} {j} : HE X XP (.Constant (.str x) j pos) (mC (.str x)) := he_const pe_str fun _ _ => .str x
/-- a module's constant -/
theorem he_glob {x : Str} {v : V} {u : Value} {w : W} (hg : Gl X x) (hm : X.mg x = some u) (r : RelV v u) (k : ∀ ρ H, VR X.K ρ H w v) (hd : (x == ("__debug__" : Str)) = false := by decide) : HE X XP (.Name x pos) (mC w) :=
  he_const (pe_glob hg hm r hd) k
/-- a built-in type as a value -/
theorem he_type {x : Str} {n : String} (hg : Gl X x) (hm : X.mg x = none) (hv : bootBuiltins x = some (.type n)) (hn : x ≠ "__name__" := by decide) (hd : (x == ("__debug__" : Str)) = false := by decide) : HE X XP (.Name x pos) (mC (.ty n)) :=
  he_const (v := .ty n) (pe_bltn hg hm hv rfl hn hd) fun _ _ => .ty n

/-! ### two-place operations -/
abbrev GOp := Cells → W → W → Rs W
structure OpG (X : Cx) (XP : Wish) (f : Value → Value → Sem Value) (g : GOp) : Prop where
  ex : ∃ r, OpR X f r ∧ ∀ ρ G σ H x y v u Q, SR X.K ρ G H → VR X.K ρ H x v → VR X.K ρ H y u → Out X.K XP (VR X.K) σ ρ H (g G x y) Q → r v u H Q
def mBin (g : GOp) (ma mb : ME) : ME := fun E G => (ma E G).bind fun x G1 => (mb E G1).bind fun y G2 => g G2 x y
theorem bin_run {ta tb : TE} {ma mb : ME} {g : GOp} {r : R2}
    (ha : ∀ ρ E G σ H Q, ER X.K ρ H E σ → SR X.K ρ G H → Out X.K XP (VR X.K) σ ρ H (ma E G) Q → ta σ H Q)
    (hb : ∀ ρ E G σ H Q, ER X.K ρ H E σ → SR X.K ρ G H → Out X.K XP (VR X.K) σ ρ H (mb E G) Q → tb σ H Q)
    (hr : ∀ ρ G σ H x y v u Q, SR X.K ρ G H → VR X.K ρ H x v → VR X.K ρ H y u → Out X.K XP (VR X.K) σ ρ H (g G x y) Q → r v u H Q) :
    ∀ ρ E G σ H Q, ER X.K ρ H E σ → SR X.K ρ G H → Out X.K XP (VR X.K) σ ρ H (mBin g ma mb E G) Q → tOp r ta tb σ H Q := by
  intro ρ E G σ H Q er sr h
  refine ha ρ E G σ H _ er sr (h.bind fun x G1 ρ1 H1 v e1 s1 r1 h1 => ?_)
  refine hb ρ1 E G1 σ H1 _ (er.mono e1) s1 (h1.bind fun y G2 ρ2 H2 u e2 s2 r2 h2 => ?_)
  exact hr ρ2 G2 σ H2 x y v u Q s2 (r1.mono e2) r2 h2
theorem he_op {op : Operator} {a b : Expr} {ma mb : ME} {g : GOp} (ho : OpG X XP (binaryOp op) g) (ha : HE X XP a ma) (hb : HE X XP b mb) : HE X XP (.BinOp a op b pos) (mBin g ma mb) := by
  obtain ⟨r, h1, h2⟩ := ho.ex
  obtain ⟨ta, a1, a2⟩ := ha.ex
  obtain ⟨tb, b1, b2⟩ := hb.ex
  exact ⟨_, pe_op h1 a1 b1, bin_run a2 b2 h2⟩
theorem he_cmp {op : CmpOp} {a b : Expr} {ma mb : ME} {g : GOp} (ho : OpG X XP (compareOp op) g) (ha : HE X XP a ma) (hb : HE X XP b mb) (hm : behindInMarks op b = false) : HE X XP (.Compare a [op] [b] pos) (mBin g ma mb) := by
  obtain ⟨r, h1, h2⟩ := ho.ex
  obtain ⟨ta, a1, a2⟩ := ha.ex
  obtain ⟨tb, b1, b2⟩ := hb.ex
  exact ⟨_, pe_cmpR h1 a1 b1 hm, bin_run a2 b2 h2⟩
def mTest (m : ME) : MT := fun E G => (m E G).bind fun w G' => match w with | .bl b => .ok b G' | _ => .no
theorem test_run {t : TE} {m : ME} (h : ∀ ρ E G σ H Q, ER X.K ρ H E σ → SR X.K ρ G H → Out X.K XP (VR X.K) σ ρ H (m E G) Q → t σ H Q) :
    ∀ ρ E G σ H Q, ER X.K ρ H E σ → SR X.K ρ G H → Out X.K XP BR σ ρ H (mTest m E G) Q → tTest t σ H Q := by
  intro ρ E G σ H Q er sr q
  refine h ρ E G σ H _ er sr (q.bind fun w G1 ρ1 H1 v e1 s1 r1 h1 => ?_)
  cases r1 <;> first | exact h1.elim | exact ⟨_, rfl, h1.ok s1 rfl⟩
theorem ht_cmp {op : CmpOp} {a b : Expr} {ma mb : ME} {g : GOp} (ho : OpG X XP (compareOp op) g) (ha : HE X XP a ma) (hb : HE X XP b mb) (hm : behindInMarks op b = false) : HT X XP (.Compare a [op] [b] pos) (mTest (mBin g ma mb)) := by
  obtain ⟨r, h1, h2⟩ := ho.ex
  obtain ⟨ta, a1, a2⟩ := ha.ex
  obtain ⟨tb, b1, b2⟩ := hb.ex
  exact ⟨_, pt_cmpR h1 a1 b1 hm, test_run (bin_run a2 b2 h2)⟩
/-- a op b op' c -/
def mChain (g g' : GOp) (ma mb mc : ME) : ME := fun E G => (ma E G).bind fun x G1 => (mb E G1).bind fun y G2 => (g G2 x y).bind fun z G3 =>
  match z with | .bl true => (mc E G3).bind fun w G4 => g' G4 y w | .bl false => .ok (.bl false) G3 | _ => .no
theorem chain_run {ta tb tc : TE} {ma mb mc : ME} {g g' : GOp} {r r' : R2}
    (ha : ∀ ρ E G σ H Q, ER X.K ρ H E σ → SR X.K ρ G H → Out X.K XP (VR X.K) σ ρ H (ma E G) Q → ta σ H Q)
    (hb : ∀ ρ E G σ H Q, ER X.K ρ H E σ → SR X.K ρ G H → Out X.K XP (VR X.K) σ ρ H (mb E G) Q → tb σ H Q)
    (hc : ∀ ρ E G σ H Q, ER X.K ρ H E σ → SR X.K ρ G H → Out X.K XP (VR X.K) σ ρ H (mc E G) Q → tc σ H Q)
    (hr : ∀ ρ G σ H x y v u Q, SR X.K ρ G H → VR X.K ρ H x v → VR X.K ρ H y u → Out X.K XP (VR X.K) σ ρ H (g G x y) Q → r v u H Q)
    (hr' : ∀ ρ G σ H x y v u Q, SR X.K ρ G H → VR X.K ρ H x v → VR X.K ρ H y u → Out X.K XP (VR X.K) σ ρ H (g' G x y) Q → r' v u H Q) :
    ∀ ρ E G σ H Q, ER X.K ρ H E σ → SR X.K ρ G H → Out X.K XP (VR X.K) σ ρ H (mChain g g' ma mb mc E G) Q → tChain r r' ta tb tc σ H Q := by
  intro ρ E G σ H Q er sr h
  refine ha ρ E G σ H _ er sr (h.bind fun x G1 ρ1 H1 v e1 s1 r1 h1 => ?_)
  refine hb ρ1 E G1 σ H1 _ (er.mono e1) s1 (h1.bind fun y G2 ρ2 H2 u e2 s2 r2 h2 => ?_)
  refine hr ρ2 G2 σ H2 x y v u _ s2 (r1.mono e2) r2 (h2.bind fun z G3 ρ3 H3 zv e3 s3 r3 h3 => ?_)
  cases r3 with
  | bl b =>
    cases b with
    | true =>
      refine ⟨true, rfl, ?_⟩
      rw [if_pos rfl]
      refine hc ρ3 E G3 σ H3 _ (er.mono (e1.trans (e2.trans e3))) s3 (h3.bind fun w' G4 ρ4 H4 wv e4 s4 r4 h4 => ?_)
      exact hr' ρ4 G4 σ H4 y w' u wv Q s4 (r2.mono (e3.trans e4)) r4 h4
    | false =>
      refine ⟨false, rfl, ?_⟩
      rw [if_neg Bool.false_ne_true]
      exact h3.ok s3 (.bl false)
  | _ => exact h3.elim
theorem he_chain {op op' : CmpOp} {a b c : Expr} {ma mb mc : ME} {g g' : GOp} (ho : OpG X XP (compareOp op) g) (ho' : OpG X XP (compareOp op') g') (ha : HE X XP a ma) (hb : HE X XP b mb) (hc : HE X XP c mc)
    (hm : lastMarks [op, op'] [b, c] = false := by with_unfolding_all rfl) : HE X XP (.Compare a [op, op'] [b, c] pos) (mChain g g' ma mb mc) := by
  obtain ⟨r, h1, h2⟩ := ho.ex
  obtain ⟨r', h1', h2'⟩ := ho'.ex
  obtain ⟨ta, a1, a2⟩ := ha.ex
  obtain ⟨tb, b1, b2⟩ := hb.ex
  obtain ⟨tc, c1, c2⟩ := hc.ex
  exact ⟨_, pe_chain h1 h1' a1 b1 c1 hm, chain_run a2 b2 c2 h2 h2'⟩
theorem ht_chain {op op' : CmpOp} {a b c : Expr} {ma mb mc : ME} {g g' : GOp} (ho : OpG X XP (compareOp op) g) (ho' : OpG X XP (compareOp op') g') (ha : HE X XP a ma) (hb : HE X XP b mb) (hc : HE X XP c mc)
    (hm : lastMarks [op, op'] [b, c] = false := by with_unfolding_all rfl) : HT X XP (.Compare a [op, op'] [b, c] pos) (mTest (mChain g g' ma mb mc)) := by
  obtain ⟨r, h1, h2⟩ := ho.ex
  obtain ⟨r', h1', h2'⟩ := ho'.ex
  obtain ⟨ta, a1, a2⟩ := ha.ex
  obtain ⟨tb, b1, b2⟩ := hb.ex
  obtain ⟨tc, c1, c2⟩ := hc.ex
  exact ⟨_, pt_chain h1 h1' a1 b1 c1 hm, test_run (chain_run a2 b2 c2 h2 h2')⟩

/-! ### truth -/
def truW (G : Cells) : W → Option Bool
  | .non => some false
  | .bl b => some b
  | .int i => some (i != 0)
  | .str y => if y.length ≤ sizeLine then some ((y.length : Int) != 0) else none
  | .tup ws => some (!ws.isEmpty)
  | .ref n => match G[n]? with
    | some (.lst ws) => some (!ws.isEmpty)
    | some (.rol ws) => some (!ws.isEmpty)
    | some (.dct kvs) => some (!kvs.isEmpty)
    | _ => none
  | .ty _ => none
  | .fn _ => none
theorem VRs.empty {K : Fg} {ρ : List Addr} {H : Hp} {ws : List W} {vs : List V} (h : VRs K ρ H ws vs) : ws.isEmpty = vs.isEmpty := by cases h <;> rfl
theorem tru_of {K : Fg} {ρ : List Addr} {G : Cells} {H : Hp} {w : W} {v : V} {b : Bool} (s : SR K ρ G H) (r : VR K ρ H w v) (h : truW G w = some b) : TruV K v H b := by
  cases r with
  | non => exact (Option.some.inj h).symm
  | bl k => exact (Option.some.inj h).symm
  | int i => exact (Option.some.inj h).symm
  | str y =>
    simp only [truW] at h
    split at h
    · rename_i hl
      exact ⟨hl, (Option.some.inj h).symm⟩
    · cases h
  | ty s => cases h
  | fn a => cases h
  | tup h1 h2 =>
    have e := (Option.some.inj h).symm
    exact .inr (.inl ⟨_, .of h1, by rw [e, h2.empty]⟩)
  | @ref n a h1 =>
    obtain ⟨c, hc⟩ := s.at h1
    have k := s.cell n c a hc h1
    simp only [truW, hc] at h
    cases c with
    | lst ws =>
      obtain ⟨vs, q1, q2⟩ := k
      have e := (Option.some.inj h).symm
      exact .inl ⟨vs, .of q1, by rw [e, q2.empty]⟩
    | rol ws =>
      obtain ⟨vs, q1, q2⟩ := k
      have e := (Option.some.inj h).symm
      refine .inl ⟨vs, ?_, by rw [e, q2.empty]⟩
      rcases q1 with ⟨o, q1⟩ | q1
      · exact .inl (.inr ⟨o, q1⟩)
      · exact .inr q1
    | dct kvs =>
      obtain ⟨vs, q1, q2⟩ := k
      have e := (Option.some.inj h).symm
      refine .inr (.inr ⟨vs, q1, ?_⟩)
      rw [e]
      cases q2 <;> rfl
    | tct kvs => cases h
    | lkd kvs => cases h
def mTru (m : ME) : MT := fun E G => (m E G).bind fun w G' => match truW G' w with | some b => .ok b G' | none => .no
theorem ht_truth {a : Expr} {m : ME} (ha : HE X XP a m) (he : ∀ whole, isTrue a X.env whole = (do let v ← whole; standAt a.pos; holding [v] (truthy v)) := by intro _; rfl) : HT X XP a (mTru m) := by
  obtain ⟨ta, a1, a2⟩ := ha.ex
  refine ⟨_, pt_truth a1 he, fun ρ E G σ H Q er sr q => a2 ρ E G σ H _ er sr (q.bind fun w G1 ρ1 H1 v e1 s1 r1 h1 => ?_)⟩
  split at h1
  · rename_i b hb
    exact ⟨b, tru_of s1 r1 hb, h1.ok s1 rfl⟩
  · exact h1.elim
def mNotT (m : MT) : MT := fun E G => (m E G).bind fun b G' => .ok (!b) G'
theorem ht_not {a : Expr} {m : MT} (ha : HT X XP a m) : HT X XP (.UnaryOp .Not a pos) (mNotT m) := by
  obtain ⟨ta, a1, a2⟩ := ha.ex
  exact ⟨_, pt_not a1, fun ρ E G σ H Q er sr q => a2 ρ E G σ H _ er sr (q.bind fun w G1 ρ1 H1 v e1 s1 r1 h1 => by cases r1; exact h1.ok s1 rfl)⟩
structure HW (X : Cx) (XP : Wish) (e : Expr) (m : MT) : Prop where
  ex : ∃ t, PW X e t ∧ ∀ ρ E G σ H Q, ER X.K ρ H E σ → SR X.K ρ G H → Out X.K XP BR σ ρ H (m E G) Q → t σ H Q
theorem HW.ht {e : Expr} {m : MT} (h : HW X XP e m) : HT X XP e m := by
  obtain ⟨t, h1, h2⟩ := h.ex
  exact ⟨t, h1.pt, h2⟩
def mAndT (ma mb : MT) : MT := fun E G => (ma E G).bind fun b G' => if b = true then mb E G' else .ok false G'
def mOrT (ma mb : MT) : MT := fun E G => (ma E G).bind fun b G' => if b = true then .ok true G' else mb E G'
theorem hw_and1 {a : Expr} {m : MT} (ha : HT X XP a m) : HW X XP (.BoolOp .And [a] pos) m := by
  obtain ⟨t, h1, h2⟩ := ha.ex
  exact ⟨_, pw_and1 h1, h2⟩
theorem hw_or1 {a : Expr} {m : MT} (ha : HT X XP a m) : HW X XP (.BoolOp .Or [a] pos) m := by
  obtain ⟨t, h1, h2⟩ := ha.ex
  exact ⟨_, pw_or1 h1, h2⟩
theorem hw_and {a b : Expr} {rest : List Expr} {ma mb : MT} (ha : HT X XP a ma) (hb : HW X XP (.BoolOp .And (b :: rest) pos) mb) : HW X XP (.BoolOp .And (a :: b :: rest) pos) (mAndT ma mb) := by
  obtain ⟨ta, a1, a2⟩ := ha.ex
  obtain ⟨tb, b1, b2⟩ := hb.ex
  refine ⟨_, pw_and a1 b1, fun ρ E G σ H Q er sr q => a2 ρ E G σ H _ er sr (q.bind fun w G1 ρ1 H1 v e1 s1 r1 h1 => ?_)⟩
  cases r1
  cases w with
  | true => rw [if_pos rfl]; exact b2 ρ1 E G1 σ H1 Q (er.mono e1) s1 (by simpa using h1)
  | false => rw [if_neg Bool.false_ne_true]; exact Out.ok (by simpa using h1) s1 rfl
theorem hw_or {a b : Expr} {rest : List Expr} {ma mb : MT} (ha : HT X XP a ma) (hb : HW X XP (.BoolOp .Or (b :: rest) pos) mb) : HW X XP (.BoolOp .Or (a :: b :: rest) pos) (mOrT ma mb) := by
  obtain ⟨ta, a1, a2⟩ := ha.ex
  obtain ⟨tb, b1, b2⟩ := hb.ex
  refine ⟨_, pw_or a1 b1, fun ρ E G σ H Q er sr q => a2 ρ E G σ H _ er sr (q.bind fun w G1 ρ1 H1 v e1 s1 r1 h1 => ?_)⟩
  cases r1
  cases w with
  | true => rw [if_pos rfl]; exact Out.ok (by simpa using h1) s1 rfl
  | false => rw [if_neg Bool.false_ne_true]; exact b2 ρ1 E G1 σ H1 Q (er.mono e1) s1 (by simpa using h1)
/-- x and y, x or y, not x as values -/
def mAnd (ma mb : ME) : ME := fun E G => (ma E G).bind fun w G' => match truW G' w with | some true => mb E G' | some false => .ok w G' | none => .no
def mOr (ma mb : ME) : ME := fun E G => (ma E G).bind fun w G' => match truW G' w with | some true => .ok w G' | some false => mb E G' | none => .no
def mNot (ma : ME) : ME := fun E G => (ma E G).bind fun w G' => match truW G' w with | some b => .ok (.bl (!b)) G' | none => .no
theorem he_one {op : BoolOp} {a : Expr} {m : ME} (ha : HE X XP a m) : HE X XP (.BoolOp op [a] pos) m := by
  obtain ⟨t, h1, h2⟩ := ha.ex
  exact ⟨_, pe_one h1, h2⟩
theorem he_and {a b : Expr} {rest : List Expr} {ma mb : ME} (ha : HE X XP a ma) (hb : HE X XP (.BoolOp .And (b :: rest) pos) mb) : HE X XP (.BoolOp .And (a :: b :: rest) pos) (mAnd ma mb) := by
  obtain ⟨ta, a1, a2⟩ := ha.ex
  obtain ⟨tb, b1, b2⟩ := hb.ex
  refine ⟨_, pe_andT a1 b1, fun ρ E G σ H Q er sr q => a2 ρ E G σ H _ er sr (q.bind fun w G1 ρ1 H1 v e1 s1 r1 h1 => ?_)⟩
  split at h1
  · rename_i hb; exact ⟨true, tru_of s1 r1 hb, by rw [if_pos rfl]; exact b2 ρ1 E G1 σ H1 Q (er.mono e1) s1 h1⟩
  · rename_i hb; exact ⟨false, tru_of s1 r1 hb, by rw [if_neg Bool.false_ne_true]; exact h1.ok s1 r1⟩
  · exact h1.elim
theorem he_or {a b : Expr} {rest : List Expr} {ma mb : ME} (ha : HE X XP a ma) (hb : HE X XP (.BoolOp .Or (b :: rest) pos) mb) : HE X XP (.BoolOp .Or (a :: b :: rest) pos) (mOr ma mb) := by
  obtain ⟨ta, a1, a2⟩ := ha.ex
  obtain ⟨tb, b1, b2⟩ := hb.ex
  refine ⟨_, pe_orT a1 b1, fun ρ E G σ H Q er sr q => a2 ρ E G σ H _ er sr (q.bind fun w G1 ρ1 H1 v e1 s1 r1 h1 => ?_)⟩
  split at h1
  · rename_i hb; exact ⟨true, tru_of s1 r1 hb, by rw [if_pos rfl]; exact h1.ok s1 r1⟩
  · rename_i hb; exact ⟨false, tru_of s1 r1 hb, by rw [if_neg Bool.false_ne_true]; exact b2 ρ1 E G1 σ H1 Q (er.mono e1) s1 h1⟩
  · exact h1.elim
theorem he_not {a : Expr} {ma : ME} (ha : HE X XP a ma) : HE X XP (.UnaryOp .Not a pos) (mNot ma) := by
  obtain ⟨ta, a1, a2⟩ := ha.ex
  refine ⟨_, pe_notT a1, fun ρ E G σ H Q er sr q => a2 ρ E G σ H _ er sr (q.bind fun w G1 ρ1 H1 v e1 s1 r1 h1 => ?_)⟩
  split at h1
  · rename_i b hb; exact ⟨b, tru_of s1 r1 hb, h1.ok s1 (.bl _)⟩
  · exact h1.elim
def mIf (t : MT) (ma mb : ME) : ME := fun E G => (t E G).bind fun b G' => if b = true then ma E G' else mb E G'
theorem he_if {c a b : Expr} {t : MT} {ma mb : ME} (hc : HT X XP c t) (ha : HE X XP a ma) (hb : HE X XP b mb) : HE X XP (.IfExp c a b pos) (mIf t ma mb) := by
  obtain ⟨tc, c1, c2⟩ := hc.ex
  obtain ⟨ta, a1, a2⟩ := ha.ex
  obtain ⟨tb, b1, b2⟩ := hb.ex
  refine ⟨_, pe_ifExp c1 a1 b1, fun ρ E G σ H Q er sr q => c2 ρ E G σ H _ er sr (q.bind fun w G1 ρ1 H1 v e1 s1 r1 h1 => ?_)⟩
  cases r1
  cases w with
  | true => rw [if_pos rfl]; exact a2 ρ1 E G1 σ H1 Q (er.mono e1) s1 (by simpa using h1)
  | false => rw [if_neg Bool.false_ne_true]; exact b2 ρ1 E G1 σ H1 Q (er.mono e1) s1 (by simpa using h1)
def mNeg (m : ME) : ME := fun E G => (m E G).bind fun w G' => match w with | .int i => .ok (.int (-i)) G' | _ => .no
theorem he_neg {a : Expr} {m : ME} (ha : HE X XP a m) : HE X XP (.UnaryOp .USub a pos) (mNeg m) := by
  obtain ⟨ta, a1, a2⟩ := ha.ex
  refine ⟨_, pe_un un_neg a1, fun ρ E G σ H Q er sr q => a2 ρ E G σ H _ er sr (q.bind fun w G1 ρ1 H1 v e1 s1 r1 h1 => ?_)⟩
  cases r1 <;> first | exact h1.elim | exact ⟨_, rfl, h1.ok s1 (.int _)⟩

/-! ### arguments, displays -/
def mNil : MA := fun _ G => .ok [] G
def mCons (ma : ME) (mr : MA) : MA := fun E G => (ma E G).bind fun w G1 => (mr E G1).bind fun ws G2 => .ok (w :: ws) G2
theorem ha_nil : HA X XP [] mNil := ⟨_, pa_nil, fun ρ E G σ H Q er sr q => q.ok sr .nil⟩
theorem ha_cons {e : Expr} {es : List Expr} {ma : ME} {mr : MA} (ha : HE X XP e ma) (hr : HA X XP es mr) (hs : starEach (e :: es) X.env = (false, eval e X.env) :: starEach es X.env := by rfl) : HA X XP (e :: es) (mCons ma mr) := by
  obtain ⟨ta, a1, a2⟩ := ha.ex
  obtain ⟨tr, r1, r2⟩ := hr.ex
  refine ⟨_, pa_cons a1 r1 hs, fun ρ E G σ H Q er sr q => a2 ρ E G σ H _ er sr (q.bind fun w G1 ρ1 H1 v e1 s1 q1 h1 => ?_)⟩
  exact r2 ρ1 E G1 σ H1 _ (er.mono e1) s1 (h1.bind fun ws G2 ρ2 H2 vs e2 s2 q2 h2 => h2.ok s2 (.cons (q1.mono e2) q2))
def mTup (m : MA) : ME := fun E G => (m E G).bind fun ws G' => if ws.length ≤ sizeLine then .ok (.tup ws) G' else .no
def mLst (m : MA) : ME := fun E G => (m E G).bind fun ws G' => if ws.length ≤ sizeLine then .ok (.ref G'.length) (G' ++ [.lst ws]) else .no
/-- a new tuple -/
theorem out_tup {Q : VK} {σ : St} {ρ : List Addr} {H : Hp} {G : Cells} {ws : List W} {vs : List V} {p : Addr} (h : Out X.K XP (VR X.K) σ ρ H (.ok (.tup ws) G) Q) (s : SR X.K ρ G H) (r : VRs X.K ρ H ws vs) (hp : H p = none) : Q (.ref p) (upd H p (.tup vs)) :=
  h ρ _ _ (ext_upd (.inl hp) fun _ _ h => h) (s.fresh hp) (.tup upd_same (r.mono (ext_upd (.inl hp) fun _ _ h => h)))
theorem last_get {α : Type} (l : List α) (x : α) : (l ++ [x])[l.length]? = some x := by simp
/-- a new list -/
theorem out_lst {Q : VK} {σ : St} {ρ : List Addr} {H : Hp} {G : Cells} {ws : List W} {vs : List V} {p : Addr} (h : Out X.K XP (VR X.K) σ ρ H (.ok (.ref G.length) (G ++ [.lst ws])) Q) (s : SR X.K ρ G H) (r : VRs X.K ρ H ws vs) (hp : H p = none) : Q (.ref p) (upd H p (.lst vs)) :=
  h (ρ ++ [p]) _ _ (ext_alloc hp) (s.alloc hp ⟨vs, upd_same, r.mono (ext_alloc hp)⟩) (.ref (by rw [← s.len]; exact last_get _ _))
theorem he_tup {es : List Expr} {m : MA} {x1} (h : HA X XP es m) : HE X XP (.Tuple es x1 pos) (mTup m) := by
  obtain ⟨t, h1, h2⟩ := h.ex
  refine ⟨_, pe_tup h1, fun ρ E G σ H Q er sr q => h2 ρ E G σ H _ er sr (q.bind fun ws G1 ρ1 H1 vs e1 s1 r1 k1 => ?_)⟩
  split at k1
  · rename_i hl
    exact ⟨by rw [← r1.length]; exact hl, fun p hp => out_tup k1 s1 r1 hp⟩
  · exact k1.elim
theorem he_lst {es : List Expr} {m : MA} (h : HA X XP es m) : HE X XP (.List es pos) (mLst m) := by
  obtain ⟨t, h1, h2⟩ := h.ex
  refine ⟨_, pe_lst h1, fun ρ E G σ H Q er sr q => h2 ρ E G σ H _ er sr (q.bind fun ws G1 ρ1 H1 vs e1 s1 r1 k1 => ?_)⟩
  split at k1
  · rename_i hl
    exact ⟨by rw [← r1.length]; exact hl, fun p hp => out_lst k1 s1 r1 hp⟩
  · exact k1.elim

/-! ### calls of built-ins by values -/
abbrev GCall := Cells → List W → Rs W
structure CaG (X : Cx) (XP : Wish) (f : Value) (g : GCall) : Prop where
  ex : ∃ r, CallR X f r ∧ ∀ ρ G σ H ws vs Q, SR X.K ρ G H → VRs X.K ρ H ws vs → Out X.K XP (VR X.K) σ ρ H (g G ws) Q → r vs H Q
def mCall (g : GCall) (m : MA) : ME := fun E G => (m E G).bind fun ws G' => g G' ws
theorem he_callB {x : Str} {p : Pos} {e : Expr} {es : List Expr} {id : String} {g : GCall} {m : MA} (hc : CaG X XP (.builtin id) g) (hg : Gl X x) (hm : X.mg x = none) (hv : bootBuiltins x = some (.builtin id)) (ha : HA X XP (e :: es) m) (hn : x ≠ "__name__" := by decide) (hdb : (x == ("__debug__" : Str)) = false := by decide)
    (he : starEach (e :: es) X.env = (false, eval e X.env) :: starEach es X.env := by rfl) (hpl : (backTo pos (starEach es X.env)).any (·.1) = false := by rfl) : HE X XP (.Call (.Name x p) (e :: es) [] pos) (mCall g m) := by
  obtain ⟨r, h1, h2⟩ := hc.ex
  obtain ⟨t, a1, a2⟩ := ha.ex
  exact ⟨_, pe_callB h1 hg hm hv a1 hn hdb he hpl, fun ρ E G σ H Q er sr q => a2 ρ E G σ H _ er sr (q.bind fun ws G1 ρ1 H1 vs e1 s1 q1 k1 => h2 ρ1 G1 σ H1 ws vs Q s1 q1 k1)⟩
theorem he_callTy {x : Str} {p : Pos} {e : Expr} {es : List Expr} {T : String} {g : GCall} {m : MA} (hc : CaG X XP (.type T) g) (hg : Gl X x) (hm : X.mg x = none) (hv : bootBuiltins x = some (.type T)) (ha : HA X XP (e :: es) m) (hn : x ≠ "__name__" := by decide) (hdb : (x == ("__debug__" : Str)) = false := by decide)
    (he : starEach (e :: es) X.env = (false, eval e X.env) :: starEach es X.env := by rfl) (hpl : (backTo pos (starEach es X.env)).any (·.1) = false := by rfl) : HE X XP (.Call (.Name x p) (e :: es) [] pos) (mCall g m) := by
  obtain ⟨r, h1, h2⟩ := hc.ex
  obtain ⟨t, a1, a2⟩ := ha.ex
  exact ⟨_, pe_callTy h1 hg hm hv a1 hn hdb he hpl, fun ρ E G σ H Q er sr q => a2 ρ E G σ H _ er sr (q.bind fun ws G1 ρ1 H1 vs e1 s1 q1 k1 => h2 ρ1 G1 σ H1 ws vs Q s1 q1 k1)⟩
end
end PL
/- part PLc -/
set_option maxHeartbeats 4000000
namespace PL
open PySem PySem.Spec PyProof.Rows L2
section
variable {X : Cx} {XP : Wish} {pos : Pos}

/-! ### what a reference holds -/
theorem cell_lst {K : Fg} {ρ : List Addr} {G : Cells} {H : Hp} {n : Nat} {a : Addr} {ws : List W} (s : SR K ρ G H) (h : ρ[n]? = some a) (e : G[n]? = some (.lst ws)) : ∃ vs, H a = some (.lst vs) ∧ VRs K ρ H ws vs := s.cell n _ a e h
theorem cell_dct {K : Fg} {ρ : List Addr} {G : Cells} {H : Hp} {n : Nat} {a : Addr} {kvs : List (Key × W)} (s : SR K ρ G H) (h : ρ[n]? = some a) (e : G[n]? = some (.dct kvs)) : ∃ q, H a = some (.dK q) ∧ KVR K ρ H kvs q := s.cell n _ a e h
theorem cell_tct {K : Fg} {ρ : List Addr} {G : Cells} {H : Hp} {n : Nat} {a : Addr} {kvs : List (List Key × W)} (s : SR K ρ G H) (h : ρ[n]? = some a) (e : G[n]? = some (.tct kvs)) : ∃ q, H a = some (.dT q) ∧ KVR K ρ H kvs q := s.cell n _ a e h
theorem cell_lkd {K : Fg} {ρ : List Addr} {G : Cells} {H : Hp} {n : Nat} {a : Addr} {kvs : List (Key × W)} (s : SR K ρ G H) (h : ρ[n]? = some a) (e : G[n]? = some (.lkd kvs)) : ∃ o q, H a = some (.frz o (.dK q)) ∧ KVR K ρ H kvs q := s.cell n _ a e h
/-- a list that is read -/
def rdL (G : Cells) (n : Nat) : Option (List W) := match G[n]? with
  | some (.lst ws) => some ws
  | some (.rol ws) => some ws
  | _ => none
theorem rdL_ok {K : Fg} {ρ : List Addr} {G : Cells} {H : Hp} {n : Nat} {a : Addr} {ws : List W} (s : SR K ρ G H) (h : ρ[n]? = some a) (e : rdL G n = some ws) : ∃ vs, SqL K H a vs ∧ VRs K ρ H ws vs := by
  unfold rdL at e
  split at e
  · rename_i hc; cases e
    obtain ⟨vs, h1, h2⟩ := s.cell n _ a hc h
    exact ⟨vs, .of h1, h2⟩
  · rename_i hc; cases e
    obtain ⟨vs, h1, h2⟩ := s.cell n _ a hc h
    refine ⟨vs, ?_, h2⟩
    rcases h1 with ⟨o, h1⟩ | h1
    · exact .inl (.inr ⟨o, h1⟩)
    · exact .inr h1
  · cases e
/-- what may be read item by item: a list, a tuple -/
def rdS (G : Cells) : W → Option (List W)
  | .tup ws => some ws
  | .ref n => rdL G n
  | _ => none
theorem rdS_ok {K : Fg} {ρ : List Addr} {G : Cells} {H : Hp} {w : W} {v : V} {ws : List W} (s : SR K ρ G H) (r : VR K ρ H w v) (e : rdS G w = some ws) : ∃ a vs, v = .ref a ∧ (SqL K H a vs ∨ SqT K H a vs) ∧ VRs K ρ H ws vs := by
  cases r with
  | tup h1 h2 => cases e; exact ⟨_, _, rfl, .inr (.of h1), h2⟩
  | ref h1 => obtain ⟨vs, q1, q2⟩ := rdL_ok s h1 e; exact ⟨_, vs, rfl, .inl q1, q2⟩
  | _ => cases e

/-! ### arithmetic -/
def addW : GOp := fun G x y => match x, y with
  | .int i, .int j => .ok (.int (i + j)) G
  | .int i, .bl k => .ok (.int (i + b2i k)) G
  | .str i, .str j => if i.length + j.length ≤ sizeLine then .ok (.str (i ++ j)) G else .no
  | .tup xs, .tup ys => if xs.length + ys.length ≤ sizeLine then .ok (.tup (xs ++ ys)) G else .no
  | .ref n, .ref m => match G[n]?, G[m]? with
    | some (.lst xs), some (.lst ys) => if xs.length + ys.length ≤ sizeLine then .ok (.ref G.length) (G ++ [.lst (xs ++ ys)]) else .no
    | _, _ => .no
  | _, _ => .no
theorem og_add : OpG X XP (binaryOp .Add) addW := by
  refine ⟨_, op_add.or (op_add_ib.or (op_add_str.or (op_catA.or op_cat))), fun ρ G σ H x y v u Q s rx ry h => ?_⟩
  unfold addW at h
  split at h
  · cases rx; cases ry
    exact .inl ⟨_, _, rfl, rfl, h.ok s (.int _)⟩
  · cases rx; cases ry
    exact .inr (.inl ⟨_, _, rfl, rfl, h.ok s (.int _)⟩)
  · cases rx; cases ry
    split at h
    · rename_i hl; exact .inr (.inr (.inl ⟨_, _, rfl, rfl, hl, h.ok s (.str _)⟩))
    · exact h.elim
  · cases rx with
    | tup a1 a2 =>
      cases ry with
      | tup b1 b2 =>
        split at h
        · rename_i hl
          refine .inr (.inr (.inr (.inl ⟨_, _, _, _, rfl, rfl, .of a1, .of b1, by rw [← a2.length, ← b2.length]; exact hl, fun e => ?_, fun _ e => ?_, fun _ _ p hp => out_tup h s (a2.append b2) hp⟩)))
          · subst e; cases a2; exact h.ok s (.tup b1 b2)
          · subst e; cases b2; exact h.ok s (.tup a1 (by rw [List.append_nil]; exact a2))
        · exact h.elim
  · cases rx with
    | ref a1 =>
      cases ry with
      | ref b1 =>
        split at h
        · rename_i xs ys e1 e2
          split at h
          · rename_i hl
            obtain ⟨vs, q1, q2⟩ := cell_lst s a1 e1
            obtain ⟨us, k1, k2⟩ := cell_lst s b1 e2
            exact .inr (.inr (.inr (.inr ⟨_, _, _, _, rfl, rfl, q1, k1, by rw [← q2.length, ← k2.length]; exact hl, fun p hp => out_lst h s (q2.append k2) hp⟩)))
          · exact h.elim
        · exact h.elim
  · exact h.elim
def subW : GOp := fun G x y => match x, y with
  | .int i, .int j => .ok (.int (i - j)) G
  | _, _ => .no
theorem og_sub : OpG X XP (binaryOp .Sub) subW := by
  refine ⟨_, op_sub, fun ρ G σ H x y v u Q s rx ry h => ?_⟩
  unfold subW at h
  split at h
  · cases rx; cases ry; exact ⟨_, _, rfl, rfl, h.ok s (.int _)⟩
  · exact h.elim
def mulOk (i j : Int) : Bool := (decide (-(2 ^ 64) < i) && decide (i < 2 ^ 64)) || (decide (-(2 ^ 64) < j) && decide (j < 2 ^ 64))
theorem mulOk_c {i j : Int} (h : mulOk i j = true) : CMul i j := by
  unfold mulOk at h
  simp only [Bool.or_eq_true, Bool.and_eq_true, decide_eq_true_eq] at h
  exact h
/-- t * 1 -/
theorem tuple_mul_one (l : Addr) (items : Array Value) (n : Nat) (dd : Option Addr) (sl : Array (Option Value)) (x : Int) (u : Tok) (c0 : (decide (x < -(2 ^ 63)) || decide (x ≥ 2 ^ 63)) = false) (c1 : (items.isEmpty || x == 1) = true) :
    Meets (Builtin.«tuple.__mul__» ⟨[.ref l, .int x u], []⟩) (fun _ R s => s.heap.get? l = some { cls := .type "tuple", dict := dd, data := .seq items n, slots := sl } ∧ R (.ok (.ret (Value.ref l))) s) :=
  .of_wp fun prog w A R s h => by
    obtain ⟨hp, g, d, tk, os⟩ := s
    obtain ⟨hl, h⟩ := h
    have f1 := AutoSeq1.idx_int
    wp_walk using wpAny_loadPart' hl
    all_goals repeat (first
      | (refine wpAny_ite_false (decide_eq_false (by rw [c0]; exact Bool.false_ne_true)) ?_; wp_walk using wpAny_loadPart' hl)
      | (refine wpAny_ite_true (decide_eq_true c1) ?_; wp_walk using wpAny_loadPart' hl))
    exact ⟨_, rfl, h⟩
def rRep1 (K : Fg) : R2 := fun x y H Q => ∃ l k xs, x = .ref l ∧ y = .int k ∧ SqT K H l xs ∧ (xs = [] ∨ k = 1) ∧ -(2 ^ 62) ≤ k ∧ k ≤ 2 ^ 62 ∧ Q (.ref l) H
theorem op_rep1 : OpR X (binaryOp .Mult) (rRep1 X.K) := by
  intro pins s σ H x y v u Q I rx ry h
  obtain ⟨l, k, xs, rfl, rfl, hT, hk, k1, k2, q⟩ := h
  cases rx
  obtain ⟨t, rfl⟩ := ry
  obtain ⟨its, r, ⟨⟨cls, dd, data, sl⟩, ho, hc, n, hd⟩, hs⟩ := I.tuple hT
  simp only at hc hd
  subst hc hd
  have c0 : (decide (k < -(2 ^ 63)) || decide (k ≥ 2 ^ 63)) = false := by
    rw [decide_eq_false (by omega), decide_eq_false (by omega)] <;> rfl
  have c1 : (its.toArray.isEmpty || k == 1) = true := by
    rcases hk with e | e
    · subst e; cases r; rfl
    · subst e; simp
  exact wpAny_binaryOp_repeat_ref (T := "tuple") (U := "int") (by decide) ⟨_, ho, rfl⟩ (fun s' => typeIs_int s' k t) noFill_tuple_mul F.fills_int_mul F.slot_int_rmul repeat_tuple F.slot_int_index.lookup
    (call_meets F.slot_int_rmul (typeIs_int s k t) F.entry_int_rmul (F.args_int_rmul_2 _ _) (int_rmul_tuple k t l its.toArray n dd sl)
      ⟨ho, rfl, ⟨_, ho, rfl⟩, call_meets F.slot_tuple_mul ⟨_, ho, rfl⟩ F.entry_tuple_mul (F.args_tuple_mul_2 _ _) (tuple_mul_one l its.toArray n dd sl k t c0 c1) ⟨ho, .ref l, H, I, rfl, q⟩⟩)
def mulW : GOp := fun G x y => match x, y with
  | .int i, .int j => if mulOk i j = true then .ok (.int (i * j)) G else .no
  | .tup xs, .int k =>
    if (xs.isEmpty || k == 1) && decide (-(2 ^ 62) ≤ k) && decide (k ≤ 2 ^ 62) then .ok (.tup xs) G
    else if !xs.isEmpty && decide (2 ≤ k) && decide (k ≤ 1000) && decide (xs.length ≤ 1000) then .ok (.tup (List.replicate k.toNat xs).flatten) G
    else .no
  | .ref n, .int k => match G[n]? with
    | some (.lst xs) => if decide (-(2 ^ 63) ≤ k) && decide (k < 2 ^ 63) && decide (xs.length * k.toNat ≤ sizeLine) then .ok (.ref G.length) (G ++ [.lst (List.replicate k.toNat xs).flatten]) else .no
    | _ => .no
  | _, _ => .no
theorem og_mul : OpG X XP (binaryOp .Mult) mulW := by
  refine ⟨_, op_mul.or (op_rep1.or (op_repT.or op_rep)), fun ρ G σ H x y v u Q s rx ry h => ?_⟩
  unfold mulW at h
  split at h
  · cases rx; cases ry
    split at h
    · rename_i hm; exact .inl ⟨_, _, rfl, rfl, mulOk_c hm, h.ok s (.int _)⟩
    · exact h.elim
  · cases rx with
    | tup a1 a2 =>
      cases ry
      split at h
      · rename_i hc
        simp only [Bool.and_eq_true, Bool.or_eq_true, decide_eq_true_eq, List.isEmpty_iff, beq_iff_eq] at hc
        refine .inr (.inl ⟨_, _, _, rfl, rfl, .of a1, ?_, hc.1.2, hc.2, h.ok s (.tup a1 a2)⟩)
        rcases hc.1.1 with e | e
        · subst e; cases a2; exact .inl rfl
        · exact .inr e
      · split at h
        · rename_i hc
          simp only [Bool.and_eq_true, Bool.not_eq_true', decide_eq_true_eq] at hc
          have hl := a2.length
          refine .inr (.inr (.inl ⟨_, _, _, rfl, rfl, .of a1, fun e => ?_, hc.1.1.2, hc.1.2, by omega, fun p hp => out_tup h s (a2.rep _) hp⟩))
          subst e; cases a2; exact absurd hc.1.1.1 (by decide)
        · exact h.elim
  · cases rx with
    | ref a1 =>
      cases ry
      split at h
      · rename_i xs e1
        split at h
        · rename_i hc
          simp only [Bool.and_eq_true, decide_eq_true_eq] at hc
          obtain ⟨vs, q1, q2⟩ := cell_lst s a1 e1
          exact .inr (.inr (.inr ⟨_, _, _, rfl, rfl, q1, hc.1.1, hc.1.2, by rw [← q2.length]; exact hc.2, fun p hp => out_lst h s (q2.rep _) hp⟩))
        · exact h.elim
      · exact h.elim
  · exact h.elim
def modW : GOp := fun G x y => match x, y with
  | .int i, .int j => if 0 < j then .ok (.int (i % j)) G else .no
  | _, _ => .no
theorem og_mod : OpG X XP (binaryOp .Mod) modW := by
  refine ⟨_, op_mod, fun ρ G σ H x y v u Q s rx ry h => ?_⟩
  unfold modW at h
  split at h
  · cases rx; cases ry
    split at h
    · rename_i hj; exact ⟨_, _, rfl, rfl, hj, h.ok s (.int _)⟩
    · exact h.elim
  · exact h.elim
def fdivW : GOp := fun G x y => match x, y with
  | .int i, .int j => if 0 < j ∧ j < 1073741824 then .ok (.int (i / j)) G else .no
  | _, _ => .no
theorem og_fdiv : OpG X XP (binaryOp .FloorDiv) fdivW := by
  refine ⟨_, op_fdiv, fun ρ G σ H x y v u Q s rx ry h => ?_⟩
  unfold fdivW at h
  split at h
  · cases rx; cases ry
    split at h
    · rename_i hj; exact ⟨_, _, rfl, rfl, hj, h.ok s (.int _)⟩
    · exact h.elim
  · exact h.elim
def powW : GOp := fun G x y => match x, y with
  | .int i, .int j => if 0 ≤ j ∧ j ≤ 1000000 ∧ i.natAbs < 2 ^ 64 then .ok (.int (i ^ j.toNat)) G else .no
  | _, _ => .no
theorem og_pow : OpG X XP (binaryOp .Pow) powW := by
  refine ⟨_, op_pow, fun ρ G σ H x y v u Q s rx ry h => ?_⟩
  unfold powW at h
  split at h
  · cases rx; cases ry
    split at h
    · rename_i hj; exact ⟨_, _, rfl, rfl, hj, h.ok s (.int _)⟩
    · exact h.elim
  · exact h.elim
/-- comparisons of ints -/
def cmpI (p : Int → Int → Bool) : GOp := fun G x y => match x, y with
  | .int i, .int j => .ok (.bl (p i j)) G
  | _, _ => .no
theorem og_cmpI {f : Value → Value → Sem Value} {p : Int → Int → Bool} (h0 : OpR X f (rI0 fun i j => .bl (p i j))) : OpG X XP f (cmpI p) := by
  refine ⟨_, h0, fun ρ G σ H x y v u Q s rx ry h => ?_⟩
  unfold cmpI at h
  split at h
  · cases rx; cases ry; exact ⟨_, _, rfl, rfl, h.ok s (.bl _)⟩
  · exact h.elim
abbrev ltW := cmpI fun i j => decide (i < j)
abbrev leW := cmpI fun i j => decide (i ≤ j)
abbrev gtW := cmpI fun i j => decide (j < i)
abbrev geW := cmpI fun i j => decide (j ≤ i)
theorem og_lt : OpG X XP (compareOp .Lt) ltW := og_cmpI op_lt
theorem og_le : OpG X XP (compareOp .LtE) leW := og_cmpI op_le
theorem og_gt : OpG X XP (compareOp .Gt) gtW := og_cmpI op_gt
theorem og_ge : OpG X XP (compareOp .GtE) geW := og_cmpI op_ge
/-- is None -/
def W.isNone : W → Bool
  | .non => true
  | _ => false
def isW (neg : Bool) : GOp := fun G x y => match y with
  | .non => .ok (.bl (if neg then !x.isNone else x.isNone)) G
  | _ => .no
theorem isNone_v {K : Fg} {ρ : List Addr} {H : Hp} {x : W} {v : V} (r : VR K ρ H x v) : decide (v = .non) = x.isNone := by
  cases r <;> simp [W.isNone]
theorem og_is : OpG X XP (compareOp .Is) (isW false) := by
  refine ⟨_, op_isN, fun ρ G σ H x y v u Q s rx ry h => ?_⟩
  unfold isW at h
  split at h
  · cases ry
    refine ⟨rfl, ?_⟩
    rw [isNone_v rx]
    exact h.ok s (.bl _)
  · exact h.elim
theorem og_isnot : OpG X XP (compareOp .IsNot) (isW true) := by
  refine ⟨_, op_notN, fun ρ G σ H x y v u Q s rx ry h => ?_⟩
  unfold isW at h
  split at h
  · cases ry
    refine ⟨rfl, ?_⟩
    rw [isNone_v rx]
    exact h.ok s (.bl _)
  · exact h.elim

end
end PL
/- part PLd -/
set_option maxHeartbeats 4000000
namespace PL
open PySem PySem.Spec PyProof.Rows L2
section
variable {X : Cx} {XP : Wish} {pos : Pos}

/-! ### dicts -/
section
variable {κ : Type} [DecidableEq κ]
def valW (kvs : List (κ × W)) (k : κ) : Option W := (kvs.find? fun kv => decide (kv.1 = k)).map (·.2)
def putW (kvs : List (κ × W)) (k : κ) (v : W) : List (κ × W) :=
  if (kvs.any fun kv => decide (kv.1 = k)) = true then kvs.map (fun kv => if kv.1 = k then (kv.1, v) else kv) else kvs ++ [(k, v)]
end
def keyW : W → Option Key
  | .int i => some (.inl i)
  | .str x => some (.inr x)
  | _ => none
theorem keyW_ok {K : Fg} {ρ : List Addr} {H : Hp} {w : W} {v : V} {k : Key} (r : VR K ρ H w v) (e : keyW w = some k) : v = kV k := by
  cases r <;> first | (cases e; done) | (cases e; rfl)
def keysL : List W → Option (List Key)
  | [] => some []
  | w :: ws => match keyW w, keysL ws with
    | some k, some r => some (k :: r)
    | _, _ => none
def tkW : W → Option (List Key)
  | .tup ws => keysL ws
  | _ => none
theorem keysL_ok {K : Fg} {ρ : List Addr} {H : Hp} : ∀ {ws : List W} {vs : List V} {ks : List Key}, VRs K ρ H ws vs → keysL ws = some ks → vs = ks.map kV
  | _, _, _, .nil, h => by cases h; rfl
  | _, _, _, .cons (w := w) (ws := ws) r rr, h => by
    simp only [keysL] at h
    cases hw : keyW w with
    | none => rw [hw] at h; cases h
    | some k =>
      cases hr : keysL ws with
      | none => rw [hw, hr] at h; cases h
      | some q =>
        rw [hw, hr] at h
        cases h
        rw [List.map_cons, keyW_ok r hw, keysL_ok rr hr]
theorem tkW_ok {K : Fg} {ρ : List Addr} {H : Hp} {w : W} {v : V} {ks : List Key} (r : VR K ρ H w v) (e : tkW w = some ks) : ∃ b, v = .ref b ∧ H b = some (.tup (ks.map kV)) := by
  cases r with
  | tup h1 h2 => exact ⟨_, rfl, by rw [← keysL_ok h2 e]; exact h1⟩
  | _ => cases e
section
variable {κ : Type} [DecidableEq κ] {K : Fg} {ρ : List Addr} {H : Hp}
theorem valW_pos {k : κ} {w : W} {r : List (κ × W)} : valW ((k, w) :: r) k = some w := by simp [valW, List.find?_cons]
theorem valW_neg {k k' : κ} {w : W} {r : List (κ × W)} (e : ¬ k' = k) : valW ((k', w) :: r) k = valW r k := by simp [valW, List.find?_cons, e]
theorem KVR.val {k : κ} : ∀ {r : List (κ × W)} {q : List (κ × V)} {w : W}, KVR K ρ H r q → valW r k = some w → ∃ v, valV q k = some v ∧ VR K ρ H w v
  | _, _, _, .nil, h => by cases h
  | _, _, w, .cons (k := k') (w := w0) (v := v0) h t, e => by
    by_cases ek : k' = k
    · subst ek
      rw [valW_pos] at e
      cases e
      exact ⟨v0, valV_pos (p := (k', v0)) rfl, h⟩
    · rw [valW_neg ek] at e
      obtain ⟨v, e1, e2⟩ := KVR.val t e
      exact ⟨v, by rw [valV_neg (p := (k', v0)) ek]; exact e1, e2⟩
theorem KVR.val_none {k : κ} : ∀ {r : List (κ × W)} {q : List (κ × V)}, KVR K ρ H r q → valW r k = none → valV q k = none
  | _, _, .nil, h => rfl
  | _, _, .cons (k := k') (w := w0) (v := v0) h t, e => by
    by_cases ek : k' = k
    · subst ek
      rw [valW_pos] at e
      cases e
    · rw [valW_neg ek] at e
      rw [valV_neg (p := (k', v0)) ek]; exact KVR.val_none t e
theorem KVR.any {k : κ} : ∀ {r : List (κ × W)} {q : List (κ × V)}, KVR K ρ H r q → (r.any fun kv => decide (kv.1 = k)) = (q.any fun kv => decide (kv.1 = k))
  | _, _, .nil => rfl
  | _, _, .cons h t => by simp only [List.any_cons, KVR.any t]
theorem KVR.map {k : κ} {w : W} {v : V} (hv : VR K ρ H w v) : ∀ {r : List (κ × W)} {q : List (κ × V)}, KVR K ρ H r q → KVR K ρ H (r.map (fun kv => if kv.1 = k then (kv.1, w) else kv)) (q.map (fun kv => if kv.1 = k then (kv.1, v) else kv))
  | _, _, .nil => .nil
  | _, _, .cons (k := k') h t => by
    rw [List.map_cons, List.map_cons]
    by_cases ek : k' = k
    · simp only [ek, if_true]; exact .cons hv (by simpa only [ek] using KVR.map hv t)
    · simp only [ek, if_false]; exact .cons h (KVR.map hv t)
theorem KVR.app : ∀ {r r' : List (κ × W)} {q q' : List (κ × V)}, KVR K ρ H r q → KVR K ρ H r' q' → KVR K ρ H (r ++ r') (q ++ q')
  | _, _, _, _, .nil, s => s
  | _, _, _, _, .cons h t, s => .cons h (KVR.app t s)
theorem KVR.put {k : κ} {w : W} {v : V} {r : List (κ × W)} {q : List (κ × V)} (h : KVR K ρ H r q) (hv : VR K ρ H w v) : KVR K ρ H (putW r k w) (putK q k v) := by
  unfold putW putK
  rw [h.any (k := k)]
  split
  · exact h.map hv
  · exact h.app (.cons hv .nil)
theorem KVR.length : ∀ {r : List (κ × W)} {q : List (κ × V)}, KVR K ρ H r q → r.length = q.length
  | _, _, .nil => rfl
  | _, _, .cons _ t => by rw [List.length_cons, List.length_cons, t.length]
end

/-! ### subscripts -/
theorem VRs.atI {K : Fg} {ρ : List Addr} {H : Hp} {ws : List W} {vs : List V} {i : Int} {w : W} (h : VRs K ρ H ws vs) (e : L2.atI ws i = some w) : ∃ v, L2.atI vs i = some v ∧ VR K ρ H w v := by
  unfold L2.atI at e ⊢
  rw [← h.length]
  cases q : ixN ws.length i with
  | none => rw [q] at e; cases e
  | some j =>
    rw [q] at e
    obtain ⟨v, e1, e2⟩ := h.get (i := j) e
    exact ⟨v, e1, e2⟩
def rIxD : R2 := fun x y H Q => ∃ a v, x = .ref a ∧ DGet H a y (some v) ∧ Q v H
theorem ix_dict (hu : X.A.units + 1 < cLine) : IxR X rIxD := by
  intro value slice pins s σ H x y v u Q I rx ry h hs
  obtain ⟨a, z, rfl, g, q⟩ := h
  cases rx
  exact tail_any (dict_typeIs I g) PySem.F.slot_dict_getitem.lookup (d_getItem hu I g ry fun w' s3 I3 rw' => ⟨z, H, I3, rw', q⟩) hs
def getW : GOp := fun G x y => match x, y with
  | .tup ws, .int i => match L2.atI ws i with | some w => .ok w G | none => .no
  | .str z, .int i => if z.length ≤ sizeLine then (match L2.atI z.cps.toList i with | some c => .ok (.str ⟨#[c]⟩) G | none => .no) else .no
  | .ref n, k => match G[n]? with
    | some (.dct kvs) => (match keyW k with | some k => (match valW kvs k with | some w => .ok w G | none => .no) | none => .no)
    | some (.lkd kvs) => (match keyW k with | some k => (match valW kvs k with | some w => .ok w G | none => .no) | none => .no)
    | some (.lst ws) => (match k with | .int i => (match L2.atI ws i with | some w => .ok w G | none => .no) | _ => .no)
    | some (.rol ws) => (match k with | .int i => (match L2.atI ws i with | some w => .ok w G | none => .no) | _ => .no)
    | _ => .no
  | _, _ => .no
structure IxG (X : Cx) (XP : Wish) (g : GOp) : Prop where
  ex : ∃ r, IxR X r ∧ ∀ ρ G σ H x y v u Q, SR X.K ρ G H → VR X.K ρ H x v → VR X.K ρ H y u → Out X.K XP (VR X.K) σ ρ H (g G x y) Q → r v u H Q
theorem ig_get (hu : X.A.units + 1 < cLine) : IxG X XP getW := by
  refine ⟨_, ix_seq.or (ix_dict hu), fun ρ G σ H x y v u Q s rx ry h => ?_⟩
  unfold getW at h
  split at h
  · cases rx with
    | tup a1 a2 =>
      cases ry
      split at h
      · rename_i w hw
        obtain ⟨z, e1, e2⟩ := a2.atI hw
        exact .inl (.inr (.inl ⟨_, _, _, z, rfl, rfl, .of a1, e1, h.ok s e2⟩))
      · exact h.elim
  · cases rx; cases ry
    split at h
    · rename_i hl
      split at h
      · rename_i c hc
        exact .inl (.inr (.inr ⟨_, _, c, rfl, rfl, hl, hc, h.ok s (.str _)⟩))
      · exact h.elim
    · exact h.elim
  · cases rx with
    | ref a1 =>
      split at h
      · rename_i kvs hk
        obtain ⟨q, e1, e2⟩ := cell_dct s a1 hk
        split at h
        · rename_i k ek
          have := keyW_ok ry ek
          subst this
          split at h
          · rename_i w hw
            obtain ⟨z, f1, f2⟩ := e2.val hw
            exact .inr ⟨_, z, rfl, .inl ⟨q, k, .inl e1, rfl, f1.symm⟩, h.ok s f2⟩
          · exact h.elim
        · exact h.elim
      · rename_i kvs hk
        obtain ⟨o, q, e1, e2⟩ := cell_lkd s a1 hk
        split at h
        · rename_i k ek
          have := keyW_ok ry ek
          subst this
          split at h
          · rename_i w hw
            obtain ⟨z, f1, f2⟩ := e2.val hw
            exact .inr ⟨_, z, rfl, .inl ⟨q, k, .inr ⟨o, e1⟩, rfl, f1.symm⟩, h.ok s f2⟩
          · exact h.elim
        · exact h.elim
      · rename_i ws hk
        obtain ⟨q, e1, e2⟩ := rdL_ok s a1 (show rdL G _ = some ws by unfold rdL; rw [hk])
        split at h
        · cases ry
          split at h
          · rename_i w hw
            obtain ⟨z, f1, f2⟩ := e2.atI hw
            exact .inl (.inl ⟨_, _, _, z, rfl, rfl, e1, f1, h.ok s f2⟩)
          · exact h.elim
        · exact h.elim
      · rename_i ws hk
        obtain ⟨q, e1, e2⟩ := rdL_ok s a1 (show rdL G _ = some ws by unfold rdL; rw [hk])
        split at h
        · cases ry
          split at h
          · rename_i w hw
            obtain ⟨z, f1, f2⟩ := e2.atI hw
            exact .inl (.inl ⟨_, _, _, z, rfl, rfl, e1, f1, h.ok s f2⟩)
          · exact h.elim
        · exact h.elim
      · exact h.elim
  · exact h.elim
theorem he_ix {a b : Expr} {ma mb : ME} (hu : X.A.units + 1 < cLine) (ha : HE X XP a ma) (hb : HE X XP b mb) (hs : PlainIx b) : HE X XP (.Subscript a b pos) (mBin getW ma mb) := by
  obtain ⟨r, h1, h2⟩ := (ig_get (X := X) (XP := XP) hu).ex
  obtain ⟨ta, a1, a2⟩ := ha.ex
  obtain ⟨tb, b1, b2⟩ := hb.ex
  exact ⟨_, pe_ix h1 a1 b1 hs, bin_run a2 b2 h2⟩

/-! ### slices -/
def cutW (xs : List W) (lo hi : Option Int) : List W := (xs.drop (HT.sIx xs.length 0 lo)).take (HT.sIx xs.length xs.length hi - HT.sIx xs.length 0 lo)
theorem VRs.cut {K : Fg} {ρ : List Addr} {H : Hp} {ws : List W} {vs : List V} {lo hi : Option Int} (h : VRs K ρ H ws vs) : VRs K ρ H (cutW ws lo hi) (cutV vs lo hi) := by
  unfold cutW cutV
  rw [h.length]
  exact (h.drop _).take _
abbrev MO := PEnv → Cells → Rs (Option Int)
def OR : List Addr → Hp → Option Int → Option Int → Prop := fun _ _ a b => a = b
structure HO' (X : Cx) (XP : Wish) (e : Option Expr) (m : MO) : Prop where
  ex : ∃ t, PO X e t ∧ ∀ ρ E G σ H Q, ER X.K ρ H E σ → SR X.K ρ G H → Out X.K XP OR σ ρ H (m E G) Q → t σ H Q
def mNoPart : MO := fun _ G => .ok none G
def mPart (m : ME) : MO := fun E G => (m E G).bind fun w G' => match w with | .int i => .ok (some i) G' | _ => .no
theorem ho_none : HO' X XP none mNoPart := ⟨_, po_none, fun ρ E G σ H Q er sr q => q.ok sr rfl⟩
theorem ho_some {e : Expr} {m : ME} (h : HE X XP e m) : HO' X XP (some e) (mPart m) := by
  obtain ⟨t, h1, h2⟩ := h.ex
  refine ⟨_, po_some h1, fun ρ E G σ H Q er sr q => h2 ρ E G σ H _ er sr (q.bind fun w G1 ρ1 H1 v e1 s1 r1 k1 => ?_)⟩
  cases r1 <;> first | exact k1.elim | exact ⟨_, rfl, k1.ok s1 rfl⟩
def cutOp (G : Cells) (x : W) (lo hi : Option Int) : Rs W := match x with
  | .tup ws => .ok (.tup (cutW ws lo hi)) G
  | .str z => if z.length ≤ sizeLine then .ok (.str (cutS z lo hi)) G else .no
  | .ref n => match rdL G n with
    | some ws => .ok (.ref G.length) (G ++ [.lst (cutW ws lo hi)])
    | none => .no
  | _ => .no
def mCut (ma : ME) (ml mh : MO) : ME := fun E G => (ma E G).bind fun x G1 => (ml E G1).bind fun lo G2 => (mh E G2).bind fun hi G3 => cutOp G3 x lo hi
theorem cut_whole (ws : List W) (lo hi : Option Int) (h : HT.sIx ws.length 0 lo = 0 ∧ HT.sIx ws.length ws.length hi = ws.length) : cutW ws lo hi = ws := by
  unfold cutW
  rw [h.1, h.2]; simp
theorem he_cut {a : Expr} {lo hi : Option Expr} {ma : ME} {ml mh : MO} {p2 : Pos} (ha : HE X XP a ma) (hl : HO' X XP lo ml) (hh : HO' X XP hi mh) : HE X XP (.Subscript a (.Slice lo hi none p2) pos) (mCut ma ml mh) := by
  obtain ⟨ta, a1, a2⟩ := ha.ex
  obtain ⟨tl, l1, l2⟩ := hl.ex
  obtain ⟨th, g1, g2⟩ := hh.ex
  refine ⟨_, pe_slice (sl_list.or (sl_tupA.or sl_str)) a1 l1 g1, fun ρ E G σ H Q er sr q => a2 ρ E G σ H _ er sr (q.bind fun x G1 ρ1 H1 v e1 s1 r1 k1 => ?_)⟩
  refine l2 ρ1 E G1 σ H1 _ (er.mono e1) s1 (k1.bind fun lo G2 ρ2 H2 lo' e2 s2 r2 k2 => ?_)
  refine g2 ρ2 E G2 σ H2 _ (er.mono (e1.trans e2)) s2 (k2.bind fun hi G3 ρ3 H3 hi' e3 s3 r3 k3 => ?_)
  cases r2; cases r3
  have r := r1.mono (e2.trans e3)
  unfold cutOp at k3
  split at k3
  · cases r with
    | tup b1 b2 =>
      refine .inr (.inl ⟨_, _, rfl, .of b1, fun hw => ?_, fun hw p hp => out_tup k3 s3 b2.cut hp⟩)
      rw [← b2.length] at hw
      rw [cut_whole _ _ _ hw] at k3
      exact k3.ok s3 (.tup b1 b2)
  · cases r
    split at k3
    · rename_i hz; exact .inr (.inr ⟨_, rfl, hz, k3.ok s3 (.str _)⟩)
    · exact k3.elim
  · cases r with
    | ref b1 =>
      split at k3
      · rename_i ws hw
        obtain ⟨vs, q1, q2⟩ := rdL_ok s3 b1 hw
        exact .inl ⟨_, _, rfl, q1, fun p hp => out_lst k3 s3 q2.cut hp⟩
      · exact k3.elim
  · exact k3.elim

end
end PL
/- part PLe -/
set_option maxHeartbeats 4000000
namespace PL
open PySem PySem.Spec PyProof.Rows L2
/-! ### enumerate of a tuple -/
theorem enum_new1 {v : Value} {ob : Obj} {HH : Heap → Prop} (B : Begins v ob HH) :
    Meets (Builtin.«enumerate.__new__» ⟨[.type "enumerate", v], []⟩) (fun _ R st => HH st.heap ∧
      R (.ok (.ret (.ref (st.heap.push ob).objs.size))) { st with heap := (st.heap.push ob).push { cls := .type "enumerate", data := .fields #[.none, .bool false, .ref st.heap.objs.size, rawInt 0, .none, .none] } }) :=
  .of_wp fun prog w A R st hst => by
    obtain ⟨hp1, gn, dr, tks, osx⟩ := st
    obtain ⟨hb, hr⟩ := hst
    have hsubE := sub_enumerate
    have itB : ∀ {A' : Around} {E : Value → Shared → Prop} {Q : Value → Shared → Prop}, Q (.ref hp1.objs.size) ⟨hp1.push ob, gn, dr, tks, osx⟩ → wpAny (model prog w) A' (pyIter v) Q E ⟨hp1, gn, dr, tks, osx⟩ :=
      fun qq => B.iter prog w _ _ ⟨hp1, gn, dr, tks, osx⟩ _ hb qq
    wp_walk using itB
    refine wpAny_stack_any fun stk => wpAny_pure ?_
    split
    · rename_i cc _ _ _ _ _
      cases (cc == Value.type "enumerate") <;> (wp_walk using itB; exact ⟨_, rfl, hr⟩)
    · (wp_walk using itB; exact ⟨_, rfl, hr⟩)
section
variable {prog : Program} {w : World} {A : Around} {E : Value → Shared → Prop} {s : Shared}
theorem call_enum1 {v : Value} {ob : Obj} {HH : Heap → Prop} {Q : Value → Shared → Prop} (B : Begins v ob HH) (hb : HH s.heap)
    (h : ∀ h', IsEnum h' (s.heap.objs.size + 1) s.heap.objs.size 0 .none → h'.get? s.heap.objs.size = some ob → (∀ b o, s.heap.get? b = some o → h'.get? b = some o) → Q (.ref (s.heap.objs.size + 1)) { s with heap := h' }) :
    wpAny (model prog w) A (call (.type "enumerate") [v]) Q E s := by
  refine callType_new F.called_enumerate (by decide) (F.typeCall_enumerate_1 _) (F.newCall_enumerate_1 _) (fun obj => F.args_object_init_2 obj _) F.entry_enumerate_new (enum_new1 B) ⟨hb, ?_⟩
  have sz1 : (s.heap.push ob).objs.size = s.heap.objs.size + 1 := Heap.size_push ..
  show _ ∧ _
  rw [sz1]
  have isE : IsEnum ((s.heap.push ob).push { cls := .type "enumerate", data := .fields #[.none, .bool false, .ref s.heap.objs.size, rawInt 0, .none, .none] }) (s.heap.objs.size + 1) s.heap.objs.size 0 .none := by
    have q := Heap.get?_push_size (s.heap.push ob) (o := { cls := .type "enumerate", data := .fields #[.none, .bool false, .ref s.heap.objs.size, rawInt 0, .none, .none] }) rfl
    rw [sz1] at q
    exact q
  exact ⟨⟨_, isE, rfl⟩, h _ isE (Heap.get?_push_of_some _ (Heap.get?_push_size _ B.free)) fun b o z => Heap.get?_push_of_some _ (Heap.get?_push_of_some _ z)⟩
end
theorem pyNext_enumT_end {prog : Program} {w : World} {A : Around} {E : Value → Shared → Prop} {s : Shared} {e it l : Addr} {i : Nat} {k : Int} {items : Array Value} {old : Value} {Q : Option Value → Shared → Prop} (hh : A.handled = none)
    (he : IsEnum s.heap e it k old) (hit : s.heap.IsTupleIter it l i) (hl : s.heap.IsTuple l items) (hx : items[i]? = none)
    (hQ : ∀ h', Heap.ExtBut it s.heap h' → Q none { s with heap := h' }) : wpAny (model prog w) A (pyNext (.ref e)) Q E s := by
  have tyE : s.TypeIs (.ref e) "enumerate" := ⟨_, he, rfl⟩
  unfold pyNext
  refine wpAny_bind (wpAny_attempt (wpAny_callSpecial?_slot (name := Str.ofString "__next__") tyE F.slot_enumerate_next (wpAny_call_entry F.slot_enumerate_next tyE F.entry_enumerate_next ?_ (F.args_enumerate_next_1 _))))
  show wpAny _ _ (field (.ref e) 2 >>= _) _ _ _
  refine wpAny_bind (wpAny_field he rfl (x := .ref it) rfl (wpAny_bind (wpAny_nextOf_tuple_end hh hit hl hx fun h1 x1 he1 hx1 => ?_)))
  obtain ⟨ox, hox, hcx⟩ := hx1
  exact wpAny_bind (wpAny_isInstance (T := "StopIteration") (b := true) ⟨ox, hox, hcx⟩ isSubtype_stop (wpAny_pure (hQ _ he1)))
def IteT (K : Fg) (a : Addr) : It :=
  ⟨fun i H => ∃ (xs : List V) (x : V), SqT K H a xs ∧ xs[i]? = some x, fun i H v H' => ∃ T x, v = .ref T ∧ H T = none ∧ H' = upd H T (.tup [.int (i : Nat), x]) ∧ ∀ xs, SqT K H a xs → xs[i]? = some x, fun i H => ∃ xs : List V, SqT K H a xs ∧ xs.length ≤ i⟩
theorem mem_two {b e it : Addr} (h : b ∈ [e, it]) : b = e ∨ b = it := by simpa using h
theorem turn_enumT {P : Program} {w : World} {K : Fg} {elts : List Expr} {kk : Nat} {tpos : Pos} (a e it : Addr) (hat : a ≠ it) (hae : a ≠ e) :
    Turn P w K (.Tuple elts kk tpos) (IteT K a) [e, it] e (fun i h => (∃ old, IsEnum h e it ((i : Nat) : Int) old) ∧ h.IsTupleIter it a i ∧ e ≠ it) where
  mem := by simp
  obj := fun i h st b hb => by
    obtain ⟨⟨old, he⟩, ⟨o, ho, hc, hd⟩, _⟩ := st
    rcases mem_two hb with z | z
    · subst z; exact ⟨_, he, fun v q => nomatch q⟩
    · subst z; exact ⟨o, ho, fun v q => by rw [hd] at q; cases q⟩
  keep := fun i h h' st k => by
    obtain ⟨⟨old, he⟩, hi, hne⟩ := st
    exact ⟨⟨old, k e (by simp) _ he⟩, hi.at fun o q => k it (by simp) o q, hne⟩
  item := by
    intro X hP hw hK hc i pins s σ H E I hf st hg
    subst hP hw hK
    obtain ⟨⟨old, he⟩, hit, hne⟩ := st
    obtain ⟨xs, x, hq, hx⟩ := hg
    obtain ⟨its, rv, p, hz⟩ := I.tuple hq
    obtain ⟨u, hu, ru⟩ := rv.get hx
    have hel : e < s.heap.objs.size := Heap.lt_size he
    have hil : it < s.heap.objs.size := by
      obtain ⟨_, q, _⟩ := hit
      exact Heap.lt_size q
    have Dr := Draws.tuple (prog := X.prog) (w := X.w) (A := X.A.in1) (by exact I.ok.hd hc) it a hat its.toArray
    have hlt : i < its.toArray.size := by
      have := (List.getElem?_eq_some_iff.mp hu).1
      simpa using this
    refine wpAny_pyNext_enum_itemD Dr he ⟨hit, p⟩ hlt hne (by simp [hne, Ne.symm hae]) fun y h1 tk hy ho hit' hT hsz hk => ?_
    have yu : y = u := by
      have q : its[i]? = some y := by simpa using hy
      rw [hu] at q
      exact (Option.some.inj q).symm
    subst yu
    refine ⟨_, rfl, wpAny_letOwnedTupleGo_enum (s := { s with heap := h1, toks := tk + 1 }) ho fun h2 he' sb => ?_⟩
    have hT2 : h2.get? s.heap.objs.size = some { cls := .type "tuple", data := .seq #[.int i tk, y] } := (sb.2 _ (Nat.ne_of_gt hel)).trans hT
    have new : ObjOk X.prog X.w (upd H s.heap.objs.size (.tup [.int (i : Nat), x])) h2 s.heap.objs.size (.tup [.int (i : Nat), x]) :=
      ⟨by show 2 ≤ sizeLine; decide, [.int i tk, y], .cons ⟨_, rfl⟩ (.cons ru .nil), ⟨_, hT2, rfl, _, rfl⟩⟩
    have I1 : Inv X pins σ (upd H s.heap.objs.size (.tup [.int (i : Nat), x])) { s with heap := h2, toks := tk + 1 } :=
      I.turnedNew (ch := [e, it]) (fun b ob hb q => (sb.2 b (fun z => hb (by simp [z]))).trans (hk b ob (fun z => hb (by simp [z])) (fun z => hb (by simp [z])) q)) hf (Nat.le_refl _) new
    refine ⟨.ref s.heap.objs.size, _, I1, rfl, ⟨_, x, rfl, I.hok.fresh (Nat.le_refl _), rfl, fun ys hy => by rw [I.tuple_inj hy hq]; exact hx⟩, ⟨⟨y, ?_⟩, hit'.1.at fun o q => (sb.2 it (Ne.symm hne)).trans q, hne⟩, fun b hb => ?_⟩
    · rw [show ((i + 1 : Nat) : Int) = (i : Int) + 1 by omega]
      exact he'
    · have hb' : b < s.heap.objs.size := by
        rcases mem_two hb with z | z
        · subst z; exact hel
        · subst z; exact hil
      rw [upd_ne (Nat.ne_of_lt hb')]
      exact (hf b hb).1
  done := by
    intro X hP hw hK hc i pins s σ H E I hf st hg
    subst hP hw hK
    obtain ⟨⟨old, he⟩, hit, hne⟩ := st
    obtain ⟨xs, hq, hx⟩ := hg
    obtain ⟨its, rv, p, hz⟩ := I.tuple hq
    obtain ⟨f0, f1, f2, f3, f4, f5⟩ := hf it (by simp)
    have hl := rv.length
    exact pyNext_enumT_end (I.ok.hd hc) he hit p (by simp; omega) fun h1 eb => ⟨rfl, I.turned (t' := s.toks) (fun b o hb q => eb b o hb q) f0 f1 f3 f4 f5⟩
  self := fun A i s Q E st h => by
    obtain ⟨⟨_, he⟩, _⟩ := st
    exact wpAny_pyIter_enum he h
section
variable {X : Cx}
/-- enumerate(xs) of a list or a tuple -/
def iEnumA (K : Fg) (ta : TA) : TI := fun σ H R => ta σ H fun vs H1 => ∃ a, vs = [.ref a] ∧ ((∃ xs, SqL K H1 a xs ∧ R (Ite K a) H1) ∨ (∃ xs, SqT K H1 a xs ∧ R (IteT K a) H1))
theorem pi_enumA {e : Expr} {ta : TA} {p pos tpos : Pos} {elts : List Expr} {kk : Nat} (hg : Gl X "enumerate") (hm : X.mg "enumerate" = none) (ha : PA X [e] ta) (hs : starEach [e] X.env = [(false, eval e X.env)] := by rfl) :
    PI X (.Tuple elts kk tpos) (.Call (.Name "enumerate" p) [e] [] pos) (iEnumA X.K ta) := by
  refine ⟨fun pins s σ H R I h => ?_⟩
  refine Call_ (ld_blt I hg hm boot_enumerate (PyProof.Rows.callWith_type1 (thn (ha.run pos pins s σ H _ I h) fun us s1 ⟨vs, H1, I1, r1, q1⟩ => ?_) hs rfl))
  obtain ⟨a, ex, q⟩ := q1
  subst ex
  cases r1 with
  | cons r rr =>
    cases rr
    cases r
    have two : ∀ {h' : Heap} (b : Addr), b ∈ [s1.heap.objs.size + 1, s1.heap.objs.size] → FpOk X pins H1 b := fun b hb => by
      have hle : s1.heap.objs.size ≤ b := by
        rcases mem_two hb with z | z <;> (subst z; first | exact Nat.le_add_right _ _ | exact Nat.le_refl _)
      exact I1.fpOk hle (I1.hok.fresh hle)
    rcases q with ⟨xs, hq, q⟩ | ⟨xs, hq, q⟩
    · obtain ⟨its, rv, p', hz⟩ := I1.list hq
      refine call_enumerate_list p'.isList fun h' he hit hsz hk => wpAny_pyIter_enum he ?_
      exact ⟨s1.heap.objs.size + 1, [s1.heap.objs.size + 1, s1.heap.objs.size], _, _, H1, rfl, I1.kept (t' := s1.toks) hk, turn_enum a (s1.heap.objs.size + 1) s1.heap.objs.size, ⟨⟨.none, he⟩, hit, Nat.succ_ne_self _⟩, two (h' := h'), q⟩
    · obtain ⟨its, rv, p', hz⟩ := I1.tuple hq
      have lt : a < s1.heap.objs.size := p'.lt
      refine call_enum1 (begins_tuple a its.toArray) p' fun h' he hob hk => wpAny_pyIter_enum he ?_
      refine ⟨s1.heap.objs.size + 1, [s1.heap.objs.size + 1, s1.heap.objs.size], _, _, H1, rfl, I1.kept (t' := s1.toks) hk, turn_enumT a (s1.heap.objs.size + 1) s1.heap.objs.size (Nat.ne_of_lt lt) (Nat.ne_of_lt (Nat.lt_succ_of_lt lt)), ⟨⟨.none, he⟩, ?_, Nat.succ_ne_self _⟩, two (h' := h'), q⟩
      exact ⟨_, hob, rfl, rfl⟩
end
end PL
/- part PLf -/
set_option maxHeartbeats 4000000
namespace PL
open PySem PySem.Spec PyProof.Rows L2
/-! ### what is walked -/
inductive PIt where
  | lst (n : Nat)
  | tup (ws : List W)
  | rng (lo : Int) (n : Nat)
  | enL (n : Nat)
  | enT (ws : List W)
  | zipL (n m : Nat)
  | zipT (ws us : List W)
  | zipM (n : Nat) (us : List W)
  | zipW (us : List W) (n : Nat)
def PIt.at (G : Cells) (i : Nat) : PIt → Option (Option W)
  | .lst n => (rdL G n).map fun ws => ws[i]?
  | .tup ws => some ws[i]?
  | .rng lo n => some (if i < n then some (.int (lo + i)) else none)
  | .enL n => (rdL G n).map fun ws => ws[i]?.map fun w => .tup [.int i, w]
  | .enT ws => some (ws[i]?.map fun w => .tup [.int i, w])
  | .zipL n m => (rdL G n).bind fun ws => (rdL G m).map fun us => ws[i]?.bind fun x => us[i]?.map fun y => .tup [x, y]
  | .zipT ws us => some (ws[i]?.bind fun x => us[i]?.map fun y => .tup [x, y])
  | .zipM n us => (rdL G n).bind fun ws => if i ≤ ws.length ∧ i ≤ us.length then some (ws[i]?.bind fun x => us[i]?.map fun y => .tup [x, y]) else none
  | .zipW us n => (rdL G n).bind fun ws => if i ≤ ws.length ∧ i ≤ us.length then some (us[i]?.bind fun x => ws[i]?.map fun y => .tup [x, y]) else none
/-- how many turns -/
def PIt.len (G : Cells) : PIt → Nat
  | .lst n => ((rdL G n).getD []).length
  | .tup ws => ws.length
  | .rng _ n => n
  | .enL n => ((rdL G n).getD []).length
  | .enT ws => ws.length
  | .zipL n m => min ((rdL G n).getD []).length ((rdL G m).getD []).length
  | .zipT ws us => min ws.length us.length
  | .zipM n us => min ((rdL G n).getD []).length us.length
  | .zipW us n => min us.length ((rdL G n).getD []).length
def ItR (K : Fg) : List Addr → Hp → PIt → It → Prop := fun ρ H pit J => ∀ ρ' G' H', Ext K ρ H ρ' H' → SR K ρ' G' H' → ∀ i,
  (pit.at G' i = some none → J.stop i H') ∧ (∀ w, pit.at G' i = some (some w) → J.go i H' ∧ ∀ v H2, J.yld i H' v H2 → Ext K ρ' H' ρ' H2 ∧ SR K ρ' G' H2 ∧ VR K ρ' H2 w v)
abbrev MI := PEnv → Cells → Rs PIt
structure HI (X : Cx) (XP : Wish) (tg iter : Expr) (m : MI) : Prop where
  ex : ∃ wi, PI X tg iter wi ∧ ∀ ρ E G σ H R, ER X.K ρ H E σ → SR X.K ρ G H → Out X.K XP (ItR X.K) σ ρ H (m E G) R → wi σ H R
section
variable {K : Fg} {ρ : List Addr} {H : Hp}
theorem get?_none_le {α : Type} {l : List α} {i : Nat} (h : l[i]? = none) : l.length ≤ i := List.getElem?_eq_none_iff.mp h
theorem itr_list {n : Nat} {a : Addr} (hn : ρ[n]? = some a) : ItR K ρ H (.lst n) (Itl K a) := by
  intro ρ' G' H' e s i
  have hn' := e.rho _ _ hn
  simp only [PIt.at]
  cases hr : rdL G' n with
  | none => exact ⟨fun h => by simp at h, fun w h => by simp at h⟩
  | some ws =>
    obtain ⟨vs, h1, h2⟩ := rdL_ok s hn' hr
    refine ⟨fun h => ?_, fun w h => ?_⟩
    · have hx : ws[i]? = none := by simpa using h
      exact ⟨vs, h1, by rw [← h2.length]; exact get?_none_le hx⟩
    · have hx : ws[i]? = some w := by simpa using h
      obtain ⟨v, q1, q2⟩ := h2.get hx
      refine ⟨⟨vs, v, h1, q1⟩, fun v' H2 hy => ?_⟩
      obtain ⟨rfl, hy⟩ := hy
      have := hy vs h1
      rw [q1] at this; cases this
      exact ⟨.refl, s, q2⟩
theorem itr_tup {ws : List W} {vs : List V} {a : Addr} (h1 : H a = some (.tup vs)) (h2 : VRs K ρ H ws vs) : ItR K ρ H (.tup ws) (Itt K a) := by
  intro ρ' G' H' e s i
  have h1' : SqT K H' a vs := .of (e.tups _ _ h1)
  have h2' := h2.mono e
  simp only [PIt.at]
  refine ⟨fun h => ?_, fun w h => ?_⟩
  · have hx : ws[i]? = none := by simpa using h
    exact ⟨vs, h1', by rw [← h2'.length]; exact get?_none_le hx⟩
  · have hx : ws[i]? = some w := by simpa using h
    obtain ⟨v, q1, q2⟩ := h2'.get hx
    refine ⟨⟨vs, v, h1', q1⟩, fun v' H2 hy => ?_⟩
    obtain ⟨rfl, hy⟩ := hy
    have := hy vs h1'
    rw [q1] at this; cases this
    exact ⟨.refl, s, q2⟩
theorem itr_rng {lo : Int} {n : Nat} : ItR K ρ H (.rng lo n) (Itr lo n) := by
  intro ρ' G' H' e s i
  simp only [PIt.at]
  refine ⟨fun h => ?_, fun w h => ?_⟩
  · by_cases hi : i < n
    · rw [if_pos hi] at h; simp at h
    · exact Nat.le_of_not_lt hi
  · by_cases hi : i < n
    · rw [if_pos hi] at h
      simp at h
      subst h
      refine ⟨hi, fun v' H2 hy => ?_⟩
      obtain ⟨rfl, rfl⟩ := hy
      exact ⟨.refl, s, .int _⟩
    · rw [if_neg hi] at h; simp at h
theorem pair_fresh {G : Cells} {T : Addr} {x y : W} {u v : V} (s : SR K ρ G H) (hT : H T = none) (hx : VR K ρ H x u) (hy : VR K ρ H y v) :
    Ext K ρ H ρ (upd H T (.tup [u, v])) ∧ SR K ρ G (upd H T (.tup [u, v])) ∧ VR K ρ (upd H T (.tup [u, v])) (.tup [x, y]) (.ref T) := by
  have e : Ext K ρ H ρ (upd H T (.tup [u, v])) := ext_upd (.inl hT) fun _ _ h => h
  exact ⟨e, s.fresh hT, .tup upd_same (.cons (hx.mono e) (.cons (hy.mono e) .nil))⟩
theorem itr_enL {n : Nat} {a : Addr} (hn : ρ[n]? = some a) : ItR K ρ H (.enL n) (Ite K a) := by
  intro ρ' G' H' e s i
  have hn' := e.rho _ _ hn
  simp only [PIt.at]
  cases hr : rdL G' n with
  | none => exact ⟨fun h => by simp at h, fun w h => by simp at h⟩
  | some ws =>
    obtain ⟨vs, h1, h2⟩ := rdL_ok s hn' hr
    cases hx : ws[i]? with
    | none => exact ⟨fun h => ⟨vs, h1, by rw [← h2.length]; exact get?_none_le hx⟩, fun w h => by simp [hx] at h⟩
    | some w0 =>
      refine ⟨fun h => by simp [hx] at h, fun w h => ?_⟩
      have : w = .tup [.int i, w0] := by simp [hx] at h; exact h.symm
      subst this
      obtain ⟨v, q1, q2⟩ := h2.get hx
      refine ⟨⟨vs, v, h1, q1⟩, fun v' H2 hy => ?_⟩
      obtain ⟨T, x, rfl, hT, rfl, hy⟩ := hy
      have := hy vs h1
      rw [q1] at this; cases this
      exact pair_fresh s hT (.int _) q2
theorem itr_enT {ws : List W} {vs : List V} {a : Addr} (h1 : H a = some (.tup vs)) (h2 : VRs K ρ H ws vs) : ItR K ρ H (.enT ws) (IteT K a) := by
  intro ρ' G' H' e s i
  have h1' : SqT K H' a vs := .of (e.tups _ _ h1)
  have h2' := h2.mono e
  simp only [PIt.at]
  cases hx : ws[i]? with
  | none => exact ⟨fun h => ⟨vs, h1', by rw [← h2'.length]; exact get?_none_le hx⟩, fun w h => by simp [hx] at h⟩
  | some w0 =>
    refine ⟨fun h => by simp [hx] at h, fun w h => ?_⟩
    have : w = .tup [.int i, w0] := by simp [hx] at h; exact h.symm
    subst this
    obtain ⟨v, q1, q2⟩ := h2'.get hx
    refine ⟨⟨vs, v, h1', q1⟩, fun v' H2 hy => ?_⟩
    obtain ⟨T, x, rfl, hT, rfl, hy⟩ := hy
    have := hy vs h1'
    rw [q1] at this; cases this
    exact pair_fresh s hT (.int _) q2
theorem itr_zipL {n m : Nat} {a b : Addr} (hn : ρ[n]? = some a) (hm : ρ[m]? = some b) : ItR K ρ H (.zipL n m) (Itz K a b) := by
  intro ρ' G' H' e s i
  have hn' := e.rho _ _ hn
  have hm' := e.rho _ _ hm
  simp only [PIt.at]
  cases hr : rdL G' n with
  | none => exact ⟨fun h => by simp at h, fun w h => by simp at h⟩
  | some ws =>
    cases hr2 : rdL G' m with
    | none => exact ⟨fun h => by simp at h, fun w h => by simp at h⟩
    | some us =>
      obtain ⟨vs, h1, h2⟩ := rdL_ok s hn' hr
      obtain ⟨zs, g1, g2⟩ := rdL_ok s hm' hr2
      cases hx : ws[i]? with
      | none => exact ⟨fun h => ⟨vs, zs, h1, g1, .inl (by rw [← h2.length]; exact get?_none_le hx)⟩, fun w h => by simp [hx] at h⟩
      | some w0 =>
        cases hy : us[i]? with
        | none => exact ⟨fun h => ⟨vs, zs, h1, g1, .inr (by rw [← g2.length]; exact get?_none_le hy)⟩, fun w h => by simp [hx, hy] at h⟩
        | some u0 =>
          refine ⟨fun h => by simp [hx, hy] at h, fun w h => ?_⟩
          have : w = .tup [w0, u0] := by simp [hx, hy] at h; exact h.symm
          subst this
          obtain ⟨v, q1, q2⟩ := h2.get hx
          obtain ⟨z, k1, k2⟩ := g2.get hy
          refine ⟨⟨vs, zs, v, z, h1, g1, q1, k1⟩, fun v' H2 hh => ?_⟩
          obtain ⟨T, x, y, rfl, hT, rfl, hy1, hy2⟩ := hh
          have t1 := hy1 vs h1
          have t2 := hy2 zs g1
          rw [q1] at t1; cases t1
          rw [k1] at t2; cases t2
          exact pair_fresh s hT q2 k2
theorem itr_zipT {ws us : List W} {vs zs : List V} {a b : Addr} (h1 : H a = some (.tup vs)) (h2 : VRs K ρ H ws vs) (g1 : H b = some (.tup zs)) (g2 : VRs K ρ H us zs) : ItR K ρ H (.zipT ws us) (RZ.ItzT K a b) := by
  intro ρ' G' H' e s i
  have h1' : SqT K H' a vs := .of (e.tups _ _ h1)
  have h2' := h2.mono e
  have g1' : SqT K H' b zs := .of (e.tups _ _ g1)
  have g2' := g2.mono e
  simp only [PIt.at]
  cases hx : ws[i]? with
  | none => exact ⟨fun h => ⟨vs, zs, h1', g1', .inl (by rw [← h2'.length]; exact get?_none_le hx)⟩, fun w h => by simp [hx] at h⟩
  | some w0 =>
    cases hy : us[i]? with
    | none => exact ⟨fun h => ⟨vs, zs, h1', g1', .inr (by rw [← g2'.length]; exact get?_none_le hy)⟩, fun w h => by simp [hx, hy] at h⟩
    | some u0 =>
      refine ⟨fun h => by simp [hx, hy] at h, fun w h => ?_⟩
      have : w = .tup [w0, u0] := by simp [hx, hy] at h; exact h.symm
      subst this
      obtain ⟨v, q1, q2⟩ := h2'.get hx
      obtain ⟨z, k1, k2⟩ := g2'.get hy
      refine ⟨⟨vs, zs, v, z, h1', g1', q1, k1⟩, fun v' H2 hh => ?_⟩
      obtain ⟨T, x, y, rfl, hT, rfl, hy1, hy2⟩ := hh
      have t1 := hy1 vs h1'
      have t2 := hy2 zs g1'
      rw [q1] at t1; cases t1
      rw [k1] at t2; cases t2
      exact pair_fresh s hT q2 k2
end
section
variable {X : Cx} {XP : Wish} {tg : Expr} {pos : Pos}
def itSeq (w : W) (G : Cells) : Rs PIt := match w with
  | .ref n => (match rdL G n with | some _ => .ok (.lst n) G | none => .no)
  | .tup ws => .ok (.tup ws) G
  | _ => .no
def mSeq (m : ME) : MI := fun E G => (m E G).bind fun w G' => itSeq w G'
theorem pi_or {iter : Expr} {wi wi' : TI} (h : PI X tg iter wi) (h' : PI X tg iter wi') : PI X tg iter (fun σ H R => wi σ H R ∨ wi' σ H R) :=
  ⟨fun pins s σ H R I q => q.elim (h.run pins s σ H R I) (h'.run pins s σ H R I)⟩
theorem hi_seq {e : Expr} {m : ME} (h : HE X XP e m) : HI X XP tg e (mSeq m) := by
  obtain ⟨t, h1, h2⟩ := h.ex
  refine ⟨_, pi_or (pi_list h1) (pi_tup h1), fun ρ E G σ H R er sr q => ?_⟩
  unfold mSeq at q
  cases hm : m E G with
  | no => rw [hm] at q; exact q.elim
  | ex x G1 =>
    rw [hm] at q
    exact .inl (h2 ρ E G σ H _ er sr (by rw [hm]; exact q))
  | ok w G1 =>
    rw [hm] at q
    have q' : Out X.K XP (ItR X.K) σ ρ H (itSeq w G1) R := q
    unfold itSeq at q'
    split at q'
    · rename_i n
      split at q'
      · rename_i ws hr
        refine .inl (h2 ρ E G σ H _ er sr ?_)
        rw [hm]
        intro ρ1 H1 v e1 s1 r1
        cases r1 with
        | ref hn =>
          obtain ⟨vs, k1, k2⟩ := rdL_ok s1 hn hr
          exact ⟨_, rfl, ⟨vs, k1⟩, q' ρ1 H1 _ e1 s1 (itr_list hn)⟩
      · exact q'.elim
    · refine .inr (h2 ρ E G σ H _ er sr ?_)
      rw [hm]
      intro ρ1 H1 v e1 s1 r1
      cases r1 with
      | tup k1 k2 => exact ⟨_, rfl, ⟨_, .of k1⟩, q' ρ1 H1 _ e1 s1 (itr_tup k1 k2)⟩
    · exact q'.elim
def rngOk (i : Int) : Bool := decide (-(2 ^ 62) ≤ i) && decide (i < 2 ^ 62)
def mRng1 (m : MA) : MI := fun E G => (m E G).bind fun ws G' => match ws with
  | [.int j] => if rngOk j then .ok (.rng 0 j.toNat) G' else .no
  | _ => .no
theorem hi_range1 {a : Expr} {m : MA} {p : Pos} (hg : Gl X "range") (hm : X.mg "range" = none) (ha : HA X XP [a] m) (hs : starEach [a] X.env = [(false, eval a X.env)] := by rfl) : HI X XP tg (.Call (.Name "range" p) [a] [] pos) (mRng1 m) := by
  obtain ⟨t, h1, h2⟩ := ha.ex
  refine ⟨_, pi_range1 hg hm h1 hs, fun ρ E G σ H R er sr q => h2 ρ E G σ H _ er sr (q.bind fun ws G1 ρ1 H1 vs e1 s1 r1 k1 => ?_)⟩
  split at k1
  · split at k1
    · rename_i hj
      cases r1 with
      | cons r rr =>
        cases r; cases rr
        unfold rngOk at hj
        simp only [Bool.and_eq_true, decide_eq_true_eq] at hj
        exact ⟨_, rfl, hj.1, hj.2, k1.ok s1 itr_rng⟩
    · exact k1.elim
  · exact k1.elim
def mRng2 (m : MA) : MI := fun E G => (m E G).bind fun ws G' => match ws with
  | [.int i, .int j] => if rngOk i && rngOk j then .ok (.rng i (j - i).toNat) G' else .no
  | _ => .no
theorem hi_range2 {a b : Expr} {m : MA} {p : Pos} (hg : Gl X "range") (hm : X.mg "range" = none) (ha : HA X XP [a, b] m) (hs : starEach [a, b] X.env = [(false, eval a X.env), (false, eval b X.env)] := by rfl) (hs2 : starEach [b] X.env = [(false, eval b X.env)] := by rfl) : HI X XP tg (.Call (.Name "range" p) [a, b] [] pos) (mRng2 m) := by
  obtain ⟨t, h1, h2⟩ := ha.ex
  refine ⟨_, pi_range2 hg hm h1 hs hs2, fun ρ E G σ H R er sr q => h2 ρ E G σ H _ er sr (q.bind fun ws G1 ρ1 H1 vs e1 s1 r1 k1 => ?_)⟩
  split at k1
  · split at k1
    · rename_i hj
      cases r1 with
      | cons r rr =>
        cases rr with
        | cons r' rr =>
          cases r; cases r'; cases rr
          unfold rngOk at hj
          simp only [Bool.and_eq_true, decide_eq_true_eq] at hj
          exact ⟨_, _, rfl, ⟨hj.1.1, hj.1.2, hj.2.1, hj.2.2⟩, k1.ok s1 itr_rng⟩
    · exact k1.elim
  · exact k1.elim
def mEnum (m : MA) : MI := fun E G => (m E G).bind fun ws G' => match ws with
  | [.ref n] => (match rdL G' n with | some _ => .ok (.enL n) G' | none => .no)
  | [.tup us] => .ok (.enT us) G'
  | _ => .no
theorem hi_enum {e : Expr} {m : MA} {p tpos : Pos} {elts : List Expr} {kk : Nat} (hg : Gl X "enumerate") (hm : X.mg "enumerate" = none) (ha : HA X XP [e] m) (hs : starEach [e] X.env = [(false, eval e X.env)] := by rfl) : HI X XP (.Tuple elts kk tpos) (.Call (.Name "enumerate" p) [e] [] pos) (mEnum m) := by
  obtain ⟨t, h1, h2⟩ := ha.ex
  refine ⟨_, pi_enumA hg hm h1 hs, fun ρ E G σ H R er sr q => h2 ρ E G σ H _ er sr (q.bind fun ws G1 ρ1 H1 vs e1 s1 r1 k1 => ?_)⟩
  split at k1
  · rename_i n
    split at k1
    · rename_i us hr
      cases r1 with
      | cons r rr =>
        cases rr
        cases r with
        | ref hn =>
          obtain ⟨vs, q1, q2⟩ := rdL_ok s1 hn hr
          exact ⟨_, rfl, .inl ⟨vs, q1, k1.ok s1 (itr_enL hn)⟩⟩
    · exact k1.elim
  · cases r1 with
    | cons r rr =>
      cases rr
      cases r with
      | tup q1 q2 => exact ⟨_, rfl, .inr ⟨_, .of q1, k1.ok s1 (itr_enT q1 q2)⟩⟩
  · exact k1.elim
def mZip (m : MA) : MI := fun E G => (m E G).bind fun ws G' => match ws with
  | [.ref n, .ref k] => (match rdL G' n, rdL G' k with | some _, some _ => .ok (.zipL n k) G' | _, _ => .no)
  | [.tup xs, .tup ys] => .ok (.zipT xs ys) G'
  | _ => .no
theorem hi_zip {e e2 : Expr} {m : MA} {p tpos : Pos} {elts : List Expr} {kk : Nat} (hg : Gl X "zip") (hm : X.mg "zip" = none) (ha : HA X XP [e, e2] m)
    (hs : starEach [e, e2] X.env = (false, eval e X.env) :: starEach [e2] X.env := by rfl) (hpl : (backTo pos (starEach [e2] X.env)).any (·.1) = false := by rfl) : HI X XP (.Tuple elts kk tpos) (.Call (.Name "zip" p) [e, e2] [] pos) (mZip m) := by
  obtain ⟨t, h1, h2⟩ := ha.ex
  refine ⟨_, RZ.pi_zipA hg hm h1 hs hpl, fun ρ E G σ H R er sr q => h2 ρ E G σ H _ er sr (q.bind fun ws G1 ρ1 H1 vs e1 s1 r1 k1 => ?_)⟩
  split at k1
  · split at k1
    · rename_i xs ys hr hr2
      cases r1 with
      | cons r rr =>
        cases rr with
        | cons r' rr =>
          cases rr
          cases r with
          | ref hn =>
            cases r' with
            | ref hm2 =>
              obtain ⟨vs, q1, q2⟩ := rdL_ok s1 hn hr
              obtain ⟨us, g1, g2⟩ := rdL_ok s1 hm2 hr2
              exact ⟨_, _, vs, us, rfl, .inl ⟨q1, g1, k1.ok s1 (itr_zipL hn hm2)⟩⟩
    · exact k1.elim
  · cases r1 with
    | cons r rr =>
      cases rr with
      | cons r' rr =>
        cases rr
        cases r with
        | tup q1 q2 =>
          cases r' with
          | tup g1 g2 => exact ⟨_, _, _, _, rfl, .inr ⟨.of q1, .of g1, k1.ok s1 (itr_zipT q1 q2 g1 g2)⟩⟩
  · exact k1.elim
end
end PL
/- part PLg -/
set_option maxHeartbeats 4000000
namespace PL
open PySem PySem.Spec PyProof.Rows L2
section
variable {X : Cx} {XP : Wish} {pos : Pos}
/-! ### targets -/
abbrev MG := W → PEnv → Cells → Rs PEnv
/-- the slots at sl may have changed, no other -/
def GR (K : Fg) (sl : List Nat) (σ0 : St) : List Addr → Hp → PEnv → St → Prop := fun ρ H E σ => ER K ρ H E σ ∧ σ.length = σ0.length ∧ ∀ i, i ∉ sl → σ[i]? = σ0[i]?
structure HG (X : Cx) (XP : Wish) (e : Expr) (sl : List Nat) (m : MG) : Prop where
  ex : ∃ g, PG X e g ∧ ∀ ρ w E G v σ H Q, VR X.K ρ H w v → ER X.K ρ H E σ → SR X.K ρ G H → Out X.K XP (GR X.K sl σ) σ ρ H (m w E G) Q → g v σ H Q
abbrev MGs := List W → PEnv → Cells → Rs PEnv
structure HGs (X : Cx) (XP : Wish) (es : List Expr) (sl : List Nat) (m : MGs) : Prop where
  ex : ∃ g, PGs X es g ∧ ∀ ρ ws E G vs σ0 σ H Q, VRs X.K ρ H ws vs → ER X.K ρ H E σ → σ.length = σ0.length → (∀ i, i ∉ sl → σ[i]? = σ0[i]?) → SR X.K ρ G H → Out X.K XP (GR X.K sl σ0) σ0 ρ H (m ws E G) Q → g vs σ H Q
def gSet (i : Nat) : MG := fun w E G => .ok (E.set i (some w)) G
theorem set_other {σ : St} {i j : Nat} {v : Option V} (h : j ≠ i) : (σ.set i v)[j]? = σ[j]? := by rw [List.getElem?_set_ne (Ne.symm h)]
theorem hg_name {i : Nat} {x : Str} (hN : X.N.Nodup) (hi : X.N[i]? = some x) (hx : Loc X.env.scope x) (hf : X.fn x = true ∨ X.env.scope.names.lookup x = some .local := by first | exact .inl rfl | exact .inr rfl | assumption) : HG X XP (.Name x pos) [i] (gSet i) :=
  ⟨_, pg_name hN hi hx hf, fun ρ w E G v σ H Q r er sr q => q.ok sr ⟨er.set r i, List.length_set, fun j hj => set_other (by simpa using hj)⟩⟩
def gsNil : MGs := fun ws E G => match ws with | [] => .ok E G | _ => .no
def gsCons (i : Nat) (r : MGs) : MGs := fun ws E G => match ws with | w :: ws => r ws (E.set i (some w)) G | [] => .no
theorem hgs_nil {sl : List Nat} : HGs X XP [] sl gsNil := by
  refine ⟨_, pgs_nil, fun ρ ws E G vs σ0 σ H Q r er hln hk sr q => ?_⟩
  cases r with
  | nil => exact ⟨rfl, q.ok sr ⟨er, hln, hk⟩⟩
  | cons _ _ => exact q.elim
theorem hgs_cons {i : Nat} {x : Str} {p : Pos} {es : List Expr} {sl : List Nat} {m : MGs} (hN : X.N.Nodup) (hi : X.N[i]? = some x) (hx : Loc X.env.scope x) (hm : i ∈ sl) (hr : HGs X XP es sl m)
    (hf : X.fn x = true ∨ X.env.scope.names.lookup x = some .local := by first | exact .inl rfl | exact .inr rfl | assumption) : HGs X XP (.Name x p :: es) sl (gsCons i m) := by
  obtain ⟨g, h1, h2⟩ := hr.ex
  refine ⟨_, pgs_cons (pg_name hN hi hx hf) h1, fun ρ ws E G vs σ0 σ H Q r er hln hk sr q => ?_⟩
  cases r with
  | nil => exact q.elim
  | cons r1 r2 =>
    refine ⟨_, _, rfl, ?_⟩
    exact h2 ρ _ _ G _ σ0 _ H Q r2 (er.set r1 i) (by rw [List.length_set]; exact hln) (fun j hj => by rw [set_other (show j ≠ i from fun e => hj (by rw [e]; exact hm))]; exact hk j hj) sr q
def gTupW (n : Nat) (m : MGs) : MG := fun w E G => match w with
  | .tup ws => if ws.length = n then m ws E G else .no
  | _ => .no
theorem hg_tup {es : List Expr} {kk : Nat} {n : Nat} {sl : List Nat} {m : MGs} (hc : X.calm = true) (h : HGs X XP es sl m) (hn : (assignEach es X.env).length = n := by rfl) (hst : (assignEach es X.env).findIdx? (·.1) = none := by rfl) : HG X XP (.Tuple es kk pos) sl (gTupW n m) := by
  obtain ⟨g, h1, h2⟩ := h.ex
  refine ⟨_, pg_tup hc h1 hn hst, fun ρ w E G v σ H Q r er sr q => ?_⟩
  unfold gTupW at q
  split at q
  · cases r with
    | tup a1 a2 =>
      split at q
      · rename_i hn
        exact ⟨_, _, rfl, .of a1, by rw [← a2.length]; exact hn, h2 ρ _ E G _ σ σ H Q a2 er rfl (fun _ _ => rfl) sr q⟩
      · exact q.elim
  · exact q.elim

/-! ### stores by place and by key -/
def putOp (n : Nat) (k : W) (w : W) (G : Cells) : Option Cells := match G[n]? with
  | some (.lst ws) => (match k with | .int i => (match ixN ws.length i with | some j => some (G.set n (.lst (ws.set j w))) | none => none) | _ => none)
  | some (.dct kvs) => (match keyW k with | some k => if kvs.length < sizeLine then some (G.set n (.dct (putW kvs k w))) else none | none => none)
  | some (.tct kvs) => (match tkW k with | some k => if kvs.length < sizeLine then some (G.set n (.tct (putW kvs k w))) else none | none => none)
  | _ => none
theorem PSet.or' {t t' : TSet} (h : PSet X t) (h' : PSet X t') : PSet X (fun o i v H Q => t o i v H Q ∨ t' o i v H Q) := fun pins s σ H o i v ov iv u Q I ro ri rv q =>
  q.elim (h pins s σ H o i v ov iv u Q I ro ri rv) (h' pins s σ H o i v ov iv u Q I ro ri rv)
def gPut (mo mi : ME) : MG := fun w E G => (mo E G).bind fun o G1 => (mi E G1).bind fun k G2 => match o with
  | .ref n => (match putOp n k w G2 with | some G3 => .ok E G3 | none => .no)
  | _ => .no
theorem put_run {ρ : List Addr} {G G3 : Cells} {H : Hp} {n : Nat} {k w : W} {a : Addr} {kv v : V} {Q : Hp → Prop} (s : SR X.K ρ G H) (hn : ρ[n]? = some a) (rk : VR X.K ρ H k kv) (rw' : VR X.K ρ H w v) (e : putOp n k w G = some G3)
    (q : ∀ H', Ext X.K ρ H ρ H' → SR X.K ρ G3 H' → Q H') : rSetL (.ref a) kv v H Q ∨ rSetD (.ref a) kv v H Q := by
  unfold putOp at e
  split at e
  · rename_i ws hc
    split at e
    · rename_i i
      split at e
      · rename_i j hj
        cases e
        cases rk
        obtain ⟨vs, h1, h2⟩ := cell_lst s hn hc
        have ex : Ext X.K ρ H ρ (upd H a (.lst (vs.set j v))) := s.ext_write hc hn rfl
        exact .inl ⟨a, vs, i, j, rfl, rfl, h1, by rw [← h2.length]; exact hj, q _ ex (s.write hc hn rfl rfl ⟨_, upd_same, VRs.set (rw'.mono ex) j (h2.mono ex)⟩)⟩
      · cases e
    · cases e
  · rename_i kvs hc
    split at e
    · rename_i k0 hk
      split at e
      · rename_i hl
        cases e
        have := keyW_ok rk hk
        subst this
        obtain ⟨vs, h1, h2⟩ := cell_dct s hn hc
        have ex : Ext X.K ρ H ρ (upd H a (.dK (putK vs k0 v))) := s.ext_write hc hn rfl
        exact .inr ⟨a, _, rfl, .k h1 (by rw [← h2.length]; exact hl), q _ ex (s.write hc hn rfl rfl ⟨_, upd_same, KVR.put (h2.mono ex) (rw'.mono ex)⟩)⟩
      · cases e
    · cases e
  · rename_i kvs hc
    split at e
    · rename_i k0 hk
      split at e
      · rename_i hl
        cases e
        obtain ⟨b, rfl, hb⟩ := tkW_ok rk hk
        obtain ⟨vs, h1, h2⟩ := cell_tct s hn hc
        have ex : Ext X.K ρ H ρ (upd H a (.dT (putK vs k0 v))) := s.ext_write hc hn rfl
        exact .inr ⟨a, _, rfl, .t h1 hb (by rw [← h2.length]; exact hl), q _ ex (s.write hc hn rfl rfl ⟨_, upd_same, KVR.put (h2.mono ex) (rw'.mono ex)⟩)⟩
      · cases e
    · cases e
  · cases e
theorem hg_put {o i : Expr} {mo mi : ME} {p : Pos} (hu : X.A.units + 1 < cLine) (ho : HE X XP o mo) (hi : HE X XP i mi) (hpg : ∀ {to ti : TE} {t : TSet}, PE X o to → PE X i ti → PSet X t → PG X (.Subscript o i p) (gSub to ti t)) : HG X XP (.Subscript o i p) [] (gPut mo mi) := by
  obtain ⟨t1, a1, a2⟩ := ho.ex
  obtain ⟨t2, b1, b2⟩ := hi.ex
  refine ⟨_, hpg a1 b1 (PSet.or' set_list (set_dict hu)), fun ρ w E G v σ H Q r er sr q => ?_⟩
  refine a2 ρ E G σ H _ er sr (q.bind fun x G1 ρ1 H1 xv e1 s1 r1 k1 => ?_)
  refine b2 ρ1 E G1 σ H1 _ (er.mono e1) s1 (k1.bind fun y G2 ρ2 H2 yv e2 s2 r2 k2 => ?_)
  have r1' := r1.mono e2
  cases r1' with
  | @ref n a hn =>
    have k3 : Out X.K XP (GR X.K [] σ) σ ρ2 H2 (match putOp n y w G2 with | some G3 => Rs.ok E G3 | none => Rs.no) Q := k2
    cases hp : putOp n y w G2 with
    | some G3 =>
      rw [hp] at k3
      exact put_run s2 hn r2 (r.mono (e1.trans e2)) hp fun H' ex s3 => k3 ρ2 H' σ ex s3 ⟨er.mono ((e1.trans e2).trans ex), rfl, fun _ _ => rfl⟩
    | none => rw [hp] at k3; exact k3.elim
  | _ => exact k2.elim

/-! ### statements -/
def seqS (r : So) (k : PEnv → Cells → So) : So := match r with
  | .nx E G => k E G
  | r => r
def sNext : MS := fun E G => .nx E G
def sSeq (a b : MS) : MS := fun E G => seqS (a E G) b
theorem hb_nil : HB X XP [] sNext := ⟨_, pss_nil, fun ρ E G σ H D er sr q => q ρ H σ .refl sr er⟩
theorem hb_cons {st : Stmt} {rest : List Stmt} {a b : MS} (h1 : HS X XP st a) (h2 : HB X XP rest b) : HB X XP (st :: rest) (sSeq a b) := by
  obtain ⟨t, a1, a2⟩ := h1.ex
  obtain ⟨u, b1, b2⟩ := h2.ex
  refine ⟨_, pss_cons a1 b1, fun ρ E G σ H D er sr q => ?_⟩
  refine a2 ρ E G σ H _ er sr ?_
  unfold sSeq at q
  cases hr : a E G with
  | nx E1 G1 =>
    rw [hr] at q
    intro ρ1 H1 σ1 e1 s1 r1
    exact b2 ρ1 E1 G1 σ1 H1 D r1 s1 (OutS.mono q e1)
  | rt w G1 => rw [hr] at q; exact q
  | bk E1 G1 => rw [hr] at q; exact q
  | ct E1 G1 => rw [hr] at q; exact q
  | ex e E1 G1 => rw [hr] at q; exact q
  | no => rw [hr] at q; exact q
theorem hb_one {st : Stmt} {a : MS} (h1 : HS X XP st a) : HB X XP [st] a := by
  obtain ⟨t, a1, a2⟩ := h1.ex
  exact ⟨_, pss_one a1, a2⟩
theorem hs_pass : HS X XP (.Pass pos) sNext := ⟨_, ps_pass, fun ρ E G σ H D er sr q => q ρ H σ .refl sr er⟩
theorem hs_doc {x j pos'} : HS X XP (.Expr (.Constant (.str x) j pos) pos') sNext := ⟨_, ps_doc, fun ρ E G σ H D er sr q => q ρ H σ .refl sr er⟩
def sBreak : MS := fun E G => .bk E G
def sCont : MS := fun E G => .ct E G
theorem hs_break : HS X XP (.Break pos) sBreak := ⟨_, ps_break, fun ρ E G σ H D er sr q => q ρ H σ .refl sr er⟩
theorem hs_cont : HS X XP (.Continue pos) sCont := ⟨_, ps_continue, fun ρ E G σ H D er sr q => q ρ H σ .refl sr er⟩
/-- an expression's outcome within a statement -/
def liftS {α : Type} (r : Rs α) (E : PEnv) (k : α → Cells → So) : So := match r with
  | .ok a G => k a G
  | .ex e G => .ex e E G
  | .no => .no
theorem OutS.lift {α β : Type} {Rel : List Addr → Hp → α → β → Prop} {σ : St} {ρ : List Addr} {H : Hp} {r : Rs α} {E : PEnv} {k : α → Cells → So} {D : Ends} {Q : β → Hp → Prop} (er : ER X.K ρ H E σ)
    (h : OutS X.K XP ρ H (liftS r E k) D) (f : ∀ w G ρ1 H1 v, Ext X.K ρ H ρ1 H1 → SR X.K ρ1 G H1 → Rel ρ1 H1 w v → OutS X.K XP ρ1 H1 (k w G) D → Q v H1) : Out X.K XP Rel σ ρ H r Q := by
  cases r with
  | ok w G => exact fun ρ1 H1 v e s q => f w G ρ1 H1 v e s q (OutS.mono h e)
  | ex x G => exact fun ρ1 H1 e s => h ρ1 H1 σ e s (er.mono e)
  | no => exact h
def sExpr (m : ME) : MS := fun E G => liftS (m E G) E fun _ G' => .nx E G'
theorem hs_expr {e : Expr} {m : ME} (h : HE X XP e m) (hs : swapsWith e none pos.line X.env = pure false := by rfl) : HS X XP (.Expr e pos) (sExpr m) := by
  obtain ⟨t, a1, a2⟩ := h.ex
  exact ⟨_, ps_expr a1 hs, fun ρ E G σ H D er sr q => a2 ρ E G σ H _ er sr (OutS.lift er q fun w G1 ρ1 H1 v e1 s1 r1 k1 => k1 ρ1 H1 σ .refl s1 (er.mono e1))⟩
def sRet (m : ME) : MS := fun E G => liftS (m E G) E fun w G' => .rt w G'
theorem hs_ret {e : Expr} {m : ME} (h : HE X XP e m) : HS X XP (.Return (some e) pos) (sRet m) := by
  obtain ⟨t, a1, a2⟩ := h.ex
  exact ⟨_, ps_ret a1, fun ρ E G σ H D er sr q => a2 ρ E G σ H _ er sr (OutS.lift er q fun w G1 ρ1 H1 v e1 s1 r1 k1 => k1 ρ1 H1 v .refl s1 r1)⟩
def sRetN : MS := fun _ G => .rt .non G
theorem hs_retN : HS X XP (.Return none pos) sRetN := ⟨_, ps_retN, fun ρ E G σ H D er sr q => q ρ H _ .refl sr .non⟩
def sIf (c : MT) (a b : MS) : MS := fun E G => liftS (c E G) E fun k G' => if k = true then a E G' else b E G'
theorem hs_if {c : Expr} {as bs : List Stmt} {mc : MT} {a b : MS} (hc : HT X XP c mc) (ha : HB X XP as a) (hb : HB X XP bs b) : HS X XP (.If c as bs pos) (sIf mc a b) := by
  obtain ⟨tc, c1, c2⟩ := hc.ex
  obtain ⟨ta, a1, a2⟩ := ha.ex
  obtain ⟨tb, b1, b2⟩ := hb.ex
  refine ⟨_, ps_if c1 a1 b1, fun ρ E G σ H D er sr q => c2 ρ E G σ H _ er sr (OutS.lift er q fun w G1 ρ1 H1 v e1 s1 r1 k1 => ?_)⟩
  cases r1
  cases w with
  | true => rw [if_pos rfl]; exact a2 ρ1 E G1 σ H1 D (er.mono e1) s1 (by simpa using k1)
  | false => rw [if_neg Bool.false_ne_true]; exact b2 ρ1 E G1 σ H1 D (er.mono e1) s1 (by simpa using k1)
def sAsg (m : ME) (g : MG) : MS := fun E G => liftS (m E G) E fun w G1 => liftS (g w E G1) E fun E' G2 => .nx E' G2
theorem asg_run {te : TE} {tg : TG} {m : ME} {g : MG} {sl : List Nat}
    (a2 : ∀ ρ E G σ H Q, ER X.K ρ H E σ → SR X.K ρ G H → Out X.K XP (VR X.K) σ ρ H (m E G) Q → te σ H Q)
    (b2 : ∀ ρ w E G v σ H Q, VR X.K ρ H w v → ER X.K ρ H E σ → SR X.K ρ G H → Out X.K XP (GR X.K sl σ) σ ρ H (g w E G) Q → tg v σ H Q) :
    ∀ ρ E G σ H D, ER X.K ρ H E σ → SR X.K ρ G H → OutS X.K XP ρ H (sAsg m g E G) D → tAsg te tg D σ H := fun ρ E G σ H D er sr q =>
  a2 ρ E G σ H _ er sr (OutS.lift er q fun w G1 ρ1 H1 v e1 s1 r1 k1 =>
    b2 ρ1 w E G1 v σ H1 _ r1 (er.mono e1) s1 (OutS.lift (er.mono e1) k1 fun E' G2 ρ2 H2 σ2 e2 s2 r2 k2 => k2 ρ2 H2 σ2 .refl s2 r2.1))
theorem hs_asg {tg e : Expr} {m : ME} {g : MG} {sl : List Nat} (he : HE X XP e m) (hg : HG X XP tg sl g) (hs : swapsWithSole [tg] e pos.line X.env = pure false := by rfl) (hw : swappedStores [tg] e X.env = pure none := by rfl)
    (h1 : (assignEach [tg] X.env).map (·.2) = [assign tg X.env] := by rfl) : HS X XP (.Assign [tg] e pos) (sAsg m g) := by
  obtain ⟨te, a1, a2⟩ := he.ex
  obtain ⟨g, b1, b2⟩ := hg.ex
  exact ⟨_, ps_asg a1 b1 hs hw h1, asg_run a2 b2⟩
theorem hs_set {i : Nat} {x : Str} {e : Expr} {m : ME} {pos' : Pos} (hN : X.N.Nodup) (hi : X.N[i]? = some x) (hx : Loc X.env.scope x) (he : HE X XP e m) (hs : swapsWith e (some (.Name x pos')) pos.line X.env = pure false := by rfl)
    (hf : X.fn x = true ∨ X.env.scope.names.lookup x = some .local := by first | exact .inl rfl | exact .inr rfl | assumption) : HS X XP (.Assign [.Name x pos'] e pos) (sAsg m (gSet i)) := by
  obtain ⟨te, a1, a2⟩ := he.ex
  exact ⟨_, ps_set hN hi hx a1 hs hf, asg_run (sl := [i]) a2 fun ρ w E G v σ H Q r er sr q => q.ok sr ⟨er.set r i, List.length_set, fun j hj => set_other (by simpa using hj)⟩⟩

/-! ### for -/
def forL (pit : PIt) (g : MG) (b : MS) : Nat → Nat → PEnv → Cells → So
  | fuel, i, E, G => match pit.at G i with
    | none => .no
    | some none => .nx E G
    | some (some w) => match fuel with
      | 0 => .no
      | k + 1 => liftS (g w E G) E fun E1 G1 => match b E1 G1 with
        | .nx E2 G2 => forL pit g b k (i + 1) E2 G2
        | .ct E2 G2 => forL pit g b k (i + 1) E2 G2
        | .bk E2 G2 => .nx E2 G2
        | r => r
def sFor (mi : MI) (g : MG) (b : MS) : MS := fun E G => liftS (mi E G) E fun pit G1 => forL pit g b (pit.len G1) 0 E G1
theorem hs_for {tg iter : Expr} {body : List Stmt} {mi : MI} {g : MG} {b : MS} {sl : List Nat} (hp : PassesOwn (model X.prog X.w) X.A X.env X.xe) (hc : X.calm = true) (hi : HI X XP tg iter mi) (hg : HG X XP tg sl g) (hb : HB X XP body b)
    (hs : ∀ x, foldedSetIterable iter X.env x = pure x := by intro _; rfl) : HS X XP (.For tg iter body [] pos) (sFor mi g b) := by
  obtain ⟨wi, i1, i2⟩ := hi.ex
  obtain ⟨tg', g1, g2⟩ := hg.ex
  obtain ⟨tb, b1, b2⟩ := hb.ex
  refine ⟨_, ps_for hp hc i1 g1 b1 hs, fun ρ E G σ H D er sr q => i2 ρ E G σ H _ er sr (OutS.lift er q fun pit G1 ρ1 H1 J e1 s1 r1 k1 => ?_)⟩
  refine ⟨fun i m σ' H' => ∃ ρ' E' G', Ext X.K ρ1 H1 ρ' H' ∧ ER X.K ρ' H' E' σ' ∧ SR X.K ρ' G' H' ∧ OutS X.K XP ρ' H' (forL pit g b m i E' G') D, ⟨_, ρ1, E, G1, .refl, er.mono e1, s1, k1⟩, ?_⟩
  rintro i m σ' H' ⟨ρ', E', G', ex, er', s', o⟩
  obtain ⟨hstop, hgo⟩ := r1 ρ' G' H' ex s' i
  unfold forL at o
  split at o
  · exact o.elim
  · rename_i ha
    exact .inl ⟨hstop ha, o ρ' H' σ' .refl s' er'⟩
  · rename_i w ha
    obtain ⟨go, hy⟩ := hgo w ha
    split at o
    · exact o.elim
    · rename_i k
      refine .inr ⟨go, fun σ2 H2 => ∃ ρ2 E2 G2, Ext X.K ρ1 H1 ρ2 H2 ∧ ER X.K ρ2 H2 E2 σ2 ∧ SR X.K ρ2 G2 H2 ∧ OutS X.K XP ρ2 H2 (forL pit g b k (i + 1) E2 G2) D, fun σ2 H2 h => ⟨k, Nat.lt_succ_self _, h⟩, fun x H2 y => ?_⟩
      obtain ⟨y1, y2, y3⟩ := hy x H2 y
      refine g2 ρ' w E' G' x σ' H2 _ y3 (er'.mono y1) y2 (OutS.lift (er'.mono y1) (OutS.mono o y1) fun E3 G3 ρ3 H3 σ3 e3 s3 r3 k3 => ?_)
      refine b2 ρ3 E3 G3 σ3 H3 _ r3.1 s3 ?_
      have ext := ex.trans (y1.trans e3)
      cases hr : b E3 G3 with
      | nx E4 G4 => rw [hr] at k3; exact fun ρ4 H4 σ4 e4 s4 r4 => ⟨ρ4, E4, G4, ext.trans e4, r4, s4, OutS.mono k3 e4⟩
      | ct E4 G4 => rw [hr] at k3; exact fun ρ4 H4 σ4 e4 s4 r4 => ⟨ρ4, E4, G4, ext.trans e4, r4, s4, OutS.mono k3 e4⟩
      | bk E4 G4 => rw [hr] at k3; exact k3
      | rt w4 G4 => rw [hr] at k3; exact k3
      | ex x4 E4 G4 => rw [hr] at k3; exact k3
      | no => rw [hr] at k3; exact k3
end
end PL
/- part PLh -/
set_option maxHeartbeats 4000000
namespace PL
open PySem PySem.Spec PyProof.Rows L2
/-! ### one reading for all contexts -/
section
variable {X : Cx} {XP : Wish} {pos : Pos}
def rdE (K : Fg) (XP : Wish) (m : ME) : TE := fun σ H Q => ∃ ρ E G, ER K ρ H E σ ∧ SR K ρ G H ∧ Out K XP (VR K) σ ρ H (m E G) Q
def rdT (K : Fg) (XP : Wish) (m : MT) : TT := fun σ H Q => ∃ ρ E G, ER K ρ H E σ ∧ SR K ρ G H ∧ Out K XP BR σ ρ H (m E G) Q
def rdG (K : Fg) (XP : Wish) (sl : List Nat) (m : MG) : TG := fun v σ H Q => ∃ ρ w E G, VR K ρ H w v ∧ ER K ρ H E σ ∧ SR K ρ G H ∧ Out K XP (GR K sl σ) σ ρ H (m w E G) Q
theorem HE.rd {e : Expr} {m : ME} (h : HE X XP e m) : PE X e (rdE X.K XP m) := by
  obtain ⟨t, h1, h2⟩ := h.ex
  exact ⟨fun pins s σ H Q I ⟨ρ, E, G, er, sr, q⟩ => h1.run pins s σ H Q I (h2 ρ E G σ H Q er sr q)⟩
theorem HT.rd {e : Expr} {m : MT} (h : HT X XP e m) : PT X e (rdT X.K XP m) := by
  obtain ⟨t, h1, h2⟩ := h.ex
  exact ⟨fun pins s σ H Q I ⟨ρ, E, G, er, sr, q⟩ => h1.run pins s σ H Q I (h2 ρ E G σ H Q er sr q)⟩
theorem HG.rd {e : Expr} {sl : List Nat} {m : MG} (h : HG X XP e sl m) : PG X e (rdG X.K XP sl m) := by
  obtain ⟨t, h1, h2⟩ := h.ex
  exact ⟨fun pins s σ H v u Q I r ⟨ρ, w, E, G, vr, er, sr, q⟩ => h1.run pins s σ H v u Q I r (h2 ρ w E G v σ H Q vr er sr q)⟩

/-! ### list comprehensions -/
def wipeE (E : PEnv) : List Nat → PEnv
  | [] => E
  | v :: vs => (wipeE E vs).set v none
theorem ER.wipe {K : Fg} {ρ : List Addr} {H : Hp} {E : PEnv} {σ : St} (h : ER K ρ H E σ) : ∀ vs : List Nat, ER K ρ H (wipeE E vs) (L2.wipe σ vs)
  | [] => h
  | v :: vs => ER.unset v Option.none (ER.wipe h vs)
theorem wipe_at {σ : St} {j : Nat} : ∀ {vs : List Nat}, (L2.wipe σ vs)[j]? = if j ∈ vs then (if j < σ.length then some none else none) else σ[j]?
  | [] => by simp [L2.wipe]
  | v :: vs => by
    unfold L2.wipe
    by_cases e : v = j
    · subst e
      rw [List.getElem?_set]
      simp [L2.wipe_length]
    · rw [List.getElem?_set_ne e, wipe_at]
      have : (j ∈ v :: vs) ↔ j ∈ vs := by simp [List.mem_cons, Ne.symm e]
      simp only [this]
theorem wipe_again {σ σ2 : St} {vs sl : List Nat} (hl : σ2.length = σ.length) (hk : ∀ i, i ∉ sl → σ2[i]? = (L2.wipe σ vs)[i]?) (hs : ∀ i ∈ sl, i ∈ vs) : L2.wipe σ2 vs = L2.wipe σ vs := by
  refine List.ext_getElem? fun j => ?_
  rw [wipe_at, wipe_at]
  by_cases hj : j ∈ vs
  · rw [if_pos hj, if_pos hj, hl]
  · rw [if_neg hj, if_neg hj, hk j fun h => hj (hs j h), wipe_at, if_neg hj]
abbrev noX : Wish := fun _ _ _ _ => False
structure HTs (X : Cx) (XP : Wish) (ifs : List Expr) (m : MT) : Prop where
  ex : ∃ t, PTs X ifs t ∧ ∀ ρ E G σ H Q, ER X.K ρ H E σ → SR X.K ρ G H → Out X.K XP BR σ ρ H (m E G) Q → t σ H Q
def mYes : MT := fun _ G => .ok true G
theorem hts_nil : HTs X XP [] mYes := ⟨_, pts_nil, fun ρ E G σ H Q er sr q => q.ok sr rfl⟩
theorem hts_one {e : Expr} {m : MT} (h : HT X XP e m) : HTs X XP [e] m := by
  obtain ⟨t, h1, h2⟩ := h.ex
  exact ⟨t, pts_one h1, h2⟩
theorem HTs.rd {e : List Expr} {m : MT} (h : HTs X XP e m) : PTs X e (rdT X.K XP m) := by
  obtain ⟨t, h1, h2⟩ := h.ex
  exact ⟨fun pins s σ H Q I ⟨ρ, E, G, er, sr, q⟩ => h1.run pins s σ H Q I (h2 ρ E G σ H Q er sr q)⟩
/-- the list at the cell n is filled -/
def lcL (pit : PIt) (g : MG) (t : MT) (m : ME) (n : Nat) (E : PEnv) : Nat → Nat → Cells → Option Cells
  | fuel, i, G => match pit.at G i with
    | none => none
    | some none => some G
    | some (some w) => match fuel with
      | 0 => none
      | k + 1 => match g w E G with
        | .ok E1 G1 => (match t E1 G1 with
          | .ok true G2 => (match m E1 G2 with
            | .ok y G3 => (match G3[n]? with
              | some (.lst acc) => if acc.length < sizeLine then lcL pit g t m n E k (i + 1) (G3.set n (.lst (acc ++ [y]))) else none
              | _ => none)
            | _ => none)
          | .ok false G2 => lcL pit g t m n E k (i + 1) G2
          | _ => none)
        | _ => none
def mLc (mi : MI) (g : MG) (t : MT) (m : ME) (vs : List Nat) : ME := fun E G => (mi E G).bind fun pit G1 =>
  match lcL pit g t m G1.length (wipeE E vs) (pit.len G1) 0 (G1 ++ [.lst []]) with
  | some G2 => .ok (.ref G1.length) G2
  | none => .no
theorem lc_runA (A : List Addr → PEnv → Cells → St → Hp → Prop) {wi : TI} {mi : MI} {g : MG} {t : MT} {m : ME} {vs sl : List Nat} (hsl : ∀ i ∈ sl, i ∈ vs)
    (i2 : ∀ ρ E G σ H R, A ρ E G σ H → ER X.K ρ H E σ → SR X.K ρ G H → Out X.K XP (ItR X.K) σ ρ H (mi E G) R → wi σ H R) :
    ∀ ρ E G σ H Q, A ρ E G σ H → ER X.K ρ H E σ → SR X.K ρ G H → Out X.K XP (VR X.K) σ ρ H (mLc mi g t m vs E G) Q → tLc wi (rdG X.K noX sl g) (rdT X.K noX t) (rdE X.K noX m) vs σ H Q := by
  intro ρ E G σ H Q ha0 er sr q
  refine i2 ρ E G σ H _ ha0 er sr (q.bind fun pit G1 ρ1 H1 J e1 s1 r1 k1 => ?_)
  intro D hD
  have hcell : CR X.K (ρ1 ++ [D]) (upd H1 D (.lst [])) (.lst []) D := ⟨[], upd_same, .nil⟩
  have sA := s1.alloc hD hcell
  have eA : Ext X.K ρ1 H1 (ρ1 ++ [D]) (upd H1 D (.lst [])) := ext_alloc hD
  have hn : (ρ1 ++ [D])[G1.length]? = some D := by rw [← s1.len]; exact last_get _ _
  refine ⟨fun i k H' => ∃ ρ' G', Ext X.K (ρ1 ++ [D]) (upd H1 D (.lst [])) ρ' H' ∧ SR X.K ρ' G' H' ∧ ∃ G2, lcL pit g t m G1.length (wipeE E vs) k i G' = some G2 ∧ Out X.K XP (VR X.K) σ ρ' H' (.ok (.ref G1.length) G2) Q, ?_, ?_⟩
  · cases hr : lcL pit g t m G1.length (wipeE E vs) (pit.len G1) 0 (G1 ++ [.lst []]) with
    | none => rw [hr] at k1; exact k1.elim
    | some G2 => rw [hr] at k1; exact ⟨_, ρ1 ++ [D], G1 ++ [.lst []], .refl, sA, G2, hr, Out.mono k1 eA⟩
  · rintro i k H' ⟨ρ', G', ex, s', G2, hl, o⟩
    obtain ⟨hstop, hgo⟩ := r1 ρ' G' H' (eA.trans ex) s' i
    have hn' := ex.rho _ _ hn
    unfold lcL at hl
    split at hl
    · cases hl
    · rename_i ha
      cases hl
      exact .inl ⟨hstop ha, o.ok s' (.ref hn')⟩
    · rename_i w ha
      obtain ⟨go, hy⟩ := hgo w ha
      split at hl
      · cases hl
      · rename_i k0
        refine .inr ⟨go, fun H2 => ∃ ρ2 G3, Ext X.K (ρ1 ++ [D]) (upd H1 D (.lst [])) ρ2 H2 ∧ SR X.K ρ2 G3 H2 ∧ ∃ G2, lcL pit g t m G1.length (wipeE E vs) k0 (i + 1) G3 = some G2 ∧ Out X.K XP (VR X.K) σ ρ2 H2 (.ok (.ref G1.length) G2) Q, fun H2 h => ⟨k0, Nat.lt_succ_self _, h⟩, fun x H2 y => ?_⟩
        obtain ⟨y1, y2, y3⟩ := hy x H2 y
        have erw : ER X.K ρ' H2 (wipeE E vs) (L2.wipe σ vs) := ((er.mono (e1.trans (eA.trans (ex.trans y1)))).wipe vs)
        refine ⟨ρ', w, wipeE E vs, G', y3, erw, y2, ?_⟩
        split at hl
        · rename_i E1 G3 hg
          rw [hg]
          intro ρ3 H3 σ3 e3 s3 r3
          refine ⟨wipe_again ?_ r3.2.2 hsl, ρ3, E1, G3, r3.1, s3, ?_⟩
          · rw [r3.2.1, L2.wipe_length]
          · split at hl
            · rename_i G4 ht
              rw [ht]
              intro ρ4 H4 b e4 s4 hb
              cases hb
              rw [if_pos rfl]
              refine ⟨ρ4, E1, G4, r3.1.mono e4, s4, ?_⟩
              split at hl
              · rename_i yw G5 hm
                rw [hm]
                intro ρ5 H5 v e5 s5 r5
                have ext5 : Ext X.K ρ' H' ρ5 H5 := y1.trans (e3.trans (e4.trans e5))
                have hn5 := ext5.rho _ _ hn'
                split at hl
                · rename_i acc hc
                  split at hl
                  · rename_i hz
                    obtain ⟨us, q1, q2⟩ := cell_lst s5 hn5 hc
                    have exw : Ext X.K ρ5 H5 ρ5 (upd H5 D (.lst (us ++ [v]))) := s5.ext_write hc hn5 rfl
                    refine ⟨us, q1, by rw [← q2.length]; exact hz, ρ5, _, (ex.trans ext5).trans exw, s5.write (c' := .lst (acc ++ [yw])) hc hn5 rfl rfl ⟨us ++ [v], upd_same, (q2.mono exw).append (.cons (r5.mono exw) .nil)⟩, G2, hl, Out.mono o (ext5.trans exw)⟩
                  · cases hl
                · cases hl
              · cases hl
            · rename_i G4 ht
              rw [ht]
              intro ρ4 H4 b e4 s4 hb
              cases hb
              rw [if_neg Bool.false_ne_true]
              have ext4 : Ext X.K ρ' H' ρ4 H4 := y1.trans (e3.trans e4)
              exact ⟨ρ4, G4, ex.trans ext4, s4, G2, hl, Out.mono o ext4⟩
            · cases hl
        · cases hl
theorem lc_run {wi : TI} {mi : MI} {g : MG} {t : MT} {m : ME} {vs sl : List Nat} (hsl : ∀ i ∈ sl, i ∈ vs)
    (i2 : ∀ ρ E G σ H R, ER X.K ρ H E σ → SR X.K ρ G H → Out X.K XP (ItR X.K) σ ρ H (mi E G) R → wi σ H R) :
    ∀ ρ E G σ H Q, ER X.K ρ H E σ → SR X.K ρ G H → Out X.K XP (VR X.K) σ ρ H (mLc mi g t m vs E G) Q → tLc wi (rdG X.K noX sl g) (rdT X.K noX t) (rdE X.K noX m) vs σ H Q :=
  fun ρ E G σ H Q => lc_runA (fun _ _ _ _ _ => True) hsl (fun ρ E G σ H R _ => i2 ρ E G σ H R) ρ E G σ H Q trivial
end
end PL
/- part PLi -/
set_option maxHeartbeats 4000000
namespace PL
open PySem PySem.Spec PyProof.Rows L2
/-! ### contexts -/
structure RoomG (k : Nat) (A : Around) : Prop where
  room : Room k A
  grd : A.guards = some []
theorem RoomG.mono {j k : Nat} {A : Around} (r : RoomG k A) (h : j ≤ k) : RoomG j A := ⟨r.room.mono h, r.grd⟩
/-- how an exception lies -/
def xr (mg : Str → Option Value) (K : Fg) (e : Exn) (ρ : List Addr) (H : Hp) (cls : Value) (d : Option Addr) : Prop :=
  mg e.cls = some cls ∧ match e.arg with
    | none => True
    | some (f, w) => ∃ dd v, d = some dd ∧ H dd = some (.xd [(f, v)]) ∧ VR K ρ H w v
/-- the table of modules stands in the base -/
def SysD (h : Heap) : Prop := ∃ o es n, h.get? sysModules = some o ∧ o.data = .dict es n
structure GC (X : Cx) (XP : Wish) (k : Nat) : Prop where
  sys : SysD X.base
  room : RoomG k X.A
  calm : X.calm = true
  nd : X.N.Nodup
  po : PassesOwn (model X.prog X.w) X.A X.env X.xe
  tk : ∃ W : WX, Takes X W ∧ ∀ e σ ρ H cls d, XP e σ ρ H → xr X.mg X.K e ρ H cls d → W cls d σ H
section
variable {X : Cx} {XP : Wish} {k : Nat}
theorem GC.hu (c : GC X XP k) : X.A.units + 1 < cLine := by have := c.room.room.units; omega
theorem GC.blk (c : GC X XP k) (s : Shared) (H : Hp) (scope : Scope) (cenv : Env) (fp : List Addr) : GC (X.blk s H scope cenv fp) noX k :=
  ⟨c.sys, c.room, c.calm, c.nd, PassesOwn.never, ⟨fun _ _ _ _ => False, takes0, fun _ _ _ _ _ _ h _ => h⟩⟩
end

/-! ### what a def is worth -/
abbrev PF := List W → Cells → Rs W
def OutF (K : Fg) (mg : Str → Option Value) (ρ : List Addr) (H : Hp) (r : Rs W) (Q : VK) (E : XK) : Prop :=
  match r with
  | .ok w G => ∀ ρ' H' v, Ext K ρ H ρ' H' → SR K ρ' G H' → VR K ρ' H' w v → Q v H'
  | .ex e G => ∀ ρ' H' cls d, Ext K ρ H ρ' H' → SR K ρ' G H' → xr mg K e ρ' H' cls d → E cls d H'
  | .no => False
def spP (K : Fg) (mg : Str → Option Value) (F : PF) : Sp := fun vs H Q E => ∃ ρ G ws, VRs K ρ H ws vs ∧ SR K ρ G H ∧ OutF K mg ρ H (F ws G) Q E
structure FnG (P : Program) (w : World) (K : Fg) (mg : Str → Option Value) (base : Heap) (k : Nat) (f : Addr) (fd : FuncData) (ps : List Str) (F : PF) : Prop where
  len : ∀ ws G, ws.length ≠ ps.length → F ws G = .no
  run : ∀ (A : Around) (outer : List Env) (s : Shared) (H : Hp) (args : Args) (us : List Value) (vs : List V) (Q : VK) (E : XK), RoomG k A → Env0 P w K mg base A outer s H → BindsTo s fd args (ps.zip us) → Vals vs us → spP K mg F vs H Q E →
    codeAny (model P w) A (.call (.ref f) args) (L2.CR (L2.CX P w) outer P w H s Q E) s
theorem FnG.mono {P : Program} {w : World} {K : Fg} {mg : Str → Option Value} {base : Heap} {j k : Nat} {f : Addr} {fd : FuncData} {ps : List Str} {F : PF} (h : FnG P w K mg base j f fd ps F) (l : j ≤ k) : FnG P w K mg base k f fd ps F :=
  ⟨h.len, fun A outer s H args us vs Q E hr => h.run A outer s H args us vs Q E (hr.mono l)⟩
theorem FnG.lenV {P : Program} {w : World} {K : Fg} {mg : Str → Option Value} {base : Heap} {k : Nat} {f : Addr} {fd : FuncData} {ps : List Str} {F : PF} (h : FnG P w K mg base k f fd ps F) {vs : List V} {H : Hp} {Q : VK} {E : XK} (s : spP K mg F vs H Q E) : vs.length = ps.length := by
  obtain ⟨ρ, G, ws, r, _, o⟩ := s
  rw [← r.length]
  apply Decidable.byContradiction
  intro hne
  rw [h.len ws G hne] at o
  exact o
/-- the defaults dws are put in behind -/
theorem FnG.runC {X : Cx} {XP : Wish} {k : Nat} {f : Addr} {fd : FuncData} {ps : List Str} {F : PF} (h : FnG X.prog X.w X.K X.mg X.base k f fd ps F) (c : GC X XP k) {pins : List (Addr × Obj)} {σ : St} {s : Shared} {ρ : List Addr} {G : Cells} {H : Hp} {Q : VK}
    {args : Args} {us : List Value} {vs : List V} {ws : List W} (I : Inv X pins σ H s) (hb : us.length = ps.length → BindsTo s fd args (ps.zip us)) (r : Vals vs us) (rw' : VRs X.K ρ H ws vs) (sr : SR X.K ρ G H) (o : Out X.K XP (VR X.K) σ ρ H (F ws G) Q) :
    wpAny (model X.prog X.w) X.A (call (.ref f) args.pos args.kw) (EP X pins σ Q) X.xe s := by
  obtain ⟨W, tk, lk⟩ := c.tk
  have sp : spP X.K X.mg F vs H Q (fun cls d H' => W cls d σ H') := by
    refine ⟨ρ, G, ws, rw', sr, ?_⟩
    cases hr : F ws G with
    | ok w' G' => rw [hr] at o; exact o
    | ex e G' => rw [hr] at o; exact fun ρ' H' cls d e1 s1 x1 => lk e σ ρ' H' cls d (o ρ' H' e1 s1) x1
    | no => rw [hr] at o; exact o
  have hl : us.length = ps.length := by rw [← r.length]; exact h.lenV sp
  refine wpAny_call (codeAny_mono (h.run X.A X.stack s H args us vs Q _ c.room I.env0 (hb hl) r sp) fun res s' hq => ?_)
  cases res with
  | error e => exact passAt tk σ pins H s e s' I hq
  | ok fl =>
    cases fl with
    | ret u => exact I.after hq
    | next => exact hq.elim
    | brk => exact hq.elim
    | cont => exact hq.elim

/-! ### calls of defs -/
section
variable {X : Cx} {XP : Wish} {k : Nat} {f : Addr} {fd : FuncData} {ps : List Str} {F : PF} {x : Str} {p pos : Pos}
def mDef (F : PF) (m : MA) : ME := fun E G => (m E G).bind fun ws G' => F ws G'
/-- f(e, ..), all by place; dws the defaults that fill up -/
theorem he_call {e : Expr} {es : List Expr} {m : MA} (h : FnG X.prog X.w X.K X.mg X.base k f fd ps F) (c : GC X XP k) (hg : Gl X x) (hm : X.mg x = some (.ref f)) (hk : PySem.W.keepIn X.K (.ref f) = true) (hb : Binds X.K fd ps []) (ha : HA X XP (e :: es) m)
    (hdb : (x == ("__debug__" : Str)) = false := by decide) (he : starEach (e :: es) X.env = (false, eval e X.env) :: starEach es X.env := by rfl) (hpl : (backTo pos (starEach es X.env)).any (·.1) = false := by rfl) : HE X XP (.Call (.Name x p) (e :: es) [] pos) (mDef F m) := by
  obtain ⟨t, a1, a2⟩ := ha.ex
  refine ⟨fun σ H Q => t σ H fun vs H1 => ∃ ρ G ws, VRs X.K ρ H1 ws vs ∧ SR X.K ρ G H1 ∧ Out X.K XP (VR X.K) σ ρ H1 (F ws G) Q, ⟨fun pins s σ H Q I q => ?_⟩, fun ρ E G σ H Q er sr q => a2 ρ E G σ H _ er sr (q.bind fun ws G1 ρ1 H1 vs e1 s1 q1 k1 => ⟨ρ1, G1, ws, q1, s1, k1⟩)⟩
  refine wpAny_Call_Name_kw (ld_glob I hg hm (PySem.W.callWith_K (h₀ := X.base) I.ok.mod.kin hk (thn (a1.run pos pins s σ H _ I q) fun us s1 ⟨vs, H1, I1, r, ρ, G, ws, q1, q2, q3⟩ => ⟨I1.kIn, ?_⟩) he hpl) hdb)
  exact h.runC c (args := ⟨us, []⟩) I1 (fun hl => by have := hb s1 us I1.kIn (by rw [List.append_nil]; exact hl); rwa [List.append_nil] at this) r q1 q2 q3
theorem he_call0 (h : FnG X.prog X.w X.K X.mg X.base k f fd ps F) (c : GC X XP k) (hg : Gl X x) (hm : X.mg x = some (.ref f)) (hk : PySem.W.keepIn X.K (.ref f) = true) (hb : Binds X.K fd ps [])
    (hdb : (x == ("__debug__" : Str)) = false := by decide) : HE X XP (.Call (.Name x p) [] [] pos) (mDef F mNil) := by
  refine ⟨fun σ H Q => ∃ ρ G, SR X.K ρ G H ∧ Out X.K XP (VR X.K) σ ρ H (F [] G) Q, ⟨fun pins s σ H Q I q => ?_⟩, fun ρ E G σ H Q er sr q => ⟨ρ, G, sr, q⟩⟩
  obtain ⟨ρ, G, q2, q3⟩ := q
  refine wpAny_Call_Name_kw (ld_glob I hg hm (PySem.W.callWith_K0 I.kIn hk ?_) hdb)
  exact h.runC c (args := ⟨[], []⟩) I (fun hl => by have := hb s [] I.kIn (by rw [List.append_nil]; exact hl); rwa [List.append_nil] at this) .nil .nil q2 q3
/-- keywords' values, from the left -/
structure HK (X : Cx) (XP : Wish) (kws : List Keyword) (m : MA) : Prop where
  ex : ∃ t, PK X kws t ∧ ∀ ρ E G σ H Q, ER X.K ρ H E σ → SR X.K ρ G H → Out X.K XP (VRs X.K) σ ρ H (m E G) Q → t σ H Q
theorem hk_nil : HK X XP [] mNil := ⟨_, pk_nil, fun ρ E G σ H Q er sr q => q.ok sr .nil⟩
theorem hk_cons {nm : Option Str} {e : Expr} {kpos : Pos} {kws : List Keyword} {ma : ME} {mr : MA} (ha : HE X XP e ma) (hr : HK X XP kws mr) : HK X XP (⟨nm, e, kpos⟩ :: kws) (mCons ma mr) := by
  obtain ⟨ta, a1, a2⟩ := ha.ex
  obtain ⟨tr, r1, r2⟩ := hr.ex
  refine ⟨_, pk_cons a1 r1, fun ρ E G σ H Q er sr q => a2 ρ E G σ H _ er sr (q.bind fun w G1 ρ1 H1 v e1 s1 q1 h1 => ?_)⟩
  exact r2 ρ1 E G1 σ H1 _ (er.mono e1) s1 (h1.bind fun ws G2 ρ2 H2 vs e2 s2 q2 h2 => h2.ok s2 (.cons (q1.mono e2) q2))
/-- how a call with keywords is bound: perm tells for each parameter the place of its value in the values by place, then by keyword -/
def pick {α : Type} (perm : List Nat) (xs : List α) : List α := perm.filterMap fun i => xs[i]?
def pickW (perm : List Nat) (xs : List W) : Option (List W) := if perm.all (fun i => decide (i < xs.length)) then some (pick perm xs) else none
theorem pick_vals : ∀ {perm : List Nat} {vs : List V} {us : List Value}, Vals vs us → Vals (pick perm vs) (pick perm us)
  | [], _, _, _ => .nil
  | i :: perm, vs, us, r => by
    have ih := pick_vals (perm := perm) r
    cases h : vs[i]? with
    | none =>
      have h2 := r.none_of h
      simpa [pick, List.filterMap_cons, h, h2] using ih
    | some v =>
      obtain ⟨u, hu, ru⟩ := r.get h
      simpa [pick, List.filterMap_cons, h, hu] using Paired.cons ru ih
theorem pick_vrs {K : Fg} {ρ : List Addr} {H : Hp} : ∀ {perm : List Nat} {ws : List W} {vs : List V}, VRs K ρ H ws vs → VRs K ρ H (pick perm ws) (pick perm vs)
  | [], _, _, _ => .nil
  | i :: perm, ws, vs, r => by
    have ih := pick_vrs (perm := perm) r
    cases h : ws[i]? with
    | none =>
      have h2 := r.get_none h
      simpa [pick, List.filterMap_cons, h, h2] using ih
    | some v =>
      obtain ⟨u, hu, ru⟩ := r.get h
      simpa [pick, List.filterMap_cons, h, hu] using VRs.cons ru ih
def KwB (K : Fg) (fd : FuncData) (ps ks : List Str) (np : Nat) (perm : List Nat) : Prop :=
  ∀ (s : Shared) (us zs : List Value), K.In s.heap → us.length = np → zs.length = ks.length → BindsTo s fd ⟨us, ks.zip zs⟩ (ps.zip (pick perm (us ++ zs)))
def mDefK (F : PF) (perm : List Nat) (np nk : Nat) (m mk : MA) : ME := fun E G => (m E G).bind fun ws G1 => (mk E G1).bind fun zs G2 => if ws.length = np ∧ zs.length = nk then F (pick perm (ws ++ zs)) G2 else .no
theorem he_callK {e : Expr} {es : List Expr} {kws : List Keyword} {ks : List Str} {nk : Nat} {np : Nat} {perm : List Nat} {m mk : MA} (h : FnG X.prog X.w X.K X.mg X.base k f fd ps F) (c : GC X XP k) (hg : Gl X x) (hm : X.mg x = some (.ref f)) (hk : PySem.W.keepIn X.K (.ref f) = true)
    (hb : KwB X.K fd ps ks np perm) (ha : HA X XP (e :: es) m) (hkw : HK X XP kws mk)
    (hall : (backToKw pos (keywordEach kws X.env)).all (·.1.isSome) = true := by rfl) (hks : (backToKw pos (keywordEach kws X.env)).filterMap (·.1) = ks := by rfl)
    (hdb : (x == ("__debug__" : Str)) = false := by decide) (he : starEach (e :: es) X.env = (false, eval e X.env) :: starEach es X.env := by rfl)
    (hpl : ((backTo pos (starEach (e :: es) X.env)).any (·.1) || (backToKw pos (keywordEach kws X.env)).any (·.1.isNone)) = false := by rfl) (hnk : ks.length = nk := by rfl) : HE X XP (.Call (.Name x p) (e :: es) kws pos) (mDefK F perm np nk m mk) := by
  subst hnk
  obtain ⟨t, a1, a2⟩ := ha.ex
  obtain ⟨tk, b1, b2⟩ := hkw.ex
  refine ⟨fun σ H Q => t σ H fun vs H1 => tk σ H1 fun zs H2 => ∃ ρ G ws ys, VRs X.K ρ H2 ws vs ∧ VRs X.K ρ H2 ys zs ∧ ws.length = np ∧ ys.length = ks.length ∧ SR X.K ρ G H2 ∧ Out X.K XP (VR X.K) σ ρ H2 (F (pick perm (ws ++ ys)) G) Q, ⟨fun pins s σ H Q I q => ?_⟩, fun ρ E G σ H Q er sr q => ?_⟩
  · refine wpAny_Call_Name_kw (ld_glob I hg hm (PySem.W.callWith_KW (h₀ := X.base) I.ok.mod.kin hk hall (thn (a1.run pos pins s σ H _ I q) fun us s1 ⟨vs, H1, I1, r, q1⟩ => ?_) hpl he) hdb)
    refine thn (b1.run pos pins s1 σ H1 _ I1 q1) fun zs s2 ⟨ys, H2, I2, r2, ρ, G, ws, yw, k1, k2, l1, l2, k3, k4⟩ => ⟨I2.kIn, ?_⟩
    rw [hks]
    have hl1 : us.length = np := by rw [← r.length, ← k1.length]; exact l1
    have hl2 : zs.length = ks.length := by rw [← r2.length, ← k2.length]; exact l2
    exact h.runC c (args := ⟨us, ks.zip zs⟩) (us := pick perm (us ++ zs)) I2 (fun _ => hb s2 us zs I2.kIn hl1 hl2) (pick_vals (r.append r2)) (pick_vrs (k1.append k2)) k3 k4
  · refine a2 ρ E G σ H _ er sr (q.bind fun ws G1 ρ1 H1 vs e1 s1 q1 k1 => ?_)
    refine b2 ρ1 E G1 σ H1 _ (er.mono e1) s1 (k1.bind fun ys G2 ρ2 H2 zs e2 s2 q2 k2 => ?_)
    split at k2
    · rename_i hl; exact ⟨ρ2, G2, ws, ys, q1.mono e2, q2, hl.1, hl.2, s2, k2⟩
    · exact k2.elim
theorem he_callK0 {kws : List Keyword} {ks : List Str} {nk : Nat} {perm : List Nat} {mk : MA} (h : FnG X.prog X.w X.K X.mg X.base k f fd ps F) (c : GC X XP k) (hg : Gl X x) (hm : X.mg x = some (.ref f)) (hk : PySem.W.keepIn X.K (.ref f) = true)
    (hb : KwB X.K fd ps ks 0 perm) (hkw : HK X XP kws mk)
    (hall : (backToKw pos (keywordEach kws X.env)).all (·.1.isSome) = true := by rfl) (hks : (backToKw pos (keywordEach kws X.env)).filterMap (·.1) = ks := by rfl)
    (hdb : (x == ("__debug__" : Str)) = false := by decide)
    (hpl : ((backTo pos (starEach [] X.env)).any (·.1) || (backToKw pos (keywordEach kws X.env)).any (·.1.isNone)) = false := by rfl) (hnk : ks.length = nk := by rfl) : HE X XP (.Call (.Name x p) [] kws pos) (mDefK F perm 0 nk mNil mk) := by
  subst hnk
  obtain ⟨tk, b1, b2⟩ := hkw.ex
  refine ⟨fun σ H Q => tk σ H fun zs H2 => ∃ ρ G ys, VRs X.K ρ H2 ys zs ∧ ys.length = ks.length ∧ SR X.K ρ G H2 ∧ Out X.K XP (VR X.K) σ ρ H2 (F (pick perm ([] ++ ys)) G) Q, ⟨fun pins s σ H Q I q => ?_⟩, fun ρ E G σ H Q er sr q => ?_⟩
  · refine wpAny_Call_Name_kw (ld_glob I hg hm (PySem.W.callWith_KW0 (h₀ := X.base) I.ok.mod.kin hk hall ?_ hpl) hdb)
    refine thn (b1.run pos pins s σ H _ I q) fun zs s2 ⟨ys, H2, I2, r2, ρ, G, yw, k2, l2, k3, k4⟩ => ⟨I2.kIn, ?_⟩
    rw [hks]
    have hl2 : zs.length = ks.length := by rw [← r2.length, ← k2.length]; exact l2
    exact h.runC c (args := ⟨[], ks.zip zs⟩) (us := pick perm ([] ++ zs)) I2 (fun _ => hb s2 [] zs I2.kIn rfl hl2) (pick_vals r2) (pick_vrs k2) k3 k4
  · refine b2 ρ E G σ H _ er sr (Out.bind (k := fun zs G2 => if ([] : List W).length = 0 ∧ zs.length = ks.length then F (pick perm ([] ++ zs)) G2 else .no) q fun ys G2 ρ2 H2 zs e2 s2 q2 k2 => ?_)
    split at k2
    · rename_i hl; exact ⟨ρ2, G2, ys, q2, hl.2, s2, k2⟩
    · exact k2.elim
end

/-! ### a def by its body -/
def mFun (np nn : Nat) (b : MS) : PF := fun ws G => if ws.length = np then
    match b (ws.map some ++ List.replicate (nn - np) none) G with
    | .nx _ G' => .ok .non G'
    | .rt w G' => .ok w G'
    | .ex e _ G' => .ex e G'
    | _ => .no
  else .no
def wishOf (mg : Str → Option Value) (K : Fg) (E : XK) : Wish := fun e _ ρ H => ∀ cls d, xr mg K e ρ H cls d → E cls d H
theorem fnG_of {P : Program} {w : World} {K : Fg} {mg : Str → Option Value} {base : Heap} {k : Nat} {f : Addr} {name qual : Str} {params : Arguments} {body : List Stmt} {scope : Scope} {dV kV doc pm cdv ct oc : Value} {an od : Option Addr} {osl : Array (Option Value)} {N ps : List Str} {b : MS}
    (lk : K.lookup f = some ⟨oc, od, .func (PySem.W.fnOf name qual params body scope dV kV doc pm an cdv ct), osl⟩) (hcd : PySem.W.codeIn K cdv qual = true) (S : FnScope N ps scope) (hsys : SysD base)
    (hbody : ∀ (A : Around) (outer : List Env) (s : Shared) (H : Hp) (E : XK), GC (cxOf (L2.CX P w) P w K mg base N qual scope f cdv A outer s H E) (wishOf mg K E) k →
      HB (cxOf (L2.CX P w) P w K mg base N qual scope f cdv A outer s H E) (wishOf mg K E) body b) :
    FnG P w K mg base (k + 1) f (PySem.W.fnOf name qual params body scope dV kV doc pm an cdv ct) ps (mFun ps.length N.length b) := by
  have hlen : ∀ ws G, ws.length ≠ ps.length → mFun ps.length N.length b ws G = .no := fun ws G h => by unfold mFun; rw [if_neg h]
  refine ⟨hlen, fun A outer s H args us vs Q E hr e0 hb r hsp => ?_⟩
  obtain ⟨ρ, G, ws, rw0, sr, o⟩ := hsp
  have wl : ws.length = ps.length := by
    apply Decidable.byContradiction
    intro hne
    rw [hlen ws G hne] at o
    exact o
  have vl : vs.length = ps.length := by rw [← rw0.length]; exact wl
  have KX : K.In s.heap := e0.mod.kin.keeps fun b o e => (e0.bs b o e).1
  have lim : s.heap.NoLimit := e0.mod.nolimit.keeps fun b o e => (e0.bs b o e).1
  have pk : ∀ y ∈ ps.zip us, scope.names.lookup y.1 = some .local ∨ (scope.names.lookup y.1 = some .cell ∧ ((cellsFrom (s.heap.objs.size + 1) scope.names []).lookup y.1).isSome = true) := by
    rintro ⟨n, v⟩ hy
    rcases S.par n (List.of_mem_zip hy).1 with q | q
    · exact Or.inl q
    · exact Or.inr ⟨q, PySem.W.cellsFrom_some _ _ _ (Or.inl q)⟩
  refine codeAny_call_function hr.room.depth (KX _ _ lk) rfl S.co S.gen rfl (PySem.W.codeRec_of KX hcd) (hb _ _ _ _ (wpAny_newFunctionEnv_cells S.kind pk fun env hen s1 inC => ?_))
  subst hen
  refine ⟨lim.keeps inC.toInCall.keep, codeAny_func ?_⟩
  have gc : GC (cxOf (L2.CX P w) P w K mg base N qual scope f cdv A outer s H E) (wishOf mg K E) k :=
    ⟨hsys, ⟨hr.room.deeper _, hr.grd⟩, rfl, S.nd, passes_of rfl, ⟨_, takes_of rfl rfl rfl rfl, fun e σ ρ H cls d h x => h cls d x⟩⟩
  obtain ⟨t, ht, hq⟩ := (hbody A outer s H E gc).ex
  have I : Inv (cxOf (L2.CX P w) P w K mg base N qual scope f cdv A outer s H E) [] (L2.start N vs) H s1 := inv_start S hr.room.hd e0 vl r inC
  have er : ER K ρ H (ws.map some ++ List.replicate (N.length - ps.length) none) (L2.start N vs) := by
    unfold L2.start
    rw [vl]
    exact ER.args rw0 (ER.replicate _)
  have q : t { nx := fun _ H' => Q .non H', rt := Q } (L2.start N vs) H := by
    refine hq ρ _ G (L2.start N vs) H _ er sr ?_
    unfold mFun at o
    rw [if_pos wl] at o
    cases hres : b (ws.map some ++ List.replicate (N.length - ps.length) none) G with
    | nx E' G' => rw [hres] at o; exact fun ρ1 H1 σ1 e1 s1 r1 => o ρ1 H1 .non e1 s1 .non
    | rt w' G' => rw [hres] at o; exact o
    | ex e E' G' => rw [hres] at o; exact fun ρ1 H1 σ1 e1 s1 r1 cls d x => o ρ1 H1 cls d e1 s1 x
    | bk E' G' => rw [hres] at o; exact o.elim
    | ct E' G' => rw [hres] at o; exact o.elim
    | no => rw [hres] at o; exact o.elim
  have fin : ∀ {σ' : St} {H' : Hp} {v : V} {u : Value} {s' : Shared}, Inv (cxOf (L2.CX P w) P w K mg base N qual scope f cdv A outer s H E) [] σ' H' s' → RelV v u → Q v H' → CE outer P w H s Q u s' :=
    fun {σ' H' v u s'} J rv qv => ⟨v, H', J.os, J.bare, J.base, J.hok, rv, qv⟩
  refine wpAny_mono (ht.run [] s1 (L2.start N vs) H _ I q) (fun fl s' hs => ?_) fun e s' hs => hs
  cases fl with
  | ret u => obtain ⟨v, σ', H', J, rv, qv⟩ := hs; exact fin J rv qv
  | next => obtain ⟨σ', H', J, qv⟩ := hs; exact fin (v := V.non) (u := Value.none) J rfl qv
  | brk => obtain ⟨_, _, _, z⟩ := hs; exact False.elim z
  | cont => obtain ⟨_, _, _, z⟩ := hs; exact False.elim z
end PL
/- part PLj -/
set_option maxHeartbeats 4000000
namespace PL
open PySem PySem.Spec PyProof.Rows L2
section
variable {X : Cx} {XP : Wish} {pos : Pos}
theorem he_lc {elt tg iter : Expr} {ifs : List Expr} {scope : Scope} {own : List (Str × Nat)} {mi : MI} {g : MG} {t : MT} {m : ME} {sl : List Nat} {k : Nat} (c : GC X XP k) (hi : HI X XP tg iter mi) (ok : blkC X.N X.env.scope scope own = true)
    (hg : ∀ (s : Shared) (H : Hp) (C : Addr) (cl : List (Str × Addr)) (fp : List Addr), HG (X.blk s H scope (compEnvC scope cl C X.env) fp) noX tg sl g)
    (ht : ∀ (s : Shared) (H : Hp) (C : Addr) (cl : List (Str × Addr)) (fp : List Addr), HTs (X.blk s H scope (compEnvC scope cl C X.env) fp) noX ifs t)
    (he : ∀ (s : Shared) (H : Hp) (C : Addr) (cl : List (Str × Addr)) (fp : List Addr), HE (X.blk s H scope (compEnvC scope cl C X.env) fp) noX elt m)
    (hsl : (sl.all fun i => (own.map (·.2)).contains i) = true := by rfl) (hs : ∀ x, foldedSetIterable iter X.env x = pure x := by intro _; rfl) : HE X XP (.ListComp elt [⟨tg, iter, ifs, 0⟩] scope pos) (mLc mi g t m (own.map (·.2))) := by
  obtain ⟨wi, i1, i2⟩ := hi.ex
  have hsl' : ∀ i ∈ sl, i ∈ own.map (·.2) := fun i h => by simpa using List.all_eq_true.mp hsl i h
  exact ⟨_, pe_lc c.calm c.nd i1 (blkOk_by ok) (fun s H C cl fp => (hg s H C cl fp).rd) (fun s H C cl fp => (ht s H C cl fp).rd) (fun s H C cl fp => (he s H C cl fp).rd) hs, lc_run hsl' i2⟩
theorem hs_setLc {i : Nat} {y : Str} {py spos : Pos} {elt tg iter : Expr} {ifs : List Expr} {scope : Scope} {own : List (Str × Nat)} {mi : MI} {g : MG} {t : MT} {m : ME} {sl : List Nat} {k : Nat} (c : GC X XP k) (hy : X.N[i]? = some y) (hyl : X.env.scope.names.lookup y = some .local)
    (hsw : swapsWith (.ListComp elt [⟨tg, iter, ifs, 0⟩] scope pos) (some (.Name y py)) spos.line X.env = pure true) (hi : HI X XP tg iter mi) (ok : blkC X.N X.env.scope scope own = true)
    (hg : ∀ (s : Shared) (H : Hp) (C : Addr) (cl : List (Str × Addr)) (fp : List Addr), HG (X.blk s H scope (compEnvC scope cl C X.env) fp) noX tg sl g)
    (ht : ∀ (s : Shared) (H : Hp) (C : Addr) (cl : List (Str × Addr)) (fp : List Addr), HTs (X.blk s H scope (compEnvC scope cl C X.env) fp) noX ifs t)
    (he : ∀ (s : Shared) (H : Hp) (C : Addr) (cl : List (Str × Addr)) (fp : List Addr), HE (X.blk s H scope (compEnvC scope cl C X.env) fp) noX elt m)
    (hsl : (sl.all fun i => (own.map (·.2)).contains i) = true := by rfl) (hs : ∀ x, foldedSetIterable iter X.env x = pure x := by intro _; rfl) : HS X XP (.Assign [.Name y py] (.ListComp elt [⟨tg, iter, ifs, 0⟩] scope pos) spos) (sAsg (mLc mi g t m (own.map (·.2))) (gSet i)) := by
  obtain ⟨wi, i1, i2⟩ := hi.ex
  have hsl' : ∀ i ∈ sl, i ∈ own.map (·.2) := fun i h => by simpa using List.all_eq_true.mp hsl i h
  exact ⟨_, ps_setLc c.calm c.nd hy hyl hsw i1 (blkOk_by ok) (fun s H C cl fp => (hg s H C cl fp).rd) (fun s H C cl fp => (ht s H C cl fp).rd) (fun s H C cl fp => (he s H C cl fp).rd) hs,
    asg_run (sl := [i]) (lc_run hsl' i2) fun ρ w E G v σ H Q r er sr q => q.ok sr ⟨er.set r i, List.length_set, fun j hj => set_other (by simpa using hj)⟩⟩

/-! ### while -/
def whL (c : MT) (b : MS) : Nat → PEnv → Cells → So
  | 0, _, _ => .no
  | n + 1, E, G => liftS (c E G) E fun k G1 => if k = true then
      match b E G1 with
      | .nx E2 G2 => whL c b n E2 G2
      | .ct E2 G2 => whL c b n E2 G2
      | .bk E2 G2 => .nx E2 G2
      | r => r
    else .nx E G1
open Classical in
noncomputable def sWhile (c : MT) (b : MS) : MS := fun E G => if h : ∃ n, whL c b n E G ≠ .no then whL c b h.choose E G else .no
theorem whL_more {c : MT} {b : MS} : ∀ {n : Nat} {E : PEnv} {G : Cells}, whL c b n E G ≠ .no → ∀ m, n ≤ m → whL c b m E G = whL c b n E G
  | 0, _, _, h, _, _ => absurd rfl h
  | n + 1, E, G, h, m, hm => by
    obtain ⟨m', rfl⟩ : ∃ m', m = m' + 1 := ⟨m - 1, by omega⟩
    unfold whL at h ⊢
    unfold liftS at h ⊢
    cases hc : c E G with
    | no => rfl
    | ex e G1 => rfl
    | ok k G1 =>
      simp only [hc] at h ⊢
      cases k with
      | false => rfl
      | true =>
        simp only [if_true] at h ⊢
        cases hb : b E G1 with
        | nx E2 G2 => simp only [hb] at h ⊢; exact whL_more h m' (by omega)
        | ct E2 G2 => simp only [hb] at h ⊢; exact whL_more h m' (by omega)
        | bk E2 G2 => rfl
        | rt w2 G2 => rfl
        | ex e2 E2 G2 => rfl
        | no => rfl
theorem sWhile_of {c : MT} {b : MS} {n : Nat} {E : PEnv} {G : Cells} {r : So} (h : whL c b n E G = r) (hr : r ≠ .no) : sWhile c b E G = r := by
  have hx : ∃ n, whL c b n E G ≠ .no := ⟨n, by rw [h]; exact hr⟩
  unfold sWhile
  rw [dif_pos hx]
  rcases Nat.le_total n hx.choose with l | l
  · rw [whL_more (by rw [h]; exact hr) _ l, h]
  · rw [← whL_more hx.choose_spec _ l, h]
theorem hs_while {c : Expr} {body : List Stmt} {mc : MT} {b : MS} (hp : PassesOwn (model X.prog X.w) X.A X.env X.xe) (hc : HT X XP c mc) (hb : HB X XP body b) : HS X XP (.While c body [] pos) (sWhile mc b) := by
  obtain ⟨tc, c1, c2⟩ := hc.ex
  obtain ⟨tb, b1, b2⟩ := hb.ex
  refine ⟨_, ps_while hp c1 b1, fun ρ E G σ H D er sr q => ?_⟩
  unfold sWhile at q
  split at q
  · rename_i hx
    refine ⟨fun m σ' H' => ∃ ρ' E' G', Ext X.K ρ H ρ' H' ∧ ER X.K ρ' H' E' σ' ∧ SR X.K ρ' G' H' ∧ OutS X.K XP ρ' H' (whL mc b m E' G') D, ⟨_, ρ, E, G, .refl, er, sr, q⟩, ?_⟩
    rintro m σ' H' ⟨ρ', E', G', ex, er', s', o⟩
    cases m with
    | zero => exact o.elim
    | succ n =>
      unfold whL at o
      refine c2 ρ' E' G' σ' H' _ er' s' (OutS.lift er' o fun k G1 ρ1 H1 v e1 s1 r1 k1 => ?_)
      cases r1
      cases k with
      | false =>
        rw [if_neg Bool.false_ne_true]
        have k2 : OutS X.K XP ρ1 H1 (.nx E' G1) D := by simpa using k1
        exact k2 ρ1 H1 σ' .refl s1 (er'.mono e1)
      | true =>
        rw [if_pos rfl]
        refine ⟨fun σ2 H2 => ∃ ρ2 E2 G2, Ext X.K ρ H ρ2 H2 ∧ ER X.K ρ2 H2 E2 σ2 ∧ SR X.K ρ2 G2 H2 ∧ OutS X.K XP ρ2 H2 (whL mc b n E2 G2) D, fun σ2 H2 h => ⟨n, Nat.lt_succ_self _, h⟩, ?_⟩
        refine b2 ρ1 E' G1 σ' H1 _ (er'.mono e1) s1 ?_
        simp only [if_true] at k1
        have ext := ex.trans e1
        cases hr : b E' G1 with
        | nx E4 G4 => rw [hr] at k1; exact fun ρ4 H4 σ4 e4 s4 r4 => ⟨ρ4, E4, G4, ext.trans e4, r4, s4, OutS.mono k1 e4⟩
        | ct E4 G4 => rw [hr] at k1; exact fun ρ4 H4 σ4 e4 s4 r4 => ⟨ρ4, E4, G4, ext.trans e4, r4, s4, OutS.mono k1 e4⟩
        | bk E4 G4 => rw [hr] at k1; exact k1
        | rt w4 G4 => rw [hr] at k1; exact k1
        | ex x4 E4 G4 => rw [hr] at k1; exact k1
        | no => rw [hr] at k1; exact k1
  · exact q.elim

/-! ### dict displays -/
abbrev MPs := PEnv → Cells → Rs (List (Key × W))
structure HP (X : Cx) (XP : Wish) (pos : Pos) (keys : List (Option Expr)) (values : List Expr) (m : MPs) : Prop where
  ex : ∃ trs, PPs X pos keys values trs ∧ ∀ ρ E G σ H (Q : List (V × V) → Hp → Prop), ER X.K ρ H E σ → SR X.K ρ G H →
    Out X.K XP (fun ρ H r (q : List (V × V)) => ∃ kv, q = kv.map (fun p => (kV p.1, p.2)) ∧ KVR X.K ρ H r kv) σ ρ H (m E G) Q → tPairs trs σ H Q
def mpNil : MPs := fun _ G => .ok [] G
def mpCons (mk mv : ME) (r : MPs) : MPs := fun E G => (mk E G).bind fun x G1 => (mv E G1).bind fun y G2 => (r E G2).bind fun ps G3 => match keyW x with | some k => .ok ((k, y) :: ps) G3 | none => .no
theorem hp_nil : HP X XP pos [] [] mpNil := ⟨_, pps_nil, fun ρ E G σ H Q er sr q => q.ok sr ⟨[], rfl, .nil⟩⟩
theorem hp_cons {k v : Expr} {ks : List (Option Expr)} {vs : List Expr} {mk mv : ME} {r : MPs} (hk : HE X XP k mk) (hv : HE X XP v mv) (hr : HP X XP pos ks vs r) : HP X XP pos (some k :: ks) (v :: vs) (mpCons mk mv r) := by
  obtain ⟨tk, a1, a2⟩ := hk.ex
  obtain ⟨tv, b1, b2⟩ := hv.ex
  obtain ⟨tr, r1, r2⟩ := hr.ex
  refine ⟨_, pps_cons a1 b1 r1, fun ρ E G σ H Q er sr q => ?_⟩
  refine a2 ρ E G σ H _ er sr (q.bind fun x G1 ρ1 H1 xv e1 s1 q1 k1 => ?_)
  refine b2 ρ1 E G1 σ H1 _ (er.mono e1) s1 (k1.bind fun y G2 ρ2 H2 yv e2 s2 q2 k2 => ?_)
  refine r2 ρ2 E G2 σ H2 _ (er.mono (e1.trans e2)) s2 (k2.bind fun ps G3 ρ3 H3 pv e3 s3 q3 k3 => ?_)
  obtain ⟨kv, rfl, q4⟩ := q3
  split at k3
  · rename_i k0 hk0
    have := keyW_ok (q1.mono (e2.trans e3)) hk0
    subst this
    exact k3.ok s3 ⟨(k0, yv) :: kv, rfl, .cons (q2.mono e3) q4⟩
  · exact k3.elim
def mergeW (kvs more : List (Key × W)) : List (Key × W) := more.foldl (fun acc kv => putW acc kv.1 kv.2) kvs
theorem KVR.merge {K : Fg} {ρ : List Addr} {H : Hp} : ∀ {more : List (Key × W)} {mq : List (Key × V)} {r : List (Key × W)} {q : List (Key × V)}, KVR K ρ H more mq → KVR K ρ H r q → KVR K ρ H (mergeW r more) (mergeK q mq)
  | _, _, _, _, .nil, s => s
  | _, _, r, q, .cons (k := k) (w := w) (v := v) (r := r1) (q := q1) h t, s => by
    show KVR K ρ H (mergeW (putW r k w) r1) (mergeK (putK q k v) q1)
    exact KVR.merge t (s.put h)
def mDisp (m : MPs) : ME := fun E G => (m E (G ++ [.dct []])).bind fun ps G' => match G'[G.length]? with
  | some (.dct []) => if ps.length ≤ 15 then .ok (.ref G.length) (G'.set G.length (.dct (mergeW [] ps))) else .no
  | _ => .no
theorem he_disp {keys : List (Option Expr)} {values : List Expr} {m : MPs} (h : HP X XP pos keys values m) (hall : keys.all (·.isSome) = true := by rfl) (hl : keys.length = values.length := by rfl) (h0 : keys ≠ [] := by simp) (h15 : keys.length ≤ 15 := by decide) : HE X XP (.Dict keys values pos) (mDisp m) := by
  obtain ⟨trs, a1, a2⟩ := h.ex
  refine ⟨_, pe_disp a1 hall hl h0 h15, fun ρ E G σ H Q er sr q => ?_⟩
  intro p hp
  have hcell : PL.CR X.K (ρ ++ [p]) (upd H p (.dK [])) (.dct []) p := ⟨[], upd_same, .nil⟩
  have sA := sr.alloc hp hcell
  have eA : Ext X.K ρ H (ρ ++ [p]) (upd H p (.dK [])) := ext_alloc hp
  have hn : (ρ ++ [p])[G.length]? = some p := by rw [← sr.len]; exact last_get _ _
  refine a2 (ρ ++ [p]) E (G ++ [.dct []]) σ _ _ (er.mono eA) sA ((Out.mono q eA).bind fun ps G1 ρ1 H1 pv e1 s1 q1 k1 => ?_)
  obtain ⟨kv, rfl, q4⟩ := q1
  have hn1 := e1.rho _ _ hn
  split at k1
  · rename_i hc
    obtain ⟨z, z1, z2⟩ := cell_dct s1 hn1 hc
    cases z2
    split at k1
    · rename_i h15'
      have ex : Ext X.K ρ1 H1 ρ1 (upd H1 p (.dK (mergeK [] kv))) := s1.ext_write hc hn1 rfl
      exact ⟨z1, kv, rfl, by rw [← q4.length]; exact h15', k1 ρ1 _ _ ex (s1.write (c' := .dct (mergeW [] ps)) hc hn1 rfl rfl ⟨_, upd_same, KVR.merge (q4.mono ex) .nil⟩) (.ref hn1)⟩
    · exact k1.elim
  · exact k1.elim
/-- {} -/
def mDict0 : ME := fun _ G => .ok (.ref G.length) (G ++ [.dct []])
theorem he_dict0 : HE X XP (.Dict [] [] pos) mDict0 := by
  refine ⟨_, pe_dnewK, fun ρ E G σ H Q er sr q => ?_⟩
  intro p hp
  have hcell : PL.CR X.K (ρ ++ [p]) (upd H p (.dK [])) (.dct []) p := ⟨[], upd_same, .nil⟩
  exact q (ρ ++ [p]) _ _ (ext_alloc hp) (sr.alloc hp hcell) (.ref (by rw [← sr.len]; exact last_get _ _))

/-! ### methods of built-in types -/
structure MtG (X : Cx) (XP : Wish) (T : String) (id : String) (g : Cells → W → List W → Rs W) : Prop where
  ex : ∃ r, MtR X id r ∧ ∀ ρ G σ H w v ws vs Q, SR X.K ρ G H → VR X.K ρ H w v → VRs X.K ρ H ws vs → Out X.K XP (VR X.K) σ ρ H (g G w ws) Q → r v vs H Q
/-- the receiver's type by its value -/
def isTy (T : String) (G : Cells) : W → Bool
  | .str _ => T == "str"
  | .int _ => T == "int"
  | .ref n => match G[n]? with
    | some (.lst _) => T == "list"
    | some (.rol _) => T == "list"
    | some (.dct _) => T == "dict"
    | _ => false
  | _ => false
theorem isTy_ok {K : Fg} {ρ : List Addr} {G : Cells} {H : Hp} {T : String} {w : W} {v : V} (s : SR K ρ G H) (r : VR K ρ H w v) (h : isTy T G w = true) : tyV K T v H := by
  cases r with
  | str x => show T = "str"; simpa [isTy] using h
  | int i => show T = "int"; simpa [isTy] using h
  | @ref n a hn =>
    obtain ⟨c, hc⟩ := s.at hn
    simp only [isTy, hc] at h
    have k := s.cell n c a hc hn
    cases c with
    | lst ws => obtain ⟨vs, q1, _⟩ := k; exact .inl ⟨by simpa using h, vs, .of q1⟩
    | rol ws =>
      obtain ⟨vs, q1, _⟩ := k
      refine .inl ⟨by simpa using h, vs, ?_⟩
      rcases q1 with ⟨o, q1⟩ | q1
      · exact .inl (.inr ⟨o, q1⟩)
      · exact .inr q1
    | dct kvs => obtain ⟨vs, q1, _⟩ := k; exact .inr (.inr (.inl ⟨by simpa using h, .inl ⟨vs, q1⟩⟩))
    | tct kvs => cases h
    | lkd kvs => cases h
  | _ => cases h
def mMeth (T : String) (g : Cells → W → List W → Rs W) (mo : ME) (m : MA) : ME := fun E G => (mo E G).bind fun w G1 => if isTy T G1 w = true then (m E G1).bind fun ws G2 => g G2 w ws else .no
variable {T id : String} {name : Str} {o e : Expr} {es : List Expr} {apos cpos : Pos} {g : Cells → W → List W → Rs W}
theorem he_meth0 {mo : ME} (pa : PlainAttrs T) (slot : Slot T name id) (hty : typeOf (.builtin id) = pure (.type "method_descriptor")) (hm : MtG X XP T id g) (ho : HE X XP o mo)
    (hbase : attributeBase o name X.env (eval o X.env) = eval o X.env := by rfl) (hline : (apos.endLine == cpos.line) = true := by rfl) : HE X XP (.Call (.Attribute o name apos) [] [] cpos) (mMeth T g mo mNil) := by
  obtain ⟨r, h1, h2⟩ := hm.ex
  obtain ⟨t, a1, a2⟩ := ho.ex
  refine ⟨_, pe_bm0 pa slot hty h1 a1 hbase hline, fun ρ E G σ H Q er sr q => a2 ρ E G σ H _ er sr (q.bind fun w G1 ρ1 H1 v e1 s1 q1 k1 => ?_)⟩
  split at k1
  · rename_i ht; exact ⟨isTy_ok s1 q1 ht, h2 ρ1 G1 σ H1 w v [] [] Q s1 q1 .nil k1⟩
  · exact k1.elim
theorem he_meth {mo : ME} {m : MA} (pa : PlainAttrs T) (slot : Slot T name id) (hty : typeOf (.builtin id) = pure (.type "method_descriptor")) (hm : MtG X XP T id g) (ho : HE X XP o mo) (ha : HA X XP (e :: es) m)
    (hbase : attributeBase o name X.env (eval o X.env) = eval o X.env := by rfl)
    (hfew : ((backTo cpos (starEach (e :: es) X.env)).all (fun x => !x.1) && (backToKw cpos (keywordEach [] X.env)).all (fun x => x.1.isSome)
      && decide ((e :: es).length + ([] : List Keyword).length + (if ([] : List Keyword).isEmpty then 0 else 1) < 30)) = true := by rfl)
    (hline : (apos.endLine == cpos.line) = true := by rfl) (hs : starEach (e :: es) X.env = (false, eval e X.env) :: starEach es X.env := by rfl) (hplain : (backTo cpos (starEach es X.env)).any (·.1) = false := by rfl) : HE X XP (.Call (.Attribute o name apos) (e :: es) [] cpos) (mMeth T g mo m) := by
  obtain ⟨r, h1, h2⟩ := hm.ex
  obtain ⟨t, a1, a2⟩ := ho.ex
  obtain ⟨u, b1, b2⟩ := ha.ex
  refine ⟨_, pe_bm pa slot hty h1 a1 b1 hbase hfew hline hs hplain, fun ρ E G σ H Q er sr q => a2 ρ E G σ H _ er sr (q.bind fun w G1 ρ1 H1 v e1 s1 q1 k1 => ?_)⟩
  split at k1
  · rename_i ht
    exact ⟨isTy_ok s1 q1 ht, b2 ρ1 E G1 σ H1 _ (er.mono e1) s1 (k1.bind fun ws G2 ρ2 H2 vs e2 s2 q2 k2 => h2 ρ2 G2 σ H2 w v ws vs Q s2 (q1.mono e2) q2 k2)⟩
  · exact k1.elim
def appendW : Cells → W → List W → Rs W := fun G w ws => match w, ws with
  | .ref n, [y] => (match G[n]? with | some (.lst xs) => if xs.length < sizeLine then .ok .non (G.set n (.lst (xs ++ [y]))) else .no | _ => .no)
  | _, _ => .no
theorem mg_append : MtG X XP "list" "list.append" appendW := by
  refine ⟨_, mt_append, fun ρ G σ H w v ws vs Q s r rs h => ?_⟩
  unfold appendW at h
  split at h
  · cases r with
    | ref hn =>
      cases rs with
      | @cons y yv _ _ r1 r2 =>
        cases r2
        split at h
        · rename_i xs hc
          split at h
          · rename_i hz
            obtain ⟨us, q1, q2⟩ := cell_lst s hn hc
            have ex : Ext X.K ρ H ρ (upd H _ (.lst (us ++ [yv]))) := s.ext_write hc hn rfl
            exact ⟨_, us, _, rfl, rfl, q1, by rw [← q2.length]; exact hz, h ρ _ _ ex (s.write (c' := .lst (xs ++ [_])) hc hn rfl rfl ⟨_, upd_same, (q2.mono ex).append (.cons (r1.mono ex) .nil)⟩) .non⟩
          · exact h.elim
        · exact h.elim
  · exact h.elim
def popW : Cells → W → List W → Rs W := fun G w ws => match w, ws with
  | .ref n, [] => (match G[n]? with | some (.lst xs) => (match xs[xs.length - 1]? with | some y => .ok y (G.set n (.lst xs.dropLast)) | none => .no) | _ => .no)
  | .ref n, [.int i] => (match G[n]? with
    | some (.lst xs) => if -(2 ^ 63) ≤ i ∧ i < 2 ^ 63 then (match seqIndex? i xs.length with
      | some k => (match xs[k]? with | some y => .ok y (G.set n (.lst (xs.eraseIdx k))) | none => .no)
      | none => .no) else .no
    | _ => .no)
  | _, _ => .no
theorem VRs.dropLast {K : Fg} {ρ : List Addr} {H : Hp} {ws : List W} {vs : List V} (h : VRs K ρ H ws vs) : VRs K ρ H ws.dropLast vs.dropLast := by
  rw [List.dropLast_eq_take, List.dropLast_eq_take, h.length]
  exact h.take _
theorem VRs.erase {K : Fg} {ρ : List Addr} {H : Hp} {ws : List W} {vs : List V} (h : VRs K ρ H ws vs) (k : Nat) : VRs K ρ H (ws.eraseIdx k) (vs.eraseIdx k) := by
  rw [List.eraseIdx_eq_take_drop_succ, List.eraseIdx_eq_take_drop_succ]
  exact (h.take _).append (h.drop _)
theorem mg_pop : MtG X XP "list" "list.pop" popW := by
  refine ⟨_, MtR.or mt_pop mt_popAt, fun ρ G σ H w v ws vs Q s r rs h => ?_⟩
  unfold popW at h
  split at h
  · cases r with
    | ref hn =>
      cases rs
      split at h
      · rename_i xs hc
        split at h
        · rename_i y hy
          obtain ⟨us, q1, q2⟩ := cell_lst s hn hc
          obtain ⟨u, f1, f2⟩ := q2.get hy
          have ex : Ext X.K ρ H ρ (upd H _ (.lst us.dropLast)) := s.ext_write hc hn rfl
          exact .inl ⟨_, us, u, rfl, rfl, q1, by rw [← q2.length]; exact f1, h ρ _ _ ex (s.write (c' := .lst xs.dropLast) hc hn rfl rfl ⟨_, upd_same, (q2.mono ex).dropLast⟩) (f2.mono ex)⟩
        · exact h.elim
      · exact h.elim
  · cases r with
    | ref hn =>
      cases rs with
      | cons r1 r2 =>
        cases r2
        cases r1
        split at h
        · rename_i xs hc
          split at h
          · rename_i hb
            split at h
            · rename_i k hk
              split at h
              · rename_i y hy
                obtain ⟨us, q1, q2⟩ := cell_lst s hn hc
                obtain ⟨u, f1, f2⟩ := q2.get hy
                have ex : Ext X.K ρ H ρ (upd H _ (.lst (us.eraseIdx k))) := s.ext_write hc hn rfl
                exact .inr ⟨_, us, _, k, u, rfl, rfl, q1, hb.1, hb.2, by rw [← q2.length]; exact hk, f1, h ρ _ _ ex (s.write (c' := .lst (xs.eraseIdx k)) hc hn rfl rfl ⟨_, upd_same, (q2.mono ex).erase k⟩) (f2.mono ex)⟩
              · exact h.elim
            · exact h.elim
          · exact h.elim
        · exact h.elim
  · exact h.elim
end
end PL
/- part PLk -/
set_option maxHeartbeats 4000000
namespace PL
open PySem PySem.Spec PyProof.Rows L2
/-! ### data -/
def mapO {α β : Type} (f : α → Option β) : List α → Option (List β)
  | [] => some []
  | x :: xs => match f x, mapO f xs with
    | some y, some ys => some (y :: ys)
    | _, _ => none
def keyD : Key → PyData
  | .inl i => .int i
  | .inr x => .str x
def dat (G : Cells) : Nat → W → Option PyData
  | 0, _ => none
  | k + 1, w => match w with
    | .non => some .none
    | .bl b => some (.bool b)
    | .int i => some (.int i)
    | .str x => some (.str x)
    | .ty _ => none
    | .fn _ => none
    | .tup ws => (mapO (dat G k) ws).map .tuple
    | .ref n => match G[n]? with
      | some (.lst ws) => (mapO (dat G k) ws).map .list
      | some (.rol ws) => (mapO (dat G k) ws).map .list
      | some (.dct kvs) => (mapO (fun p => (dat G k p.2).map fun d => (keyD p.1, d)) kvs).map .dict
      | _ => none
section
variable {X : Cx} {pins : List (Addr × Obj)} {σ : St} {H : Hp} {s : Shared} {ρ : List Addr} {G : Cells}
/-- what is told of a value -/
def DR (k : Nat) (h : Heap) (u : Value) (d : PyData) : Prop := ∃ as, Reads h u d as ∧ sysModules ∉ as ∧ d.depth ≤ k
def DRs (k : Nat) (h : Heap) (us : List Value) (ds : List PyData) : Prop := ∃ as, ReadsAll h us ds as ∧ sysModules ∉ as ∧ PyData.depthAll ds ≤ k
theorem mapO_cons {α β : Type} {f : α → Option β} {x : α} {xs : List α} {zs : List β} (h : mapO f (x :: xs) = some zs) : ∃ y ys, f x = some y ∧ mapO f xs = some ys ∧ zs = y :: ys := by
  unfold mapO at h
  split at h
  · rename_i y ys h1 h2; cases h; exact ⟨y, ys, h1, h2, rfl⟩
  · cases h
theorem drs_of {k : Nat} (ih : ∀ w v u d, VR X.K ρ H w v → RelV v u → dat G k w = some d → DR k s.heap u d) : ∀ (ws : List W) (vs : List V) (us : List Value) (ds : List PyData), VRs X.K ρ H ws vs → Vals vs us → mapO (dat G k) ws = some ds → DRs k s.heap us ds
  | _, _, _, _, .nil, .nil, h => by cases h; exact ⟨[], .nil, by simp, by simp [PyData.depthAll]⟩
  | _, _, _, _, .cons r rr, .cons v vv, h => by
    obtain ⟨y, ys, h1, h2, rfl⟩ := mapO_cons h
    obtain ⟨as, a1, a2, a3⟩ := ih _ _ _ _ r v h1
    obtain ⟨bs, b1, b2, b3⟩ := drs_of ih _ _ _ _ rr vv h2
    refine ⟨as ++ bs, .cons a1 b1, ?_, by simp only [PyData.depthAll]; omega⟩
    simp only [List.mem_append, not_or]
    exact ⟨a2, b2⟩
theorem key_reads {h : Heap} {k : Key} {u : Value} (hk : keyIs k u = true) : Reads h u (keyD k) [] := by
  rcases keyIs_shape hk with ⟨i, t, rfl, rfl⟩ | ⟨x, t, rfl, rfl⟩
  · exact .int i t
  · exact .str x t
theorem drk_of {P : Program} {w : World} {k : Nat} (ih : ∀ w v u d, VR X.K ρ H w v → RelV v u → dat G k w = some d → DR k s.heap u d) : ∀ (kvs : List (Key × W)) (q : List (Key × V)) (qs : List (Key × Value)) (es : List DictEntry) (ds : List (PyData × PyData)),
    KVR X.K ρ H kvs q → KV q qs → Pairs (mixKind P w) es qs → mapO (fun p => (dat G k p.2).map fun d => (keyD p.1, d)) kvs = some ds →
    ∃ as, ReadsAll s.heap (es.map (·.key)) (ds.map (·.1)) [] ∧ ReadsAll s.heap (es.map (·.val)) (ds.map (·.2)) as ∧ sysModules ∉ as ∧ PyData.depthKv ds ≤ k
  | _, _, _, _, _, .nil, .nil, .nil, h => by cases h; exact ⟨[], .nil, .nil, by simp, by simp [PyData.depthKv]⟩
  | _, _, _, _, _, .cons (k := k0) r rr, .cons v vv, .cons (e := en) e1 e2 e3, h => by
    obtain ⟨y, ys, h1, h2, rfl⟩ := mapO_cons h
    simp only [Option.map_eq_some_iff] at h1
    obtain ⟨d, h1, rfl⟩ := h1
    obtain ⟨as, a1, a2, a3⟩ := ih _ _ _ _ r v.2 h1
    obtain ⟨bs, b0, b1, b2, b3⟩ := drk_of ih _ _ _ _ _ rr vv e3 h2
    have hd : (keyD k0).depth = 0 := by cases k0 <;> simp [keyD, PyData.depth]
    have hk1 : keyIs k0 en.key = true := by have e := e1; rw [mixKind_is, ← v.1] at e; exact e
    refine ⟨as ++ bs, ?_, ?_, ?_, ?_⟩
    · exact ReadsAll.cons (as := []) (bs := []) (key_reads hk1) b0
    · rw [List.map_cons, List.map_cons, e2]
      exact ReadsAll.cons a1 b1
    · simp only [List.mem_append, not_or]
      exact ⟨a2, b2⟩
    · simp only [PyData.depthKv]
      omega

theorem dat_reads (hsys : SysD X.base) (I : Inv X pins σ H s) (sr : SR X.K ρ G H) : ∀ (k : Nat) (w : W) (v : V) (u : Value) (d : PyData), VR X.K ρ H w v → RelV v u → dat G k w = some d → DR k s.heap u d
  | 0, _, _, _, _, _, _, h => by cases h
  | k + 1, _, _, _, _, .non, r, h => by cases h; cases r; exact ⟨[], .none, by simp, by simp [PyData.depth]⟩
  | k + 1, _, _, _, _, .bl b, r, h => by cases h; cases r; exact ⟨[], .bool b, by simp, by simp [PyData.depth]⟩
  | k + 1, _, _, _, _, .int i, r, h => by cases h; obtain ⟨t, rfl⟩ := r; exact ⟨[], .int i t, by simp, by simp [PyData.depth]⟩
  | k + 1, _, _, _, _, .str x, r, h => by cases h; obtain ⟨t, rfl⟩ := r; exact ⟨[], .str x t, by simp, by simp [PyData.depth]⟩
  | k + 1, _, _, _, _, .ty _, r, h => by cases h
  | k + 1, _, _, _, _, .fn _, r, h => by cases h
  | k + 1, _, _, _, _, .tup (ws := ws) (vs := vs) h1 h2, r, h => by
    cases r
    simp only [dat, Option.map_eq_some_iff] at h
    obtain ⟨ds, hd, rfl⟩ := h
    obtain ⟨its, rv, ⟨o, ho, hc, n, hdt⟩, _⟩ := I.tuple (.of h1)
    obtain ⟨as, a1, a2, a3⟩ := drs_of (dat_reads hsys I sr k) ws vs its ds h2 rv hd
    exact ⟨as, .tuple ho hc hdt a1, a2, by simp only [PyData.depth]; omega⟩
  | k + 1, _, _, _, _, .ref (n := n) hn, r, h => by
    cases r
    obtain ⟨c, hcell⟩ := sr.at hn
    simp only [dat, hcell] at h
    have lst : ∀ {ws : List W} {d : PyData}, rdL G n = some ws → (mapO (dat G k) ws).map PyData.list = some d → DR (k + 1) s.heap (.ref _) d := fun {ws d} hr h => by
      simp only [Option.map_eq_some_iff] at h
      obtain ⟨ds, hd, rfl⟩ := h
      obtain ⟨vs, h1, h2⟩ := rdL_ok sr hn hr
      obtain ⟨its, rv, ⟨o, m, ho, hc, _, hdt⟩, _⟩ := I.list h1
      obtain ⟨as, a1, a2, a3⟩ := drs_of (dat_reads hsys I sr k) ws vs its ds h2 rv hd
      refine ⟨_, .list ho hc hdt a1, fun hm => ?_, by simp only [PyData.depth]; omega⟩
      rcases List.mem_cons.mp hm with e | hm
      · obtain ⟨od, es, en, g1, g2⟩ := hsys
        have g3 := I.bk _ _ g1
        rw [e, ho] at g3
        cases g3
        rw [hdt] at g2
        cases g2
      · exact a2 hm
    cases c with
    | lst ws => exact lst (by unfold rdL; rw [hcell]) h
    | rol ws => exact lst (by unfold rdL; rw [hcell]) h
    | dct kvs =>
      simp only [Option.map_eq_some_iff] at h
      obtain ⟨ds, hd, rfl⟩ := h
      obtain ⟨q, h1, h2⟩ := cell_dct sr hn hcell
      obtain ⟨_, hs1, qs, hkv, o, es, ep, ho, hex, hdt, _, hp, _⟩ := I.hok _ _ h1
      have hne := (beq_eq_false_iff_ne.mp hs1).symm
      obtain ⟨as, a0, a1, a2, a3⟩ := drk_of (dat_reads hsys I sr k) kvs q qs es.toList ds h2 hkv hp hd
      refine ⟨_, .dict ho hex.1 hdt a0 a1, ?_, by simp only [PyData.depth]; omega⟩
      simp only [List.append_nil, List.cons_append, List.nil_append, List.mem_cons, not_or]
      exact ⟨hne, a2⟩
    | tct kvs => cases h
    | lkd kvs => cases h

/-! ### repr -/
def showOk (d : PyData) : Bool := d.showable && decide (d.shown.length ≤ sizeLine)
def reprW : GCall := fun G ws => match ws with
  | [w] => (match dat G 60 w with | some d => if showOk d = true then .ok (.str d.shown) G else .no | none => .no)
  | _ => .no
end
section
variable {X : Cx} {XP : Wish} {k : Nat}
theorem same_of_keep {pins : List (Addr × Obj)} {σ : St} {H : Hp} {s : Shared} {h' : Heap} {tk : Nat} (I : Inv X pins σ H s) (hk : ∀ b o, s.heap.get? b = some o → h'.get? b = some o) : Inv X pins σ H { s with heap := h', toks := tk } := I.kept hk
theorem cg_repr (c : GC X XP k) : CaG X XP (.builtin "repr") reprW := by
  refine ⟨fun vs H Q => ∃ ρ G σ ws, SR X.K ρ G H ∧ VRs X.K ρ H ws vs ∧ Out X.K XP (VR X.K) σ ρ H (reprW G ws) Q, fun pins s σ H xs us Q I r h => ?_, fun ρ G σ H ws vs Q sr r o => ⟨ρ, G, σ, ws, sr, r, o⟩⟩
  obtain ⟨ρ, G, σ', ws, sr, rw', o⟩ := h
  unfold reprW at o
  split at o
  · rename_i w
    split at o
    · rename_i d hd
      split at o
      · rename_i hs
        cases rw' with
        | cons r1 r2 =>
          cases r2
          obtain ⟨u, rfl, ru⟩ := vals1 r
          obtain ⟨as, a1, a2, a3⟩ := dat_reads c.sys I sr 60 _ _ _ _ r1 ru hd
          simp only [showOk, Bool.and_eq_true, decide_eq_true_eq] at hs
          obtain ⟨h1, h3⟩ := hs
          have fin : ∀ {h' : Heap} {tk : Nat} {t : Tok}, (∀ b o, s.heap.get? b = some o → h'.get? b = some o) → EP X pins σ Q (.str d.shown t) { s with heap := h', toks := tk } := fun hk => ⟨.str d.shown, H, I.kept hk, ⟨_, rfl⟩, o.ok sr (.str _)⟩
          have hu := c.room.room.units
          cases a1 with
          | none => simp only [PyData.shown] at fin; exact PySem.P.repr_of_none (fin (h' := s.heap) fun _ _ e => e)
          | bool b => simp only [PyData.shown] at fin; exact PySem.P.repr_of_bool (fin (h' := s.heap) fun _ _ e => e)
          | int i t => simp only [PyData.shown] at fin; exact PySem.P.repr_of_int (by simpa [PyData.showable] using h1) (fin (h' := s.heap) fun _ _ e => e)
          | str x t => simp only [PyData.shown] at fin h3; exact PySem.P.repr_of_str (fin (h' := s.heap) fun _ _ e => e) h3
          | list b1 b2 b3 b4 => exact repr_of_reads' (.list b1 b2 b3 b4) h1 (fun _ => a2) c.room.grd (by omega) (fun _ _ e => e) (fun h' u tk hk => fin hk) h3
          | tuple b1 b2 b3 b4 => exact repr_of_reads' (.tuple b1 b2 b3 b4) h1 (fun _ => a2) c.room.grd (by omega) (fun _ _ e => e) (fun h' u tk hk => fin hk) h3
          | dict b1 b2 b3 b4 b5 => exact repr_of_reads' (.dict b1 b2 b3 b4 b5) h1 (fun _ => a2) c.room.grd (by omega) (fun _ _ e => e) (fun h' u tk hk => fin hk) h3
      · exact o.elim
    · exact o.elim
  · exact o.elim
end
end PL
/- part PLl -/
set_option maxHeartbeats 4000000
namespace PL
open PySem PySem.Spec PyProof.Rows L2
/-! ### a dict beside a text -/
section
variable {A : Around} {s : Shared}
theorem dict_declines_str (l : Addr) (cs : Value) (dd : Option Addr) (es : Array DictEntry) (ep : Nat) (sl : Array (Option Value)) (b : Str) (u : Tok) :
    Meets (Builtin.«dict.__eq__» ⟨[.ref l, .str b u], []⟩) (fun _ R st => st.heap.get? l = some ⟨cs, dd, .dict es ep, sl⟩ ∧ R (.ok (.ret Value.notImplemented)) st) :=
  .of_wp fun prog w A R st h => by
    obtain ⟨hp1, gn, dr, tks, osx⟩ := st
    obtain ⟨hl, h⟩ := h
    have q1 := F.sub_str_dict
    wp_walk using AutoSeq1.wpAny_loadPart' hl
    all_goals exact ⟨_, rfl, h⟩
theorem str_declines_dict (b : Str) (u : Tok) (l : Addr) (cs : Value) (dd : Option Addr) (es : Array DictEntry) (ep : Nat) (sl : Array (Option Value)) :
    Meets (Builtin.«str.__eq__» ⟨[.str b u, .ref l], []⟩) (fun _ R st => st.heap.get? l = some ⟨cs, dd, .dict es ep, sl⟩ ∧ R (.ok (.ret Value.notImplemented)) st) :=
  .of_wp fun prog w A R st h => by
    obtain ⟨hp1, gn, dr, tks, osx⟩ := st
    obtain ⟨hl, h⟩ := h
    wp_walk using AutoSeq1.wpAny_loadPart' hl
    all_goals exact ⟨_, rfl, h⟩
theorem rc_dict_str {l : Addr} {o : Obj} {es : Array DictEntry} {ep : Nat} (b : Str) (u : Tok) (ho : s.heap.get? l = some o) (hc : o.cls = .type "dict") (hd : o.data = .dict es ep) (hu : A.units < cLine) : SeqAt.RcAt A s (.ref l) (.str b u) false := fun prog w E Q h => by
  obtain ⟨cls, dd, data, sl⟩ := o
  simp only at hc hd
  subst hc hd
  exact SeqAt.rc_eq_decline_or (k := false) ⟨_, ho, rfl⟩ (typeIs_str s b u) (by decide) F.sub_str_dict F.slot_dict_eq F.slot_str_eq_refl
    (fun _ hq => call_meets F.slot_dict_eq ⟨_, ho, rfl⟩ F.entry_dict_eq (F.args_dict_eq_2 _ _) (dict_declines_str l _ dd es ep sl b u) ⟨ho, hq⟩)
    (fun _ hq => call_meets F.slot_str_eq_refl (typeIs_str s b u) F.entry_str_eq (F.args_str_eq_2 _ _) (str_declines_dict b u l _ dd es ep sl) ⟨ho, hq⟩)
    (fun _ hq => wpAny_of_eq (rfl : isSame (.ref l) (.str b u) = pure false) hq) (.inr hu) h
theorem rc_str_dict {l : Addr} {o : Obj} {es : Array DictEntry} {ep : Nat} (b : Str) (u : Tok) (ho : s.heap.get? l = some o) (hc : o.cls = .type "dict") (hd : o.data = .dict es ep) (hu : A.units < cLine) : SeqAt.RcAt A s (.str b u) (.ref l) false := fun prog w E Q h => by
  obtain ⟨cls, dd, data, sl⟩ := o
  simp only at hc hd
  subst hc hd
  exact SeqAt.rc_eq_decline_or (k := false) (typeIs_str s b u) ⟨_, ho, rfl⟩ (by decide) F.sub_dict_str F.slot_str_eq F.slot_dict_eq_refl
    (fun _ hq => call_meets F.slot_str_eq (typeIs_str s b u) F.entry_str_eq (F.args_str_eq_2 _ _) (str_declines_dict b u l _ dd es ep sl) ⟨ho, hq⟩)
    (fun _ hq => call_meets F.slot_dict_eq_refl ⟨_, ho, rfl⟩ F.entry_dict_eq (F.args_dict_eq_2 _ _) (dict_declines_str l _ dd es ep sl b u) ⟨ho, hq⟩)
    (fun _ hq => wpAny_of_eq (rfl : isSame (.str b u) (.ref l) = pure false) hq) (.inr hu) h
end
/-! ### == -/
def eqK (G : Cells) (x y : W) : Option Bool := match x, y with
  | .tup xs, .tup ys => if xs.isEmpty || ys.isEmpty then some (xs.isEmpty && ys.isEmpty) else none
  | .tup _, .str _ => some false
  | .str _, .tup _ => some false
  | .ref n, .str _ => (match G[n]? with | some (.dct _) => some false | some (.lst _) => some false | _ => none)
  | .str _, .ref n => (match G[n]? with | some (.dct _) => some false | some (.lst _) => some false | _ => none)
  | _, _ => none
def eqW (G : Cells) (x y : W) : Option Bool := match dat G 60 x, dat G 60 y with
  | some d, some e => if SeqAt.shaped d && SeqAt.shaped e then some (PyData.eqv d e) else eqK G x y
  | _, _ => eqK G x y
def scW : W → Option V
  | .non => some .non
  | .bl b => some (.bl b)
  | .int i => some (.int i)
  | .str x => some (.str x)
  | _ => none
def eqS (x y : W) : Option Bool := match scW x, scW y with
  | some v, some u => if scal v u = true then some (decide (v = u)) else none
  | _, _ => none
def eqOp : GOp := fun G x y => match eqS x y with
  | some b => .ok (.bl b) G
  | none => (match eqW G x y with | some b => .ok (.bl b) G | none => .no)
def neOp : GOp := fun G x y => match eqS x y with
  | some b => .ok (.bl (!b)) G
  | none => (match dat G 60 x, dat G 60 y with
    | some d, some e => if SeqAt.shaped d && SeqAt.shaped e then .ok (.bl (!PyData.eqv d e)) G else .no
    | _, _ => .no)
section
variable {X : Cx} {XP : Wish} {k : Nat}
theorem eqK_rc {pins : List (Addr × Obj)} {σ : St} {H : Hp} {s : Shared} {ρ : List Addr} {G : Cells} {x y : W} {v u : V} {a b : Value} {r : Bool} (I : Inv X pins σ H s) (sr : SR X.K ρ G H) (hu : X.A.units < cLine)
    (r1 : VR X.K ρ H x v) (r2 : VR X.K ρ H y u) (ra : RelV v a) (rb : RelV u b) (h : eqK G x y = some r) : SeqAt.RcAt X.A s a b r := by
  unfold eqK at h
  split at h
  · cases r1 with
    | tup h1 h2 =>
      cases r2 with
      | tup g1 g2 =>
        cases ra; cases rb
        obtain ⟨its, rv, p, _⟩ := I.tuple (.of h1)
        obtain ⟨its2, rv2, p2, _⟩ := I.tuple (.of g1)
        have l1 := rv.length
        have l2 := h2.length
        have l3 := rv2.length
        have l4 := g2.length
        split at h
        · rename_i hc
          have hm : min its.toArray.size its2.toArray.size = 0 := by
            simp only [Bool.or_eq_true, List.isEmpty_iff] at hc
            simp only [List.size_toArray]
            rcases hc with e | e <;> (subst e; simp only [List.length_nil] at l2 l4; omega)
          have q := SeqAt.RcAt.tuples (A := X.A) (s := s) (e := fun _ => true) p p2 hu fun j h1 h2 => by
            simp only [List.size_toArray] at hm h1 h2
            omega
          have e : r = ((List.range (min its.toArray.size its2.toArray.size)).all (fun _ => true) && its.toArray.size == its2.toArray.size) := by
            rw [hm]
            rw [← Option.some.inj h]
            simp only [List.size_toArray, List.range_zero, List.all_nil, Bool.true_and]
            simp only [List.size_toArray] at hm
            rw [Bool.eq_iff_iff]
            simp only [Bool.and_eq_true, List.isEmpty_iff, beq_iff_eq]
            constructor
            · rintro ⟨rfl, rfl⟩; simp only [List.length_nil] at l2 l4; omega
            · intro he
              exact ⟨List.eq_nil_of_length_eq_zero (by omega), List.eq_nil_of_length_eq_zero (by omega)⟩
          rw [e]; exact q
        · cases h
  · cases h
    cases r1 with
    | tup h1 h2 =>
      cases r2; cases ra
      obtain ⟨t, rfl⟩ := rb
      obtain ⟨its, rv, p, _⟩ := I.tuple (.of h1)
      exact SeqAt.RcAt.tuple_str _ t p hu
  · cases h
    cases r2 with
    | tup h1 h2 =>
      cases r1; cases rb
      obtain ⟨t, rfl⟩ := ra
      obtain ⟨its, rv, p, _⟩ := I.tuple (.of h1)
      exact SeqAt.RcAt.str_tuple _ t p hu
  · cases r1 with
    | ref hn =>
      cases r2; cases ra
      obtain ⟨t, rfl⟩ := rb
      split at h
      · rename_i hc
        cases h
        obtain ⟨q, h1, h2⟩ := cell_dct sr hn hc
        obtain ⟨_, _, _, _, o, es, ep, ho, hex, hdt, _⟩ := I.hok _ _ h1
        exact rc_dict_str _ t ho hex.1 hdt hu
      · rename_i hc
        cases h
        obtain ⟨vs, h1, h2⟩ := cell_lst sr hn hc
        obtain ⟨its, rv, p, _⟩ := I.list (.of h1)
        exact SeqAt.RcAt.list_str _ t p.isList hu
      · cases h
  · cases r2 with
    | ref hn =>
      cases r1; cases rb
      obtain ⟨t, rfl⟩ := ra
      split at h
      · rename_i hc
        cases h
        obtain ⟨q, h1, h2⟩ := cell_dct sr hn hc
        obtain ⟨_, _, _, _, o, es, ep, ho, hex, hdt, _⟩ := I.hok _ _ h1
        exact rc_str_dict _ t ho hex.1 hdt hu
      · rename_i hc
        cases h
        obtain ⟨vs, h1, h2⟩ := cell_lst sr hn hc
        obtain ⟨its, rv, p, _⟩ := I.list (.of h1)
        exact SeqAt.RcAt.str_list _ t p.isList hu
      · cases h
  · cases h
/-- an operation that changes nothing, by what it answers -/
theorem og_of {f : Value → Value → Sem Value} {g : GOp} (h : ∀ (pins : List (Addr × Obj)) (s : Shared) (σ : St) (H : Hp) (ρ : List Addr) (G : Cells) (x y : W) (v u : V) (a b : Value) (Q : VK) (σ' : St), Inv X pins σ H s → SR X.K ρ G H → VR X.K ρ H x v → VR X.K ρ H y u → RelV v a → RelV u b → Out X.K XP (VR X.K) σ' ρ H (g G x y) Q →
    wpAny (model X.prog X.w) X.A (f a b) (EP X pins σ Q) X.xe s) : OpG X XP f g := by
  refine ⟨fun v u H Q => ∃ ρ G σ x y, SR X.K ρ G H ∧ VR X.K ρ H x v ∧ VR X.K ρ H y u ∧ Out X.K XP (VR X.K) σ ρ H (g G x y) Q, fun pins s σ H v u a b Q I ra rb q => ?_, fun ρ G σ H x y v u Q sr r1 r2 o => ⟨ρ, G, σ, x, y, sr, r1, r2, o⟩⟩
  obtain ⟨ρ, G, σ', x, y, sr, r1, r2, o⟩ := q
  exact h pins s σ H ρ G x y v u a b Q σ' I sr r1 r2 ra rb o
theorem scW_vr {ρ : List Addr} {K : Fg} {H : Hp} {x : W} {v u : V} (r : VR K ρ H x v) (h : scW x = some u) : v = u := by
  unfold scW at h
  split at h
  · cases r; exact Option.some.inj h
  · cases r; exact Option.some.inj h
  · cases r; exact Option.some.inj h
  · cases r; exact Option.some.inj h
  · cases h
theorem eqS_sc {ρ : List Addr} {K : Fg} {H : Hp} {x y : W} {v u : V} {b : Bool} (r1 : VR K ρ H x v) (r2 : VR K ρ H y u) (h : eqS x y = some b) : scal v u = true ∧ b = decide (v = u) := by
  unfold eqS at h
  split at h
  · rename_i v1 u1 h1 h2
    obtain rfl := scW_vr r1 h1
    obtain rfl := scW_vr r2 h2
    split at h
    · rename_i hs
      exact ⟨hs, (Option.some.inj h).symm⟩
    · cases h
  · cases h
theorem og_eq (c : GC X XP k) : OpG X XP (compareOp .Eq) eqOp := og_of fun pins s σ H ρ G x y v u a b Q σ' I sr r1 r2 ra rb o => by
  have hu := c.room.room.units
  unfold eqOp at o
  split at o
  · rename_i r hr
    obtain ⟨h1, rfl⟩ := eqS_sc r1 r2 hr
    exact op_eq pins s σ H v u a b Q I ra rb ⟨h1, o.ok sr (.bl _)⟩
  split at o
  · rename_i r hr
    have fin : EP X pins σ Q (.bool r) s := ⟨.bl r, H, I, rfl, o.ok sr (.bl _)⟩
    have viaK : eqK G x y = some r → wpAny (model X.prog X.w) X.A (compareOp .Eq a b) (EP X pins σ Q) X.xe s := fun h => eqK_rc I sr (by omega) r1 r2 ra rb h _ _ _ _ fin
    unfold eqW at hr
    split at hr
    · rename_i d e hd he
      split at hr
      · rename_i hs
        cases hr
        simp only [Bool.and_eq_true] at hs
        obtain ⟨as, a1, _, _⟩ := dat_reads c.sys I sr 60 x v a d r1 ra hd
        obtain ⟨bs, b1, _, _⟩ := dat_reads c.sys I sr 60 y u b e r2 rb he
        exact SeqAt.compareEq_shaped a1 b1 hs.1 hs.2 hu fin
      · exact viaK hr
    · exact viaK hr
  · exact o.elim
theorem og_ne (c : GC X XP k) : OpG X XP (compareOp .NotEq) neOp := og_of fun pins s σ H ρ G x y v u a b Q σ' I sr r1 r2 ra rb o => by
  have hu := c.room.room.units
  unfold neOp at o
  split at o
  · rename_i r hr
    obtain ⟨h1, rfl⟩ := eqS_sc r1 r2 hr
    exact op_ne pins s σ H v u a b Q I ra rb ⟨h1, o.ok sr (.bl _)⟩
  split at o
  · rename_i d e hd he
    split at o
    · rename_i hs
      simp only [Bool.and_eq_true] at hs
      obtain ⟨as, a1, _, _⟩ := dat_reads c.sys I sr 60 x v a d r1 ra hd
      obtain ⟨bs, b1, _, _⟩ := dat_reads c.sys I sr 60 y u b e r2 rb he
      exact SeqAt.compareNe_shaped a1 b1 hs.1 hs.2 hu ⟨.bl _, H, I, rfl, o.ok sr (.bl _)⟩
    · exact o.elim
  · exact o.elim
/-! ### in -/
def itemsD : PyData → Option (List PyData)
  | .list xs => some xs
  | .tuple xs => some xs
  | _ => none
def inW (neg : Bool) : GOp := fun G x y => match dat G 60 x, dat G 60 y with
  | some d, some e => (match itemsD e with
    | some xs => if SeqAt.shaped d && SeqAt.shaped e then .ok (.bl (if neg then !xs.any fun z => PyData.eqv z d else xs.any fun z => PyData.eqv z d)) G else .no
    | none => .no)
  | _, _ => .no
theorem shapedAll {xs : List PyData} {e : PyData} (h : itemsD e = some xs) (hs : SeqAt.shaped e = true) : PyData.canLayAll0 xs = true ∧ PyData.depthAll xs ≤ 63 := by
  have h1 := SeqAt.canLay_of_shaped hs
  have h2 := SeqAt.depth_of_shaped hs
  cases e <;> cases h
  · exact ⟨by simpa [PyData.canLay0] using h1, by simp only [PyData.depth] at h2; omega⟩
  · exact ⟨by simpa [PyData.canLay0] using h1, by simp only [PyData.depth] at h2; omega⟩
theorem in_run (neg : Bool) (c : GC X XP k) : OpG X XP (compareOp (if neg then .NotIn else .In)) (inW neg) := og_of fun pins s σ H ρ G x y v u a b Q σ' I sr r1 r2 ra rb o => by
  have hu := c.room.room.units
  unfold inW at o
  split at o
  · rename_i d e hd he
    split at o
    · rename_i xs hx
      split at o
      · rename_i hs
        simp only [Bool.and_eq_true] at hs
        obtain ⟨as, a1, _, _⟩ := dat_reads c.sys I sr 60 x v a d r1 ra hd
        obtain ⟨bs, b1, _, _⟩ := dat_reads c.sys I sr 60 y u b e r2 rb he
        obtain ⟨h1, h2⟩ := shapedAll hx hs.2
        have h3 := SeqAt.canLay_of_shaped hs.1
        have fin : EP X pins σ Q (.bool (if neg then !xs.any fun z => PyData.eqv z d else xs.any fun z => PyData.eqv z d)) s := ⟨.bl _, H, I, rfl, o.ok sr (.bl _)⟩
        have hr : X.A.units + 1 + min (PyData.depthAll xs) d.depth < cLine := by have := Nat.min_le_left (PyData.depthAll xs) d.depth; omega
        cases e <;> cases hx
        · cases neg
          · exact SeqAt.in_list_reads b1 a1 h1 h3 hr fin
          · exact SeqAt.notIn_list_reads b1 a1 h1 h3 hr fin
        · cases neg
          · exact SeqAt.in_tuple_reads b1 a1 h1 h3 hr fin
          · exact SeqAt.notIn_tuple_reads b1 a1 h1 h3 hr fin
      · exact o.elim
    · exact o.elim
  · exact o.elim
theorem og_in (c : GC X XP k) : OpG X XP (compareOp .In) (inW false) := in_run false c
theorem og_notin (c : GC X XP k) : OpG X XP (compareOp .NotIn) (inW true) := in_run true c

/-! ### len, isinstance, int, str, tuple, list -/
def lenW : GCall := fun G ws => match ws with
  | [.str x] => if x.length ≤ sizeLine then .ok (.int x.length) G else .no
  | [.tup xs] => .ok (.int xs.length) G
  | [.ref n] => (match G[n]? with
    | some (.lst xs) => .ok (.int xs.length) G
    | some (.rol xs) => .ok (.int xs.length) G
    | some (.dct kvs) => .ok (.int kvs.length) G
    | _ => .no)
  | _ => .no
theorem CallR.or {f : Value} {r r' : List V → Hp → VK → Prop} (h : CallR X f r) (h' : CallR X f r') : CallR X f (fun xs H Q => r xs H Q ∨ r' xs H Q) := fun pins s σ H xs us Q I rv q =>
  q.elim (h pins s σ H xs us Q I rv) (h' pins s σ H xs us Q I rv)
theorem cg_len : CaG X XP (.builtin "len") lenW := by
  refine ⟨_, CallR.or call_len call_lenD, fun ρ G σ H ws vs Q s r o => ?_⟩
  unfold lenW at o
  split at o
  · cases r with
    | cons r rr =>
      cases rr; cases r
      split at o
      · rename_i hl; exact .inl ⟨_, _, rfl, ⟨hl, rfl⟩, o.ok s (.int _)⟩
      · exact o.elim
  · cases r with
    | cons r rr =>
      cases rr
      cases r with
      | tup h1 h2 => exact .inl ⟨_, _, rfl, .inr ⟨_, .of h1, h2.length⟩, o.ok s (.int _)⟩
  · cases r with
    | cons r rr =>
      cases rr
      cases r with
      | ref hn =>
        split at o
        · rename_i xs hc
          obtain ⟨vs, h1, h2⟩ := rdL_ok s hn (show rdL G _ = some xs by unfold rdL; rw [hc])
          exact .inl ⟨_, _, rfl, .inl ⟨_, h1, h2.length⟩, o.ok s (.int _)⟩
        · rename_i xs hc
          obtain ⟨vs, h1, h2⟩ := rdL_ok s hn (show rdL G _ = some xs by unfold rdL; rw [hc])
          exact .inl ⟨_, _, rfl, .inl ⟨_, h1, h2.length⟩, o.ok s (.int _)⟩
        · rename_i kvs hc
          obtain ⟨q, h1, h2⟩ := cell_dct s hn hc
          exact .inr ⟨_, _, rfl, h1, by rw [← h2.length]; exact o.ok s (.int _)⟩
        · exact o.elim
  · exact o.elim
def tyN (G : Cells) : W → Option String
  | .non => some "NoneType"
  | .bl _ => some "bool"
  | .int _ => some "int"
  | .str _ => some "str"
  | .tup _ => some "tuple"
  | .ref n => (match G[n]? with
    | some (.lst _) => some "list"
    | some (.rol _) => some "list"
    | some (.dct _) => some "dict"
    | _ => none)
  | .ty _ => none
  | .fn _ => none
theorem tyN_ok {K : Fg} {ρ : List Addr} {G : Cells} {H : Hp} {w : W} {v : V} {t : String} (s : SR K ρ G H) (r : VR K ρ H w v) (h : tyN G w = some t) : TyX K H v (.type t) := by
  cases r with
  | non => cases h; exact .base .non
  | bl b => cases h; exact .base (.bl b)
  | int i => cases h; exact .base (.int i)
  | str x => cases h; exact .base (.str x)
  | ty _ => cases h
  | fn _ => cases h
  | tup h1 h2 =>
    cases h
    exact .base (.tup h1)
  | @ref n a hn =>
    obtain ⟨c, hc⟩ := s.at hn
    simp only [tyN, hc] at h
    have k := s.cell n c a hc hn
    cases c with
    | lst ws => cases h; obtain ⟨vs, q1, _⟩ := k; exact .base (.lst q1)
    | rol ws =>
      cases h
      obtain ⟨vs, q1, _⟩ := k
      rcases q1 with ⟨o, q1⟩ | ⟨o, its, n, q1, q2, _⟩
      · exact .base (.frz q1)
      · exact .kList q1 q2
    | dct kvs => cases h; obtain ⟨vs, q1, _⟩ := k; exact .base (.dK q1)
    | tct kvs => cases h
    | lkd kvs => cases h
def isiB (t T : String) : Bool := t == T || (t == "bool" && T == "int")
def knownTy (T : String) : Bool := T == "int" || T == "bool" || T == "str" || T == "tuple" || T == "list" || T == "dict"
theorem isiB_kit {G : Cells} {w : W} {t T : String} (h : tyN G w = some t) (hT : knownTy T = true) : kitB t T = some (isiB t T) := by
  have ht : t = "NoneType" ∨ t = "bool" ∨ t = "int" ∨ t = "str" ∨ t = "tuple" ∨ t = "list" ∨ t = "dict" := by
    cases w with
    | ref n =>
      simp only [tyN] at h
      split at h <;> first | (cases h; simp; done) | cases h
    | ty _ => cases h
    | fn _ => cases h
    | _ => (cases h; simp)
  simp only [knownTy, Bool.or_eq_true, beq_iff_eq] at hT
  rcases ht with rfl | rfl | rfl | rfl | rfl | rfl | rfl <;> rcases hT with ((((rfl | rfl) | rfl) | rfl) | rfl) | rfl <;> decide +kernel
def isiW : GCall := fun G ws => match ws with
  | [w, .ty T] => (match tyN G w with | some t => if knownTy T = true then .ok (.bl (isiB t T)) G else .no | none => .no)
  | _ => .no
theorem cg_isi : CaG X XP (.builtin "isinstance") isiW := by
  refine ⟨_, call_isi, fun ρ G σ H ws vs Q s r o => ?_⟩
  unfold isiW at o
  split at o
  · cases r with
    | cons r rr =>
      cases rr with
      | cons r' rr =>
        cases rr; cases r'
        split at o
        · rename_i t ht
          split at o
          · rename_i hT
            exact ⟨_, _, _, _, _, rfl, .ty _, tyN_ok s r ht, kit_ty (isiB_kit ht hT), o.ok s (.bl _)⟩
          · exact o.elim
        · exact o.elim
  · exact o.elim
def intW : GCall := fun G ws => match ws with
  | [.int i] => .ok (.int i) G
  | [.bl b] => .ok (.int (if b then 1 else 0)) G
  | _ => .no
theorem cg_int : CaG X XP (.type "int") intW := by
  refine ⟨_, call_int1, fun ρ G σ H ws vs Q s r o => ?_⟩
  unfold intW at o
  split at o
  · cases r with
    | cons r rr => cases rr; cases r; exact .inl ⟨_, rfl, o.ok s (.int _)⟩
  · cases r with
    | cons r rr => cases rr; cases r; exact .inr ⟨_, rfl, o.ok s (.int _)⟩
  · exact o.elim
def strW : GCall := fun G ws => match ws with
  | [.int i] => if i.natAbs.log2 < 1920 then .ok (.str (toString i)) G else .no
  | [.str x] => .ok (.str x) G
  | _ => .no
theorem cg_str : CaG X XP (.type "str") strW := by
  refine ⟨_, CallR.or call_str_int SkE.call_str_str, fun ρ G σ H ws vs Q s r o => ?_⟩
  unfold strW at o
  split at o
  · cases r with
    | cons r rr =>
      cases rr; cases r
      split at o
      · rename_i hl; exact .inl ⟨_, rfl, hl, o.ok s (.str _)⟩
      · exact o.elim
  · cases r with
    | cons r rr => cases rr; cases r; exact .inr ⟨_, rfl, o.ok s (.str _)⟩
  · exact o.elim
def tupleW : GCall := fun G ws => match ws with
  | [.tup xs] => .ok (.tup xs) G
  | [.ref n] => (match rdL G n with | some xs => .ok (.tup xs) G | none => .no)
  | _ => .no
theorem cg_tuple : CaG X XP (.type "tuple") tupleW := by
  refine ⟨_, call_tuple_of, fun ρ G σ H ws vs Q s r o => ?_⟩
  unfold tupleW at o
  split at o
  · cases r with
    | cons r rr =>
      cases rr
      cases r with
      | tup h1 h2 => exact ⟨_, _, rfl, .inr ⟨.of h1, o.ok s (.tup h1 h2)⟩⟩
  · cases r with
    | cons r rr =>
      cases rr
      cases r with
      | ref hn =>
        split at o
        · rename_i xs hx
          obtain ⟨vs, h1, h2⟩ := rdL_ok s hn hx
          exact ⟨_, vs, rfl, .inl ⟨h1, fun l hl => out_tup o s h2 hl⟩⟩
        · exact o.elim
  · exact o.elim
def listW : GCall := fun G ws => match ws with
  | [w] => (match rdS G w with | some xs => .ok (.ref G.length) (G ++ [.lst xs]) | none => .no)
  | _ => .no
theorem cg_list : CaG X XP (.type "list") listW := by
  refine ⟨_, call_list_of, fun ρ G σ H ws vs Q s r o => ?_⟩
  unfold listW at o
  split at o
  · cases r with
    | cons r rr =>
      cases rr
      split at o
      · rename_i xs hx
        obtain ⟨a, vs, rfl, h1, h2⟩ := rdS_ok s r hx
        exact ⟨_, vs, rfl, h1, fun l hl => out_lst o s h2 hl⟩
      · exact o.elim
  · exact o.elim
end
end PL
/- part PLm -/
set_option maxHeartbeats 4000000
namespace PL
open PySem PySem.Spec PyProof.Rows L2
/-! ### the law's end -/
theorem scr_vrs {K : Fg} {ρ : List Addr} {H : Hp} : ∀ ns : List Int, VRs K ρ H (ns.map W.int) (ns.map V.int)
  | [] => .nil
  | n :: ns => .cons (.int n) (scr_vrs ns)
theorem law_run {P : Program} {w : World} {K : Fg} {mg mb : Str → Option Value} {k : Nat} {fa a : Addr} {fd : FuncData} {x : Str} {F : PF} {s₁ : Shared} {vs : List Value} {ns : List Int}
    (KX : K.In s₁.heap) (hns : s₁.heap.Ns mainGlobals mg) (hb : s₁.heap.Ns builtinsNs mb) (hbb : ∀ x : Str, x ≠ "__name__" → mb x = bootBuiltins x) (hlim : s₁.heap.NoLimit) (hg : s₁.gens = #[])
    (ha : s₁.heap.get? a = some { cls := .type "list", data := .seq vs.toArray }) (hi : IntsAre vs ns) (hl : ns.length ≤ sizeLine) (hr : Room k callerA)
    (hsd : SysD s₁.heap) (hF : ∀ base : Heap, K.In base → base.Ns mainGlobals mg → SysD base → FnG P w K mg base k fa fd [x] F) (hbind : ∀ (s : Shared) (u : Value), BindsTo s fd ⟨[u], []⟩ [(x, u)])
    (hlaw : ∃ G, F [.ref 0] [.rol (ns.map W.int)] = .ok (.bl true) G) :
    codeAny (model P w) callerA (.call (.ref fa) ⟨[.ref a], []⟩) (fun r s' => r = .ok (.ret (.bool true)) ∧ OldK s₁.heap s'.heap ∧ s'.os = s₁.os ∧ AllBare s'.gens) s₁ := by
  have rv := vals_ints hi
  have lenV := hi.length
  obtain ⟨Gl, hlaw⟩ := hlaw
  have core : ∀ H : Hp, Only H → ((∃ o, H a = some (.frz o (.lst (ns.map V.int)))) ∨ KList K a (ns.map V.int)) → HOk P w H s₁.heap → (∀ b, H b ≠ none → b = a) → (H a ≠ none → K.lookup a = none) →
      codeAny (model P w) callerA (.call (.ref fa) ⟨[.ref a], []⟩) (fun r s' => r = .ok (.ret (.bool true)) ∧ OldK s₁.heap s'.heap ∧ s'.os = s₁.os ∧ AllBare s'.gens) s₁ := by
    intro H hO hS hok hA hK
    have atA : ∀ {b : Addr} {u : HO}, H b = some u → b = a := fun q => hA _ (by rw [q]; simp)
    have dictFree : ∀ {b : Addr} {o : Obj} {es : Array DictEntry} {ep : Nat}, s₁.heap.get? b = some o → o.data = .dict es ep → H b = none := fun {b o es ep} e d => by
      cases q : H b with
      | none => rfl
      | some u =>
        cases atA q
        rw [ha] at e
        cases e
        exact absurd (show Data.seq vs.toArray _ = Data.dict es ep from d) (fun z => nomatch z)
    have nsIn : ∀ {b : Addr} {m : Str → Option Value}, s₁.heap.Ns b m → (hidT s₁.heap H).Ns b m := fun {b m} ⟨o, es, ep, e, d, r⟩ => ⟨o, es, ep, hidT_get e (dictFree e d), d, r⟩
    have kIn : K.In (hidT s₁.heap H) := fun b o e => hidT_get (KX b o e) (by
      cases q : H b with
      | none => rfl
      | some u =>
        cases atA q
        rw [hK (by rw [q]; simp)] at e
        cases e)
    have md : Mod K mg (hidT s₁.heap H) := ⟨kIn, nsIn hns, ⟨mb, nsIn hb, hbb⟩, let ⟨mc, h1, h2⟩ := hlim; ⟨mc, nsIn h1, h2⟩⟩
    have e0 : Env0 P w K mg (hidT s₁.heap H) callerA [] s₁ H := ⟨rfl, md, fun b o e => of_hidT e, Nat.le_of_eq (hidT_size _ _), trivial, fun b z => absurd (show b ∈ ([] : List Addr) from z) (by simp), hok, .of_eq hg⟩
    have sr : SR K [a] [.rol (ns.map W.int)] H := by
      refine ⟨rfl, fun n c b h1 h2 => ?_, fun n m b c d h1 h2 h3 h4 h5 h6 => ?_⟩
      · cases n with
        | zero => cases h1; cases h2; exact ⟨ns.map V.int, hS, scr_vrs ns⟩
        | succ n => simp at h1
      · cases n with
        | zero => cases h3; cases h4
        | succ n => simp at h3
    have sp : spP K mg F [.ref a] H (fun v _ => v = .bl true) (fun _ _ _ => False) := by
      refine ⟨[a], [.rol (ns.map W.int)], [.ref 0], .cons (.ref rfl) .nil, sr, ?_⟩
      rw [hlaw]
      intro ρ' H' v _ _ r
      cases r
      rfl
    refine codeAny_mono ((hF _ kIn (nsIn hns) (let ⟨o, es, n, g1, g2⟩ := hsd; ⟨o, es, n, hidT_get g1 (dictFree g1 g2), g2⟩)).run callerA [] s₁ H ⟨[.ref a], []⟩ [.ref a] [.ref a] _ _ ⟨hr, rfl⟩ e0 (hbind s₁ (.ref a)) (.cons rfl .nil) sp) fun r s' h => ?_
    cases r with
    | error e =>
      obtain ⟨_, _, _, _, _, _, _, _, _, _, _, _, z⟩ := h
      exact (show False from z).elim
    | ok fl =>
      cases fl with
      | ret u =>
        obtain ⟨v, H', os, bare, un, hok', r', q⟩ := h
        cases (show v = .bl true from q)
        cases (show u = Value.bool true from r')
        refine ⟨rfl, OldK.of_keep fun b o e => ?_, os, bare⟩
        cases q : H b with
        | none => exact un.keep b o e q (by intro z; exact absurd (show b ∈ ([] : List Addr) from z) (by simp)) (by simp)
        | some u =>
          rcases hO b with z | ⟨ob, xs, z⟩
          · rw [q] at z; cases z
          · obtain ⟨e1, _⟩ := hok b _ z
            obtain ⟨e2, _⟩ := hok' b _ (un.frzs b ob _ z)
            rw [e] at e1
            cases e1
            exact e2
      | next => exact h.elim
      | brk => exact h.elim
      | cont => exact h.elim
  cases hk : K.lookup a with
  | some o =>
    have e := KX a o hk
    rw [ha] at e
    cases e
    exact core (fun _ => none) (fun _ => .inl rfl) (.inr ⟨_, vs.toArray, _, hk, rfl, rfl, rfl, by rw [List.size_toArray, lenV]; exact hl, by simpa using rv⟩) (fun b u z => nomatch (show (none : Option HO) = some u from z)) (fun b z => absurd rfl z) fun z => absurd rfl z
  | none =>
    have here : ∀ b, (fun b => if b = a then some (HO.frz { cls := .type "list", data := .seq vs.toArray } (.lst (ns.map V.int))) else none : Hp) b ≠ none → b = a := fun b z => by
      by_cases hb : b = a
      · exact hb
      · exact absurd (if_neg hb) z
    refine core (fun b => if b = a then some (.frz { cls := .type "list", data := .seq vs.toArray } (.lst (ns.map V.int))) else none) (fun b => ?_) (.inl ⟨_, if_pos rfl⟩) (fun b u z => ?_) here fun _ => hk
    · by_cases hb : b = a
      · exact .inr ⟨_, _, if_pos hb⟩
      · exact .inl (if_neg hb)
    · have hb : b = a := here b (by rw [z]; simp)
      subst hb
      cases (if_pos rfl).symm.trans z
      exact ⟨ha, by rw [List.length_map]; exact hl, vs, _, rv, ha⟩
theorem sys_of {h : Heap} (x : h.NoSeer) : SysD h := by
  obtain ⟨mm, ⟨o, es, ep, h1, h2, _⟩, _⟩ := x.mods
  exact ⟨o, es, ep, h1, h2⟩
theorem law_walk {l : PySem.W.OpenLaw} {n k : Nat} {q : Program} {loose : List Str} {XP : (Str → Option Value) → Heap → Prop} {YP : World → Heap → Prop} {d : DefRec} {K : Params → Fg} {x : Str} {F : PF}
    (hn : l.most = some n) (hn2 : n ≤ sizeLine) (hdf : d.params.defaults = []) (himp : importsNone q = true) (hr : Room k callerA) (hY : ∀ (w : World) (h : Heap), YP w h → (K w.params).In h)
    (hF : ∀ (w : World) (mg : Str → Option Value) (fa : Addr) (h : Heap), (K w.params).In h → h.Ns mainGlobals mg → mg d.name = some (.ref fa) →
      ∃ fd : FuncData, (∀ (s : Shared) (u : Value), BindsTo s fd ⟨[u], []⟩ [(x, u)]) ∧ ∀ base : Heap, (K w.params).In base → base.Ns mainGlobals mg → SysD base → FnG l.prog w (K w.params) mg base k fa fd [x] F)
    (hlaw : ∀ ns : List Int, ns.length ≤ n → ∃ G, F [.ref 0] [.rol (ns.map W.int)] = .ok (.bl true) G) :
    PySem.W.WalkO q loose XP YP l.row.toRowW d [] (fun f vs => PySem.call f vs) := by
  refine Att.attach_call hn hdf fun w s₀ s₁ mg mb fa o pm cd doc a vs ns G Y ho hd hcd hmg hobj hints hlen hg => ?_
  obtain ⟨fd, hb, hf⟩ := hF w mg fa _ (hY w _ Y) G.T.g hmg
  exact law_run (hY w _ Y) G.T.g G.T.b G.T.builtins G.T.nolimit hg hobj hints (Nat.le_trans hlen hn2) hr (sys_of (G.T.seer himp)) hf hb (hlaw ns hlen)
end PL
/- part PLn -/
set_option maxHeartbeats 4000000
namespace PL
open PySem PySem.Spec PyProof.Rows L2
section
variable {X : Cx} {XP : Wish} {pos : Pos}
/-- a, b = e, f (two local names) -/
def sPar (i j : Nat) (m : MA) : MS := fun E G => liftS (m E G) E fun ws G1 => match ws with
  | [x, y] => .nx ((E.set i (some x)).set j (some y)) G1
  | _ => .no
theorem hs_par {i j : Nat} {x y : Str} {a b : Expr} {m : MA} {px py pt : Pos} {kt k2 pt2} {k : Nat} (c : GC X XP k) (hi : X.N[i]? = some x) (hj : X.N[j]? = some y) (hij : i ≠ j)
    (hx : X.env.scope.names.lookup x = some .local) (hy : X.env.scope.names.lookup y = some .local) (ha : HA X XP [a, b] m)
    (hw : swappedStores [.Tuple [.Name x px, .Name y py] kt pt] (.Tuple [a, b] k2 pt2) X.env = pure (some [x, y]))
    (hs : swapsWithSole [.Tuple [.Name x px, .Name y py] kt pt] (.Tuple [a, b] k2 pt2) pos.line X.env = pure false := by rfl) :
    HS X XP (.Assign [.Tuple [.Name x px, .Name y py] kt pt] (.Tuple [a, b] k2 pt2) pos) (sPar i j m) := by
  obtain ⟨t, a1, a2⟩ := ha.ex
  refine ⟨_, ps_par c.calm c.nd hi hj hij hx hy a1 hw hs, fun ρ E G σ H D er sr q => a2 ρ E G σ H _ er sr (OutS.lift er q fun ws G1 ρ1 H1 vs e1 s1 r1 k1 => ?_)⟩
  split at k1
  · cases r1 with
    | cons r1 rr =>
      cases rr with
      | cons r2 rr =>
        cases rr
        exact ⟨_, _, rfl, k1 ρ1 H1 _ .refl s1 (((er.mono e1).set r1 i).set r2 j)⟩
  · exact k1.elim
/-- a op b op' c op'' d -/
def mChain3 (g g' g'' : GOp) (ma mb mc md : ME) : ME := fun E G => (ma E G).bind fun x G1 => (mb E G1).bind fun y G2 => (g G2 x y).bind fun z G3 =>
  match z with
  | .bl true => (mc E G3).bind fun w G4 => (g' G4 y w).bind fun z2 G5 => (match z2 with
    | .bl true => (md E G5).bind fun u G6 => g'' G6 w u
    | .bl false => .ok (.bl false) G5
    | _ => .no)
  | .bl false => .ok (.bl false) G3
  | _ => .no
def tChain3 (r r' r'' : R2) (ta tb tc td : TE) : TE := fun σ H Q => ta σ H fun x H1 => tb σ H1 fun y H2 => r x y H2 fun z H3 => ∃ k, z = .bl k ∧
  (if k = true then tc σ H3 fun w H4 => r' y w H4 fun z2 H5 => ∃ k2, z2 = .bl k2 ∧ (if k2 = true then td σ H5 fun u H6 => r'' w u H6 Q else Q (.bl false) H5) else Q (.bl false) H3)
theorem pe_chain3 {o1 o2 o3 : CmpOp} {a b c d : Expr} {r r' r'' : R2} {ta tb tc td : TE} (ho : OpR X (compareOp o1) r) (ho' : OpR X (compareOp o2) r') (ho'' : OpR X (compareOp o3) r'') (ha : PE X a ta) (hb : PE X b tb) (hc : PE X c tc) (hd : PE X d td)
    (hm : lastMarks [o1, o2, o3] [b, c, d] = false) : PE X (.Compare a [o1, o2, o3] [b, c, d] pos) (tChain3 r r' r'' ta tb tc td) := by
  refine ⟨fun pins s σ H Q I h => ?_⟩
  refine Compare_chain (thn (ha.run pins s σ H _ I h) fun v s1 ⟨x, H1, I1, r1, q1⟩ => chain_link (thn (hb.run pins s1 σ H1 _ I1 q1) fun u s2 ⟨y, H2, I2, r2, q2⟩ => thn (ho pins s2 σ H2 x y v u _ I2 r1 r2 q2) fun b3 s3 ⟨z, H3, I3, r3, k, e, q3⟩ => ?_)) hm
  subst e
  cases r3
  refine wpAny_truthy_bool ?_
  cases k with
  | false => exact ite_ff ⟨.bl false, H3, I3, rfl, q3⟩
  | true =>
    refine ite_tt (chain_link (thn (hc.run pins s3 σ H3 _ I3 q3) fun w' s4 ⟨z', H4, I4, r4, q4⟩ => thn (ho' pins s4 σ H4 y z' u w' _ I4 r2 r4 q4) fun b5 s5 ⟨z5, H5, I5, r5, k2, e2, q5⟩ => ?_))
    subst e2
    cases r5
    refine wpAny_truthy_bool ?_
    cases k2 with
    | false => exact ite_ff ⟨.bl false, H5, I5, rfl, q5⟩
    | true => exact ite_tt (chain_last (thn (hd.run pins s5 σ H5 _ I5 q5) fun u6 s6 ⟨z6, H6, I6, r6, q6⟩ => ho'' pins s6 σ H6 z' z6 w' u6 Q I6 r4 r6 q6))
theorem he_chain3 {o1 o2 o3 : CmpOp} {a b c d : Expr} {ma mb mc md : ME} {g g' g'' : GOp} (ho : OpG X XP (compareOp o1) g) (ho' : OpG X XP (compareOp o2) g') (ho'' : OpG X XP (compareOp o3) g'') (ha : HE X XP a ma) (hb : HE X XP b mb) (hc : HE X XP c mc) (hd : HE X XP d md)
    (hm : lastMarks [o1, o2, o3] [b, c, d] = false := by with_unfolding_all rfl) : HE X XP (.Compare a [o1, o2, o3] [b, c, d] pos) (mChain3 g g' g'' ma mb mc md) := by
  obtain ⟨r, h1, h2_⟩ := ho.ex
  obtain ⟨r', h1', h2'⟩ := ho'.ex
  obtain ⟨r'', h1'', h2''⟩ := ho''.ex
  obtain ⟨ta, a1, a2⟩ := ha.ex
  obtain ⟨tb, b1, b2⟩ := hb.ex
  obtain ⟨tc, c1, c2⟩ := hc.ex
  obtain ⟨td, d1, d2⟩ := hd.ex
  refine ⟨_, pe_chain3 h1 h1' h1'' a1 b1 c1 d1 hm, fun ρ E G σ H Q er sr h => ?_⟩
  refine a2 ρ E G σ H _ er sr (h.bind fun x G1 ρ1 H1 v e1 s1 r1 h1 => ?_)
  refine b2 ρ1 E G1 σ H1 _ (er.mono e1) s1 (h1.bind fun y G2 ρ2 H2 u e2 s2 r2 h2 => ?_)
  refine h2_ ρ2 G2 σ H2 x y v u _ s2 (r1.mono e2) r2 (h2.bind fun z G3 ρ3 H3 zv e3 s3 r3 h3 => ?_)
  cases r3 with
  | bl b =>
    cases b with
    | false => exact ⟨false, rfl, by rw [if_neg Bool.false_ne_true]; exact h3.ok s3 (.bl false)⟩
    | true =>
      refine ⟨true, rfl, ?_⟩
      rw [if_pos rfl]
      refine c2 ρ3 E G3 σ H3 _ (er.mono (e1.trans (e2.trans e3))) s3 (h3.bind fun w' G4 ρ4 H4 wv e4 s4 r4 h4 => ?_)
      refine h2' ρ4 G4 σ H4 y w' u wv _ s4 (r2.mono (e3.trans e4)) r4 (h4.bind fun z2 G5 ρ5 H5 z2v e5 s5 r5 h5 => ?_)
      cases r5 with
      | bl b2 =>
        cases b2 with
        | false => exact ⟨false, rfl, by rw [if_neg Bool.false_ne_true]; exact h5.ok s5 (.bl false)⟩
        | true =>
          refine ⟨true, rfl, ?_⟩
          rw [if_pos rfl]
          refine d2 ρ5 E G5 σ H5 _ (er.mono (e1.trans (e2.trans (e3.trans (e4.trans e5))))) s5 (h5.bind fun u' G6 ρ6 H6 uv e6 s6 r6 h6 => ?_)
          exact h2'' ρ6 G6 σ H6 w' u' wv uv Q s6 (r4.mono (e5.trans e6)) r6 h6
      | _ => exact h5.elim
  | _ => exact h3.elim
end

/-! ### defs of the text -/
def OkF (P : Program) (w : World) (K : Fg) (mg : Str → Option Value) (base : Heap) (x : Str) (st : Stmt) (ps : List Str) (k : Nat) (F : PF) : Prop :=
  ∃ (a : Addr) (fd : FuncData), Fun K x x st a fd ∧ mg x = some (.ref a) ∧ PySem.W.keepIn K (.ref a) = true ∧ Binds K fd ps [] ∧ FnG P w K mg base k a fd ps F
theorem fnG_fun {P : Program} {w : World} {K : Fg} {mg : Str → Option Value} {base : Heap} {k : Nat} {f : Addr} {fd : FuncData} {x qual : Str} {st : Stmt} {N ps : List Str} {b : MS} (F : Fun K x qual st f fd) (S : FnScope N ps (defScope st)) (hsys : SysD base)
    (hbody : ∀ (cdv : Value) (A : Around) (outer : List Env) (s : Shared) (H : Hp) (E : XK), GC (cxOf (L2.CX P w) P w K mg base N qual (defScope st) f cdv A outer s H E) (wishOf mg K E) k →
      HB (cxOf (L2.CX P w) P w K mg base N qual (defScope st) f cdv A outer s H E) (wishOf mg K E) (defBody st) b) : FnG P w K mg base (k + 1) f fd ps (mFun ps.length N.length b) := by
  obtain ⟨oc, od, kV, doc, pm, an, cdv, ct, osl, rfl, lk, hcd⟩ := F.ex
  exact fnG_of lk hcd S hsys fun A outer s H E c => hbody cdv A outer s H E c
theorem kwB_of {K : Fg} {x qual : Str} {st : Stmt} {f : Addr} {fd : FuncData} {ps ks : List Str} {np : Nat} {perm : List Nat} (F : Fun K x qual st f fd)
    (h : ∀ (kV doc pm : Value) (an : Option Addr) (cdv ct : Value) (us zs : List Value), us.length = np → zs.length = ks.length → bindArgs (PySem.W.fnOf x qual (defArgs st) (defBody st) (defScope st) .none kV doc pm an cdv ct) ⟨us, ks.zip zs⟩ = pure (ps.zip (pick perm (us ++ zs)))) : KwB K fd ps ks np perm := by
  obtain ⟨oc, od, kV, doc, pm, an, cdv, ct, osl, rfl, lk, hcd⟩ := F.ex
  exact fun s us zs _ h1 h2 => .of_eq (h kV doc pm an cdv ct us zs h1 h2)
theorem fun_same {K : Fg} {x qual : Str} {st : Stmt} {f : Addr} {fd fd' : FuncData} (F : Fun K x qual st f fd) (F' : Fun K x qual st f fd') : fd = fd' := by
  obtain ⟨oc, od, kV, doc, pm, an, cdv, ct, osl, e1, lk, _⟩ := F.ex
  obtain ⟨oc', od', kV', doc', pm', an', cdv', ct', osl', e2, lk', _⟩ := F'.ex
  rw [lk] at lk'
  cases lk'
  rfl
end PL
/- part PLo -/
set_option maxHeartbeats 1000000
namespace PL
open PySem PySem.Spec PyProof.Rows L2
/-! ### what a pure run ends with -/
def Rs.sat {α : Type} (r : Rs α) (Q : α → Cells → Prop) : Prop := match r with | .ok a G => Q a G | _ => False
def So.sat (r : So) (N : PEnv → Cells → Prop) (R : W → Cells → Prop) : Prop := match r with | .nx E G => N E G | .rt w G => R w G | _ => False
section
variable {α β : Type}
@[simp] theorem sat_ok (a : α) (G : Cells) (Q : α → Cells → Prop) : (Rs.ok a G).sat Q = Q a G := rfl
@[simp] theorem sat_no (Q : α → Cells → Prop) : (Rs.no : Rs α).sat Q = False := rfl
theorem sat_bind (r : Rs α) (k : α → Cells → Rs β) (Q : β → Cells → Prop) : (r.bind k).sat Q = r.sat fun a G => (k a G).sat Q := by cases r <;> rfl
theorem Rs.sat.mono {r : Rs α} {P Q : α → Cells → Prop} (h : r.sat P) (k : ∀ a G, P a G → Q a G) : r.sat Q := by
  cases r with
  | ok a G => exact k a G h
  | _ => exact h.elim
theorem Rs.sat.bind {r : Rs α} {f : α → Cells → Rs β} {P : α → Cells → Prop} {Q : β → Cells → Prop} (h : r.sat P) (k : ∀ a G, P a G → (f a G).sat Q) : (r.bind f).sat Q := by
  rw [sat_bind]; exact h.mono k
theorem Rs.sat.get {r : Rs α} {Q : α → Cells → Prop} (h : r.sat Q) : ∃ a G, r = .ok a G ∧ Q a G := by
  cases r with
  | ok a G => exact ⟨a, G, rfl, h⟩
  | _ => exact h.elim
theorem so_lift {r : Rs α} {E : PEnv} {k : α → Cells → So} {N : PEnv → Cells → Prop} {R : W → Cells → Prop} : (liftS r E k).sat N R = r.sat fun a G => (k a G).sat N R := by cases r <;> rfl
theorem So.sat.mono {r : So} {N N' : PEnv → Cells → Prop} {R R' : W → Cells → Prop} (h : r.sat N R) (k : ∀ E G, N E G → N' E G) (k' : ∀ w G, R w G → R' w G) : r.sat N' R' := by
  cases r with
  | nx E G => exact k E G h
  | rt w G => exact k' w G h
  | _ => exact h.elim
theorem so_seq {a b : MS} {E : PEnv} {G : Cells} {N : PEnv → Cells → Prop} {R : W → Cells → Prop} (h : (a E G).sat (fun E1 G1 => (b E1 G1).sat N R) R) : (sSeq a b E G).sat N R := by
  unfold sSeq seqS
  cases hm : a E G <;> rw [hm] at h <;> exact h
theorem so_asg {m : ME} {g : MG} {E : PEnv} {G : Cells} {N : PEnv → Cells → Prop} {R : W → Cells → Prop} (h : (m E G).sat fun w G1 => (g w E G1).sat N) : (sAsg m g E G).sat N R := by
  unfold sAsg; rw [so_lift]; refine h.mono fun a G1 q => ?_; rw [so_lift]; exact q
theorem so_set {m : ME} {i : Nat} {E : PEnv} {G : Cells} {N : PEnv → Cells → Prop} {R : W → Cells → Prop} (h : (m E G).sat fun w G1 => N (E.set i (some w)) G1) : (sAsg m (gSet i) E G).sat N R := so_asg h
theorem so_expr {m : ME} {E : PEnv} {G : Cells} {N : PEnv → Cells → Prop} {R : W → Cells → Prop} (h : (m E G).sat fun _ G1 => N E G1) : (sExpr m E G).sat N R := by
  unfold sExpr; rw [so_lift]; exact h
theorem so_ret {m : ME} {E : PEnv} {G : Cells} {N : PEnv → Cells → Prop} {R : W → Cells → Prop} (h : (m E G).sat R) : (sRet m E G).sat N R := by
  unfold sRet; rw [so_lift]; exact h
theorem so_if {c : MT} {a b : MS} {E : PEnv} {G : Cells} {N : PEnv → Cells → Prop} {R : W → Cells → Prop} (h : (c E G).sat fun k G1 => if k = true then (a E G1).sat N R else (b E G1).sat N R) : (sIf c a b E G).sat N R := by
  unfold sIf; rw [so_lift]; refine h.mono fun k G1 q => ?_
  cases k <;> exact q
theorem so_nx {E : PEnv} {G : Cells} {N : PEnv → Cells → Prop} {R : W → Cells → Prop} (h : N E G) : (sNext E G).sat N R := h
theorem so_par {i j : Nat} {m : MA} {E : PEnv} {G : Cells} {N : PEnv → Cells → Prop} {R : W → Cells → Prop} (h : (m E G).sat fun ws G1 => ∃ x y, ws = [x, y] ∧ N ((E.set i (some x)).set j (some y)) G1) : (sPar i j m E G).sat N R := by
  unfold sPar; rw [so_lift]; refine h.mono fun k G1 q => ?_
  obtain ⟨x, y, rfl, q⟩ := q
  exact q
theorem fun_sat {np nn : Nat} {b : MS} {ws : List W} {G : Cells} {Q : W → Cells → Prop} (hl : ws.length = np) (h : (b (ws.map some ++ List.replicate (nn - np) none) G).sat (fun _ G' => Q .non G') Q) : (mFun np nn b ws G).sat Q := by
  unfold mFun
  rw [if_pos hl]
  cases hm : b (ws.map some ++ List.replicate (nn - np) none) G <;> rw [hm] at h <;> exact h
/-! ### loops -/
theorem forL_sat {pit : PIt} {g : MG} {b : MS} {xs : List W} {I : Nat → PEnv → Cells → Prop} {N : PEnv → Cells → Prop} {R : W → Cells → Prop}
    (hat : ∀ i E G, I i E G → pit.at G i = some xs[i]?)
    (hstep : ∀ i w E G, xs[i]? = some w → I i E G → (g w E G).sat fun E1 G1 => (b E1 G1).sat (I (i + 1)) R)
    (hend : ∀ E G, I xs.length E G → N E G) : ∀ n i E G, I i E G → i + n = xs.length → (forL pit g b n i E G).sat N R := by
  intro n
  induction n with
  | zero =>
    intro i E G h e
    have q := hat i E G h
    have hx : xs[i]? = none := List.getElem?_eq_none_iff.mpr (by omega)
    rw [hx] at q
    unfold forL
    rw [q]
    have : i = xs.length := by omega
    subst this
    exact hend E G h
  | succ n ih =>
    intro i E G h e
    have q := hat i E G h
    have hi : i < xs.length := by omega
    have hx : xs[i]? = some xs[i] := List.getElem?_eq_getElem hi
    rw [hx] at q
    unfold forL
    rw [q]
    simp only
    rw [so_lift]
    refine (hstep i _ E G hx h).mono fun E1 G1 h1 => ?_
    cases hb : b E1 G1 with
    | nx E2 G2 => rw [hb] at h1; exact ih (i + 1) E2 G2 h1 (by omega)
    | rt w G2 => rw [hb] at h1; exact h1
    | _ => rw [hb] at h1; exact h1.elim
theorem so_for {mi : MI} {g : MG} {b : MS} {E : PEnv} {G : Cells} {N : PEnv → Cells → Prop} {R : W → Cells → Prop} (xs : List W) (I : Nat → PEnv → Cells → Prop)
    (h : (mi E G).sat fun pit G1 => pit.len G1 = xs.length ∧ I 0 E G1 ∧ ∀ i E' G', I i E' G' → pit.at G' i = some xs[i]?)
    (hstep : ∀ i w E G, xs[i]? = some w → I i E G → (g w E G).sat fun E1 G1 => (b E1 G1).sat (I (i + 1)) R)
    (hend : ∀ E G, I xs.length E G → N E G) : (sFor mi g b E G).sat N R := by
  unfold sFor; rw [so_lift]
  refine h.mono fun pit G1 q => ?_
  obtain ⟨h1, h2, h3⟩ := q
  rw [h1]
  exact forL_sat h3 hstep hend _ 0 E G1 h2 (by omega)
theorem lcL_sat {pit : PIt} {g : MG} {t : MT} {m : ME} {n : Nat} {E : PEnv} {xs : List W} {J : Nat → List W → Cells → Prop}
    (hat : ∀ i acc G, J i acc G → G[n]? = some (.lst acc) → pit.at G i = some xs[i]?)
    (hstep : ∀ i w acc G, xs[i]? = some w → J i acc G → G[n]? = some (.lst acc) → (g w E G).sat fun E1 G1 => (t E1 G1).sat fun k G2 => if k = true then (m E1 G2).sat fun y G3 => G3[n]? = some (.lst acc) ∧ acc.length < sizeLine ∧ J (i + 1) (acc ++ [y]) (G3.set n (.lst (acc ++ [y]))) else G2[n]? = some (.lst acc) ∧ J (i + 1) acc G2) :
    ∀ k i acc G, J i acc G → G[n]? = some (.lst acc) → i + k = xs.length → ∃ G' acc', lcL pit g t m n E k i G = some G' ∧ G'[n]? = some (.lst acc') ∧ J xs.length acc' G' := by
  intro k
  induction k with
  | zero =>
    intro i acc G h hn e
    have q := hat i acc G h hn
    have hx : xs[i]? = none := List.getElem?_eq_none_iff.mpr (by omega)
    rw [hx] at q
    unfold lcL
    rw [q]
    have : i = xs.length := by omega
    subst this
    exact ⟨G, acc, rfl, hn, h⟩
  | succ k ih =>
    intro i acc G h hn e
    have q := hat i acc G h hn
    have hi : i < xs.length := by omega
    have hx : xs[i]? = some xs[i] := List.getElem?_eq_getElem hi
    rw [hx] at q
    unfold lcL
    rw [q]
    simp only
    obtain ⟨E1, G1, e1, h1⟩ := (hstep i _ acc G hx h hn).get
    rw [e1]
    obtain ⟨b, G2, e2, h2⟩ := h1.get
    simp only [e2]
    cases b with
    | true =>
      rw [if_pos rfl] at h2
      obtain ⟨y, G3, e3, h3, h4, h5⟩ := h2.get
      simp only [e3, h3, if_pos h4]
      exact ih (i + 1) _ _ h5 (by
        have hl : n < G3.length := by
          rcases Nat.lt_or_ge n G3.length with h | h
          · exact h
          · rw [List.getElem?_eq_none_iff.mpr h] at h3; cases h3
        rw [List.getElem?_set]; simp [hl]) (by omega)
    | false =>
      simp only [Bool.false_eq_true, if_false] at h2
      exact ih (i + 1) _ _ h2.2 h2.1 (by omega)
theorem lc_sat {mi : MI} {g : MG} {t : MT} {m : ME} {vs : List Nat} {E : PEnv} {G : Cells} {Q : W → Cells → Prop} (xs : List W) (J : Cells → Nat → List W → Cells → Prop)
    (h : (mi E G).sat fun pit G1 => pit.len G1 = xs.length ∧ J G1 0 [] (G1 ++ [.lst []]) ∧ (∀ i acc G', J G1 i acc G' → G'[G1.length]? = some (.lst acc) → pit.at G' i = some xs[i]?) ∧
      (∀ i w acc G', xs[i]? = some w → J G1 i acc G' → G'[G1.length]? = some (.lst acc) → (g w (wipeE E vs) G').sat fun E1 G2 => (t E1 G2).sat fun k G3 => if k = true then (m E1 G3).sat fun y G4 => G4[G1.length]? = some (.lst acc) ∧ acc.length < sizeLine ∧ J G1 (i + 1) (acc ++ [y]) (G4.set G1.length (.lst (acc ++ [y]))) else G3[G1.length]? = some (.lst acc) ∧ J G1 (i + 1) acc G3) ∧
      (∀ acc G', G'[G1.length]? = some (.lst acc) → J G1 xs.length acc G' → Q (.ref G1.length) G')) : (mLc mi g t m vs E G).sat Q := by
  unfold mLc
  refine h.bind fun pit G1 q => ?_
  obtain ⟨h1, h2, h3, h4, h5⟩ := q
  obtain ⟨G', acc', e1, e2, e3⟩ := lcL_sat h3 h4 (pit.len G1) 0 [] (G1 ++ [.lst []]) h2 (by simp) (by omega)
  rw [e1]
  exact h5 acc' G' e2 e3
end
end PL
/- part PLp -/
set_option maxHeartbeats 1000000
namespace PL
open PySem PySem.Spec PyProof.Rows L2
/-! ### frames -/
def Fr (S : List Nat) (G G' : Cells) : Prop := G.length ≤ G'.length ∧ ∀ n, n < G.length → n ∉ S → G'[n]? = G[n]?
theorem Fr.refl {S : List Nat} {G : Cells} : Fr S G G := ⟨Nat.le_refl _, fun _ _ _ => rfl⟩
theorem Fr.trans {S : List Nat} {G G1 G2 : Cells} (a : Fr S G G1) (b : Fr S G1 G2) : Fr S G G2 := ⟨Nat.le_trans a.1 b.1, fun n h h' => (b.2 n (Nat.lt_of_lt_of_le h a.1) h').trans (a.2 n h h')⟩
theorem Fr.of_nil {S : List Nat} {G G' : Cells} (h : Fr [] G G') : Fr S G G' := ⟨h.1, fun n a _ => h.2 n a (by simp)⟩
theorem Fr.sub {S T : List Nat} {G G' : Cells} (h : Fr S G G') (k : ∀ n ∈ S, n ∈ T) : Fr T G G' := ⟨h.1, fun n a b => h.2 n a fun c => b (k n c)⟩
theorem Fr.push {S : List Nat} {G : Cells} {c : Cell} : Fr S G (G ++ [c]) := ⟨by simp, fun n h _ => List.getElem?_append_left h⟩
theorem Fr.set {S : List Nat} {G : Cells} {n : Nat} {c : Cell} (h : n ∈ S) : Fr S G (G.set n c) := ⟨by simp, fun m _ h' => by rw [List.getElem?_set_ne]; rintro rfl; exact h' h⟩
theorem lt_of_get {G : Cells} {n : Nat} {c : Cell} (h : G[n]? = some c) : n < G.length := by
  rcases Nat.lt_or_ge n G.length with q | q
  · exact q
  · rw [List.getElem?_eq_none_iff.mpr q] at h; cases h
theorem Fr.get {S : List Nat} {G G' : Cells} {n : Nat} {c : Cell} (f : Fr S G G') (h : G[n]? = some c) (hn : n ∉ S) : G'[n]? = some c := (f.2 n (lt_of_get h) hn).trans h
/-- a fresh cell n is written: to the old cells nothing happens -/
theorem Fr.fresh {S : List Nat} {G G1 G2 : Cells} {n : Nat} (a : Fr S G G1) (hn : G.length ≤ n) (b : Fr (n :: S) G1 G2) : Fr S G G2 :=
  ⟨Nat.le_trans a.1 b.1, fun m h h' => (b.2 m (Nat.lt_of_lt_of_le h a.1) (by simp only [List.mem_cons, not_or]; exact ⟨by omega, h'⟩)).trans (a.2 m h h')⟩
/-! ### values that may be shown -/
def smallI (i : Int) : Bool := decide (i.natAbs < 10 ^ 62)
def gv (S : List Nat) (G : Cells) : List Nat → W → Prop
  | [], w => match w with
    | .non => True
    | .bl _ => True
    | .int i => smallI i = true
    | .str x => (reprText x).length ≤ 40 ∧ x.length ≤ 40
    | _ => False
  | n :: ns, w => match w with
    | .non => True
    | .bl _ => True
    | .int i => smallI i = true
    | .str x => (reprText x).length ≤ 40 ∧ x.length ≤ 40
    | .ty _ => False
    | .fn _ => False
    | .tup ws => ws.length ≤ n ∧ ∀ w ∈ ws, gv S G ns w
    | .ref m => m ∉ S ∧ (G[m]? = some (.dct []) ∨ ∃ ws, G[m]? = some (.lst ws) ∧ ws.length ≤ n ∧ ∀ w ∈ ws, gv S G ns w)
theorem gv.mono {S : List Nat} {G G' : Cells} (f : Fr S G G') : ∀ {ns : List Nat} {w : W}, gv S G ns w → gv S G' ns w
  | [], w, h => by cases w <;> exact h
  | n :: ns, w, h => by
    cases w with
    | tup ws => exact ⟨h.1, fun w hw => gv.mono f (h.2 w hw)⟩
    | ref m =>
      obtain ⟨hs, h⟩ := h
      refine ⟨hs, h.elim (fun q => .inl (f.get q hs)) fun ⟨ws, q, h1, h2⟩ => .inr ⟨ws, f.get q hs, h1, fun w hw => gv.mono f (h2 w hw)⟩⟩
    | _ => exact h
theorem gv.int {S : List Nat} {G : Cells} {ns : List Nat} {i : Int} (h : smallI i = true) : gv S G ns (.int i) := by cases ns <;> exact h
theorem gv.int' {S : List Nat} {G : Cells} {ns : List Nat} {i : Int} (h : -1000 ≤ i ∧ i ≤ 1000) : gv S G ns (.int i) := gv.int (by unfold smallI; exact decide_eq_true (by omega))
theorem gv.str {S : List Nat} {G : Cells} {ns : List Nat} {x : Str} (h : (reprText x).length ≤ 40 ∧ x.length ≤ 40) : gv S G ns (.str x) := by cases ns <;> exact h
theorem gv.non {S : List Nat} {G : Cells} {ns : List Nat} : gv S G ns .non := by cases ns <;> trivial
theorem gv.bl {S : List Nat} {G : Cells} {ns : List Nat} {b : Bool} : gv S G ns (.bl b) := by cases ns <;> trivial
theorem gv.int_inv {S : List Nat} {G : Cells} {ns : List Nat} {i : Int} (h : gv S G ns (.int i)) : smallI i = true := by cases ns <;> exact h
/-- more room -/
inductive Les : List Nat → List Nat → Prop
  | nil (ms : List Nat) : Les [] ms
  | cons {n m : Nat} {ns ms : List Nat} : n ≤ m → Les ns ms → Les (n :: ns) (m :: ms)
theorem gv.wide {S : List Nat} {G : Cells} : ∀ {ns ms : List Nat} {w : W}, Les ns ms → gv S G ns w → gv S G ms w
  | _, ms, w, .nil _, h => by cases w <;> cases ms <;> first | exact h | exact h.elim
  | n :: ns, m :: ms, w, .cons a b, h => by
    cases w with
    | tup ws => exact ⟨Nat.le_trans h.1 a, fun w hw => gv.wide b (h.2 w hw)⟩
    | ref m =>
      obtain ⟨hs, h⟩ := h
      exact ⟨hs, h.elim .inl fun ⟨ws, q, h1, h2⟩ => .inr ⟨ws, q, Nat.le_trans h1 a, fun w hw => gv.wide b (h2 w hw)⟩⟩
    | _ => exact h
def Bd : List Nat → Nat
  | [] => 70
  | n :: ns => n * (Bd ns + 2) + 70
theorem small_text {i : Int} (h : i.natAbs < 10 ^ 62) : (Str.ofString (toString i)).length ≤ 63 := by
  cases i with
  | ofNat n => exact Nat.le_trans (toString_length_le (k := 62) (by simp) (by decide) (by simp at h ⊢; omega)) (by decide)
  | negSucc n =>
    have e : toString (Int.negSucc n) = "-" ++ toString (((n + 1 : Nat) : Int)) := rfl
    rw [e, PySem.ofString_length, String.length_append]
    have q := toString_length_le (v := ((n + 1 : Nat) : Int)) (k := 62) (by omega) (by decide) (by simp at h ⊢; omega)
    rw [PySem.ofString_length] at q
    have : ("-" : String).length = 1 := by decide
    omega
theorem smallI_show : ∀ i : Int, smallI i = true → i.natAbs.log2 < 1920 ∧ (Str.ofString (toString i)).length ≤ 63 := by
  intro i h
  have h : i.natAbs < 10 ^ 62 := by unfold smallI at h; simpa using h
  refine ⟨?_, small_text h⟩
  by_cases h0 : i.natAbs = 0
  · rw [h0]; decide
  · have q : i.natAbs < 2 ^ 250 := Nat.lt_of_lt_of_le h (by decide)
    have := (Nat.log2_lt h0).mpr q
    omega
end PL
/- part PLq -/
set_option maxHeartbeats 200000
namespace PL
open PySem PySem.Spec PyProof.Rows L2
theorem str_append_length (a b : Str) : (a ++ b).length = a.length + b.length := by
  show (a.cps ++ b.cps).size = _
  rw [Array.size_append]; rfl
theorem textFrom_length {B : Nat} : ∀ (ts : List Str) (k : Nat) (a : Str), (∀ t ∈ ts, t.length ≤ B) → (textFrom k a ts).length ≤ a.length + ts.length * (B + 2)
  | [], k, a, _ => by rw [textFrom.eq_1]; simp
  | t :: ts, k, a, h => by
    rw [textFrom.eq_2]
    have h1 := textFrom_length ts (k + 1) (a ++ Str.ofString (if k > 0 then ", " else "") ++ t) fun x hx => h x (List.mem_cons_of_mem _ hx)
    have h2 := h t List.mem_cons_self
    have h3 : (Str.ofString (if k > 0 then ", " else "")).length ≤ 2 := by split <;> decide +kernel
    simp only [str_append_length] at h1
    simp only [List.length_cons, Nat.succ_mul, Nat.add_mul, Nat.one_mul]
    omega
theorem join_length {B : Nat} : ∀ (ts : List Str), (∀ t ∈ ts, t.length ≤ B) → ((Str.ofString ", ").join ts).length ≤ ts.length * (B + 2)
  | [], _ => Nat.zero_le _
  | [t], h => by
    have := h t List.mem_cons_self
    show t.length ≤ _
    simp only [List.length_cons, List.length_nil]; omega
  | t :: u :: ts, h => by
    have h1 := join_length (u :: ts) fun x hx => h x (List.mem_cons_of_mem _ hx)
    have h2 := h t List.mem_cons_self
    show (t ++ Str.ofString ", " ++ (Str.ofString ", ").join (u :: ts)).length ≤ _
    have h3 : (Str.ofString ", ").length = 2 := by decide +kernel
    simp only [str_append_length, h3]
    simp only [List.length_cons, Nat.succ_mul, Nat.add_mul, Nat.one_mul] at h1 ⊢
    omega
theorem shownAll_len : ∀ ds : List PyData, (PyData.shownAll ds).length = ds.length
  | [] => rfl
  | d :: ds => by rw [PyData.shownAll.eq_2, List.length_cons, List.length_cons, shownAll_len ds]
theorem shownAll_mem {B : Nat} : ∀ ds : List PyData, (∀ d ∈ ds, d.shown.length ≤ B) → ∀ t ∈ PyData.shownAll ds, t.length ≤ B
  | [], _, t, h => by rw [PyData.shownAll.eq_1] at h; cases h
  | d :: ds, h, t, ht => by
    rw [PyData.shownAll.eq_2] at ht
    rcases List.mem_cons.mp ht with rfl | ht
    · exact h d List.mem_cons_self
    · exact shownAll_mem ds (fun x hx => h x (List.mem_cons_of_mem _ hx)) t ht
theorem list_shown {B n : Nat} {ds : List PyData} (hn : ds.length ≤ n) (h : ∀ d ∈ ds, d.shown.length ≤ B) : (PyData.list ds).shown.length ≤ n * (B + 2) + 44 := by
  rw [PyData.shown.eq_5]
  unfold listText
  rw [str_append_length]
  have := textFrom_length (PyData.shownAll ds) 0 (Str.ofString "[") (shownAll_mem ds h)
  rw [shownAll_len] at this
  have h1 : (Str.ofString "[").length = 1 := by decide +kernel
  have h2 : (Str.ofString "]").length = 1 := by decide +kernel
  have h3 : ds.length * (B + 2) ≤ n * (B + 2) := Nat.mul_le_mul_right _ hn
  omega
theorem tuple_shown {B n : Nat} {ds : List PyData} (hn : ds.length ≤ n) (h : ∀ d ∈ ds, d.shown.length ≤ B) : (PyData.tuple ds).shown.length ≤ n * (B + 2) + 44 := by
  rw [PyData.shown.eq_6]
  unfold tupleText
  rw [str_append_length, str_append_length]
  have := join_length (PyData.shownAll ds) (shownAll_mem ds h)
  rw [shownAll_len] at this
  have h1 : (Str.ofString "(").length = 1 := by decide +kernel
  have h2 : ∀ b : Bool, (Str.ofString (if b = true then ",)" else ")")).length ≤ 2 := by decide +kernel
  have h2 := h2 ((PyData.shownAll ds).length == 1)
  have h3 : ds.length * (B + 2) ≤ n * (B + 2) := Nat.mul_le_mul_right _ hn
  omega
theorem showableAll_of : ∀ {ds : List PyData}, (∀ d ∈ ds, d.showable = true) → PyData.showableAll ds = true
  | [], _ => PyData.showableAll.eq_1
  | d :: ds, h => by
    rw [PyData.showableAll.eq_2, h d List.mem_cons_self, showableAll_of fun x hx => h x (List.mem_cons_of_mem _ hx)]; rfl
theorem mapO_of {α β : Type} {f : α → Option β} {P : β → Prop} : ∀ {xs : List α}, (∀ x ∈ xs, ∃ y, f x = some y ∧ P y) → ∃ ys, mapO f xs = some ys ∧ ys.length = xs.length ∧ ∀ y ∈ ys, P y
  | [], _ => ⟨[], rfl, rfl, by simp⟩
  | x :: xs, h => by
    obtain ⟨y, h1, h2⟩ := h x List.mem_cons_self
    obtain ⟨ys, h3, h4, h5⟩ := mapO_of (xs := xs) fun z hz => h z (List.mem_cons_of_mem _ hz)
    refine ⟨y :: ys, by simp only [mapO, h1, h3], by simp [h4], fun z hz => ?_⟩
    rcases List.mem_cons.mp hz with rfl | hz
    · exact h2
    · exact h5 z hz
theorem Bd_pos : ∀ ns, 70 ≤ Bd ns
  | [] => Nat.le_refl _
  | n :: ns => Nat.le_add_left _ _
theorem sc_dat {S : List Nat} {G : Cells} {ns : List Nat} {w : W} (h : gv S G ns w) (hw : ∀ ws, w ≠ .tup ws) (hr : ∀ n, w ≠ .ref n) (k : Nat) (hk : 0 < k) : ∃ d, dat G k w = some d ∧ d.showable = true ∧ d.shown.length ≤ 70 := by
  obtain ⟨k, rfl⟩ : ∃ j, k = j + 1 := ⟨k - 1, by omega⟩
  cases w with
  | non => exact ⟨_, rfl, rfl, by decide +kernel⟩
  | bl b => exact ⟨_, rfl, rfl, by cases b <;> decide +kernel⟩
  | int i =>
    have := smallI_show i h.int_inv
    exact ⟨_, rfl, by rw [PyData.showable.eq_4]; simpa using this.1, by rw [PyData.shown.eq_3]; omega⟩
  | str x =>
    have h : (reprText x).length ≤ 40 ∧ x.length ≤ 40 := by cases ns <;> exact h
    exact ⟨_, rfl, rfl, by rw [PyData.shown.eq_4]; omega⟩
  | ty s => cases ns <;> exact h.elim
  | fn s => cases ns <;> exact h.elim
  | tup ws => exact (hw ws rfl).elim
  | ref n => exact (hr n rfl).elim
theorem gv_dat {S : List Nat} {G : Cells} : ∀ {ns : List Nat} {w : W}, gv S G ns w → ∀ k, ns.length < k → ∃ d, dat G k w = some d ∧ d.showable = true ∧ d.shown.length ≤ Bd ns
  | [], w, h, k, hk => sc_dat h (by rintro ws rfl; exact h.elim) (by rintro ws rfl; exact h.elim) k hk
  | n :: ns, w, h, k, hk => by
    have hb := Bd_pos (n :: ns)
    simp only [List.length_cons] at hk
    obtain ⟨k, rfl⟩ : ∃ j, k = j + 1 := ⟨k - 1, by omega⟩
    cases w with
    | tup ws =>
      obtain ⟨ds, h1, h2, h3⟩ := mapO_of (f := dat G k) (P := fun d => d.showable = true ∧ d.shown.length ≤ Bd ns) fun w hw => gv_dat (h.2 w hw) k (by omega)
      refine ⟨.tuple ds, by simp only [dat, h1, Option.map_some], ?_, Nat.le_trans (tuple_shown (by rw [h2]; exact h.1) fun d hd => (h3 d hd).2) (by show n * (Bd ns + 2) + 44 ≤ n * (Bd ns + 2) + 70; omega)⟩
      rw [PyData.showable.eq_6]; exact showableAll_of fun d hd => (h3 d hd).1
    | ref m =>
      obtain ⟨hs, h⟩ := h
      rcases h with q | ⟨ws, q, h1, h2⟩
      · refine ⟨.dict [], by simp [dat, q, mapO], by rw [PyData.showable.eq_7]; rfl, ?_⟩
        have : (PyData.dict []).shown.length = 2 := by decide +kernel
        omega
      · obtain ⟨ds, g1, g2, g3⟩ := mapO_of (f := dat G k) (P := fun d => d.showable = true ∧ d.shown.length ≤ Bd ns) fun w hw => gv_dat (h2 w hw) k (by omega)
        refine ⟨.list ds, by simp only [dat, q, g1, Option.map_some], ?_, Nat.le_trans (list_shown (by rw [g2]; exact h1) fun d hd => (g3 d hd).2) (by show n * (Bd ns + 2) + 44 ≤ n * (Bd ns + 2) + 70; omega)⟩
        rw [PyData.showable.eq_5]; exact showableAll_of fun d hd => (g3 d hd).1
    | _ =>
      obtain ⟨d, h1, h2, h3⟩ := sc_dat h (by intros; simp) (by intros; simp) (k + 1) (by omega)
      exact ⟨d, h1, h2, by omega⟩
theorem gv_repr {S : List Nat} {G : Cells} {ns : List Nat} {w : W} (h : gv S G ns w) (hl : ns.length < 60) (hb : Bd ns ≤ sizeLine) : ∃ d, dat G 60 w = some d ∧ reprW G [w] = .ok (.str d.shown) G := by
  obtain ⟨d, h1, h2, h3⟩ := gv_dat h 60 hl
  refine ⟨d, h1, ?_⟩
  have : showOk d = true := by simp only [showOk, h2, Bool.true_and, decide_eq_true_eq]; omega
  simp only [reprW, h1, this, if_true]
/-- the same value later -/
theorem dat_mono {S : List Nat} {G G' : Cells} (f : Fr S G G') : ∀ {ns : List Nat} {w : W}, gv S G ns w → ∀ k, dat G' k w = dat G k w
  | [], w, h, 0 => rfl
  | [], w, h, k + 1 => by cases w <;> first | rfl | exact h.elim
  | n :: ns, w, h, 0 => rfl
  | n :: ns, w, h, k + 1 => by
    have step : ∀ ws : List W, (∀ w ∈ ws, gv S G ns w) → mapO (dat G' k) ws = mapO (dat G k) ws := by
      intro ws
      induction ws with
      | nil => intro _; rfl
      | cons x xs ih => intro hx; simp only [mapO, dat_mono f (hx x List.mem_cons_self) k, ih fun w hw => hx w (List.mem_cons_of_mem _ hw)]
    cases w with
    | tup ws => simp only [dat, step ws h.2]
    | ref m =>
      obtain ⟨hs, h⟩ := h
      rcases h with q | ⟨ws, q, h1, h2⟩
      · simp only [dat, q, f.get q hs, mapO]
      · simp only [dat, q, f.get q hs, step ws h2]
    | _ => rfl
/-! ### == on such values -/
def isStr (w : W) (x : Str) : Bool := match w with | .str y => decide (y = x) | _ => false
theorem eqS_int (i j : Int) : eqS (.int i) (.int j) = some (decide (i = j)) := by
  have : decide (V.int i = V.int j) = decide (i = j) := decide_eq_decide.mpr ⟨fun h => V.int.inj h, fun h => h ▸ rfl⟩
  rw [← this]; rfl
theorem eqS_ss (i j : Str) : eqS (.str i) (.str j) = some (decide (i = j)) := by
  have : decide (V.str i = V.str j) = decide (i = j) := decide_eq_decide.mpr ⟨fun h => V.str.inj h, fun h => h ▸ rfl⟩
  rw [← this]; rfl
theorem eqS_non {w : W} (x : Str) (h : w = .non ∨ (∃ b, w = .bl b) ∨ ∃ i, w = .int i) : eqS w (.str x) = some false := by
  have q : ∀ v : V, v = .non ∨ (∃ b, v = .bl b) ∨ (∃ i, v = .int i) → decide (v = .str x) = false := by
    rintro v (rfl | ⟨b, rfl⟩ | ⟨i, rfl⟩) <;> exact decide_eq_false (fun h => V.noConfusion h)
  rcases h with rfl | ⟨b, rfl⟩ | ⟨i, rfl⟩
  · rw [← q .non (.inl rfl)]; rfl
  · rw [← q (.bl b) (.inr (.inl ⟨b, rfl⟩))]; rfl
  · rw [← q (.int i) (.inr (.inr ⟨i, rfl⟩))]; rfl
theorem eqOp_of {G : Cells} {x y : W} {b : Bool} (h : eqS x y = some b) : eqOp G x y = .ok (.bl b) G := by
  unfold eqOp; rw [h]
theorem neOp_of {G : Cells} {x y : W} {b : Bool} (h : eqS x y = some b) : neOp G x y = .ok (.bl (!b)) G := by
  unfold neOp; rw [h]
theorem eqOp_int {G : Cells} (i j : Int) : eqOp G (.int i) (.int j) = .ok (.bl (decide (i = j))) G := eqOp_of (eqS_int i j)
theorem eqOp_ss {G : Cells} (i j : Str) : eqOp G (.str i) (.str j) = .ok (.bl (decide (i = j))) G := eqOp_of (eqS_ss i j)
theorem neOp_int {G : Cells} (i j : Int) : neOp G (.int i) (.int j) = .ok (.bl (!decide (i = j))) G := neOp_of (eqS_int i j)
theorem neOp_ss {G : Cells} (i j : Str) : neOp G (.str i) (.str j) = .ok (.bl (!decide (i = j))) G := neOp_of (eqS_ss i j)
theorem eqOp_ref {G : Cells} {w : W} {x : Str} (h : eqS w (.str x) = none) (h' : eqW G w (.str x) = some false) : eqOp G w (.str x) = .ok (.bl false) G := by
  unfold eqOp; rw [h, h']
theorem eqW_of {G : Cells} {w : W} {d : PyData} {x : Str} (h : dat G 60 w = some d) (hk : eqK G w (.str x) = some false) (he : PyData.eqv d (.str x) = false) : eqW G w (.str x) = some false := by
  unfold eqW
  have : dat G 60 (.str x) = some (.str x) := rfl
  rw [h, this]
  simp only [he, hk]
  split <;> rfl
theorem eqOp_str {S : List Nat} {G : Cells} {ns : List Nat} {w : W} (h : gv S G ns w) (hl : ns.length < 60) (x : Str) : eqOp G w (.str x) = .ok (.bl (isStr w x)) G := by
  obtain ⟨d, h1, h2, h3⟩ := gv_dat h 60 hl
  cases w with
  | tup ws =>
    have hd : ∃ ds, d = .tuple ds := by
      have h1 : (mapO (dat G 59) ws).map PyData.tuple = some d := h1
      cases hm : mapO (dat G 59) ws with
      | none => rw [hm] at h1; cases h1
      | some ds => rw [hm] at h1; exact ⟨ds, (Option.some.inj h1).symm⟩
    obtain ⟨ds, rfl⟩ := hd
    exact eqOp_ref rfl (eqW_of h1 rfl (PyData.eqv.eq_41 _ _))
  | ref m =>
    cases ns with
    | nil => exact h.elim
    | cons n ns =>
    obtain ⟨hs, h⟩ := h
    rcases h with q | ⟨ws, q, g1, g2⟩
    · have hk : eqK G (.ref m) (.str x) = some false := by unfold eqK; simp only [q]
      have hd : dat G 60 (.ref m) = some (.dict []) := by show (match G[m]? with | some (.lst ws) => _ | some (.rol ws) => _ | some (.dct kvs) => _ | _ => none) = _; rw [q]; rfl
      exact eqOp_ref rfl (eqW_of hd hk (PyData.eqv.eq_47 _ _))
    · have hk : eqK G (.ref m) (.str x) = some false := by unfold eqK; simp only [q]
      have hd : ∃ ds, dat G 60 (.ref m) = some (.list ds) := by
        have e : dat G 60 (.ref m) = (mapO (dat G 59) ws).map PyData.list := by show (match G[m]? with | some (.lst ws) => _ | some (.rol ws) => _ | some (.dct kvs) => _ | _ => none) = _; rw [q]
        rw [e] at h1 ⊢
        cases hm : mapO (dat G 59) ws with
        | none => rw [hm] at h1; cases h1
        | some ds => exact ⟨ds, rfl⟩
      obtain ⟨ds, hd⟩ := hd
      exact eqOp_ref rfl (eqW_of hd hk (PyData.eqv.eq_35 _ _))
  | str y => exact eqOp_ss y x
  | ty s => cases ns <;> exact h.elim
  | fn s => cases ns <;> exact h.elim
  | non => exact eqOp_of (eqS_non x (.inl rfl))
  | bl b => exact eqOp_of (eqS_non x (.inr (.inl ⟨b, rfl⟩)))
  | int i => exact eqOp_of (eqS_non x (.inr (.inr ⟨i, rfl⟩)))
end PL
/- part PLr -/
set_option maxHeartbeats 400000
namespace PL
open PySem PySem.Spec PyProof.Rows L2
/-! ### what an expression's run ends with, by its parts -/
section
variable {E : PEnv} {G : Cells} {Q : W → Cells → Prop} {QB : Bool → Cells → Prop} {QL : List W → Cells → Prop} {QI : PIt → Cells → Prop}
theorem s_var (i : Nat) : (mVar i E G).sat Q = ∃ w, E[i]? = some (some w) ∧ Q w G := by
  unfold mVar
  cases h : E[i]? with
  | none => simp
  | some o => cases o <;> simp
theorem s_c (w : W) : (mC w E G).sat Q = Q w G := rfl
theorem s_bin (g : GOp) (a b : ME) : (mBin g a b E G).sat Q = (a E G).sat fun x G1 => (b E G1).sat fun y G2 => (g G2 x y).sat Q := by
  unfold mBin; rw [sat_bind]; congr; funext x G1; rw [sat_bind]
theorem s_test (m : ME) : (mTest m E G).sat QB = (m E G).sat fun w G1 => ∃ b, w = .bl b ∧ QB b G1 := by
  unfold mTest; rw [sat_bind]; congr; funext x G1; cases x <;> simp
theorem s_tru (m : ME) : (mTru m E G).sat QB = (m E G).sat fun w G1 => ∃ b, truW G1 w = some b ∧ QB b G1 := by
  unfold mTru; rw [sat_bind]; congr; funext x G1; cases truW G1 x <;> simp
theorem s_notT (m : MT) : (mNotT m E G).sat QB = (m E G).sat fun b G1 => QB (!b) G1 := by
  unfold mNotT; rw [sat_bind]; rfl
theorem s_andT (a b : MT) : (mAndT a b E G).sat QB = (a E G).sat fun k G1 => if k = true then (b E G1).sat QB else QB false G1 := by
  unfold mAndT; rw [sat_bind]; congr; funext x G1; cases x <;> simp
theorem s_orT (a b : MT) : (mOrT a b E G).sat QB = (a E G).sat fun k G1 => if k = true then QB true G1 else (b E G1).sat QB := by
  unfold mOrT; rw [sat_bind]; congr; funext x G1; cases x <;> simp
theorem s_and (a b : ME) : (mAnd a b E G).sat Q = (a E G).sat fun w G1 => ∃ k, truW G1 w = some k ∧ if k = true then (b E G1).sat Q else Q w G1 := by
  unfold mAnd; rw [sat_bind]; congr; funext x G1; cases truW G1 x with
  | none => simp
  | some k => cases k <;> simp
theorem s_or (a b : ME) : (mOr a b E G).sat Q = (a E G).sat fun w G1 => ∃ k, truW G1 w = some k ∧ if k = true then Q w G1 else (b E G1).sat Q := by
  unfold mOr; rw [sat_bind]; congr; funext x G1; cases truW G1 x with
  | none => simp
  | some k => cases k <;> simp
theorem s_not (a : ME) : (mNot a E G).sat Q = (a E G).sat fun w G1 => ∃ k, truW G1 w = some k ∧ Q (.bl (!k)) G1 := by
  unfold mNot; rw [sat_bind]; congr; funext x G1; cases truW G1 x <;> simp
theorem s_if (t : MT) (a b : ME) : (mIf t a b E G).sat Q = (t E G).sat fun k G1 => if k = true then (a E G1).sat Q else (b E G1).sat Q := by
  unfold mIf; rw [sat_bind]; congr; funext x G1; cases x <;> simp
theorem s_neg (a : ME) : (mNeg a E G).sat Q = (a E G).sat fun w G1 => ∃ i, w = .int i ∧ Q (.int (-i)) G1 := by
  unfold mNeg; rw [sat_bind]; congr; funext x G1; cases x <;> simp
theorem s_nil : (mNil E G).sat QL = QL [] G := rfl
theorem s_cons (a : ME) (r : MA) : (mCons a r E G).sat QL = (a E G).sat fun w G1 => (r E G1).sat fun ws G2 => QL (w :: ws) G2 := by
  unfold mCons; rw [sat_bind]; congr; funext x G1; rw [sat_bind]; rfl
theorem s_tup (m : MA) : (mTup m E G).sat Q = (m E G).sat fun ws G1 => ws.length ≤ sizeLine ∧ Q (.tup ws) G1 := by
  unfold mTup; rw [sat_bind]; congr; funext x G1; by_cases h : x.length ≤ sizeLine <;> simp [h]
theorem s_lst (m : MA) : (mLst m E G).sat Q = (m E G).sat fun ws G1 => ws.length ≤ sizeLine ∧ Q (.ref G1.length) (G1 ++ [.lst ws]) := by
  unfold mLst; rw [sat_bind]; congr; funext x G1; by_cases h : x.length ≤ sizeLine <;> simp [h]
theorem s_call (g : GCall) (m : MA) : (mCall g m E G).sat Q = (m E G).sat fun ws G1 => (g G1 ws).sat Q := by unfold mCall; rw [sat_bind]
theorem s_def (F : PF) (m : MA) : (mDef F m E G).sat Q = (m E G).sat fun ws G1 => (F ws G1).sat Q := by unfold mDef; rw [sat_bind]
theorem s_meth (T : String) (g : Cells → W → List W → Rs W) (o : ME) (m : MA) : (mMeth T g o m E G).sat Q = (o E G).sat fun w G1 => isTy T G1 w = true ∧ (m E G1).sat fun ws G2 => (g G2 w ws).sat Q := by
  unfold mMeth; rw [sat_bind]; congr; funext x G1; by_cases h : isTy T G1 x = true <;> simp [h, sat_bind]
theorem s_chain (g g' : GOp) (a b c : ME) : (mChain g g' a b c E G).sat Q = (a E G).sat fun x G1 => (b E G1).sat fun y G2 => (g G2 x y).sat fun z G3 => ∃ k, z = .bl k ∧ if k = true then (c E G3).sat fun u G4 => (g' G4 y u).sat Q else Q (.bl false) G3 := by
  unfold mChain; rw [sat_bind]; congr; funext x G1; rw [sat_bind]; congr; funext y G2; rw [sat_bind]; congr; funext z G3; cases z <;> simp
  rename_i k
  cases k <;> simp [sat_bind]
theorem s_chain3 (g g' g'' : GOp) (a b c d : ME) : (mChain3 g g' g'' a b c d E G).sat Q = (a E G).sat fun x G1 => (b E G1).sat fun y G2 => (g G2 x y).sat fun z G3 => ∃ k, z = .bl k ∧ if k = true then ((c E G3).sat fun u G4 => (g' G4 y u).sat fun z2 G5 => ∃ k2, z2 = .bl k2 ∧ if k2 = true then (d E G5).sat fun v G6 => (g'' G6 u v).sat Q else Q (.bl false) G5) else Q (.bl false) G3 := by
  have q : ∀ z2 : W, ∀ G5 : Cells, ∀ u : W, (match z2 with | .bl true => (d E G5).bind fun v G6 => g'' G6 u v | .bl false => .ok (.bl false) G5 | _ => .no : Rs W).sat Q = ∃ k2, z2 = .bl k2 ∧ if k2 = true then (d E G5).sat fun v G6 => (g'' G6 u v).sat Q else Q (.bl false) G5 := by
    intro z2 G5 u
    cases z2 <;> simp
    rename_i k2
    cases k2 <;> simp [sat_bind]
  unfold mChain3; rw [sat_bind]; congr; funext x G1; rw [sat_bind]; congr; funext y G2; rw [sat_bind]; congr; funext z G3
  cases z with
  | bl k =>
    cases k
    · simp
    · simp only [W.bl.injEq, exists_eq_left', if_true]
      rw [sat_bind]; congr; funext u G4; rw [sat_bind]; congr; funext z2 G5; exact q z2 G5 u
  | _ => simp
theorem s_cut (a : ME) (l u : MO) : (mCut a l u E G).sat Q = (a E G).sat fun x G1 => (l E G1).sat fun lo G2 => (u E G2).sat fun hi G3 => (cutOp G3 x lo hi).sat Q := by
  unfold mCut; rw [sat_bind]; congr; funext x G1; rw [sat_bind]; congr; funext y G2; rw [sat_bind]
theorem s_nopart {QO : Option Int → Cells → Prop} : (mNoPart E G).sat QO = QO none G := rfl
theorem s_part {QO : Option Int → Cells → Prop} (m : ME) : (mPart m E G).sat QO = (m E G).sat fun w G1 => ∃ i, w = .int i ∧ QO (some i) G1 := by
  unfold mPart; rw [sat_bind]; congr; funext x G1; cases x <;> simp
theorem s_seq (m : ME) : (mSeq m E G).sat QI = (m E G).sat fun w G1 => (itSeq w G1).sat QI := by unfold mSeq; rw [sat_bind]
theorem s_rng1 (m : ME) : (mRng1 (mCons m mNil) E G).sat QI = (m E G).sat fun w G1 => ∃ j, w = .int j ∧ rngOk j = true ∧ QI (.rng 0 j.toNat) G1 := by
  unfold mRng1; rw [sat_bind, s_cons]; congr; funext x G1; rw [s_nil]; cases x <;> simp
  rename_i i
  by_cases h : rngOk i = true <;> simp [h]
theorem s_enum (m : ME) : (mEnum (mCons m mNil) E G).sat QI = (m E G).sat fun w G1 => (∃ n, w = .ref n ∧ (rdL G1 n).isSome = true ∧ QI (.enL n) G1) ∨ ∃ us, w = .tup us ∧ QI (.enT us) G1 := by
  unfold mEnum; rw [sat_bind, s_cons]; congr; funext x G1; rw [s_nil]; cases x <;> simp
  rename_i i
  cases h : rdL G1 i <;> simp [h]
end
end PL
/- part PLs -/
set_option maxHeartbeats 1000000
namespace PL
open PySem PySem.Spec PyProof.Rows L2
section
variable {X : Cx} {XP : Wish} {pos : Pos} {k : Nat}
/-! ### insert, max, min, abs, sum, a list turned round -/
def insertW : Cells → W → List W → Rs W := fun G w ws => match w, ws with
  | .ref n, [.int i, y] => (match G[n]? with | some (.lst xs) => if xs.length < sizeLine ∧ 0 ≤ i ∧ i < 2 ^ 63 then .ok .non (G.set n (.lst (xs.take i.toNat ++ [y] ++ xs.drop i.toNat))) else .no | _ => .no)
  | _, _ => .no
theorem mg_insert : MtG X XP "list" "list.insert" insertW := by
  refine ⟨_, mt_insert, fun ρ G σ H w v ws vs Q s r rs h => ?_⟩
  unfold insertW at h
  split at h
  · rename_i n0 i0 y0
    cases r with
    | ref hn =>
      cases rs with
      | cons r0 rs =>
        cases r0
        cases rs with
        | @cons y yv _ _ r1 r2 =>
          cases r2
          split at h
          · rename_i xs hc
            split at h
            · rename_i hz
              obtain ⟨us, q1, q2⟩ := cell_lst s hn hc
              have ex : Ext X.K ρ H ρ (upd H _ (.lst (us.take i0.toNat ++ [yv] ++ us.drop i0.toNat))) := s.ext_write hc hn rfl
              exact ⟨_, us, _, _, rfl, rfl, q1, by rw [← q2.length]; exact hz.1, hz.2.1, hz.2.2, h ρ _ _ ex (s.write (c' := .lst (xs.take i0.toNat ++ [y0] ++ xs.drop i0.toNat)) hc hn rfl rfl ⟨_, upd_same, (((q2.mono ex).take _).append (.cons (r1.mono ex) .nil)).append ((q2.mono ex).drop _)⟩) .non⟩
            · exact h.elim
          · exact h.elim
  · exact h.elim
def absW : GCall := fun G ws => match ws with
  | [.int i] => .ok (.int (if i < 0 then -i else i)) G
  | _ => .no
theorem cg_abs : CaG X XP (.builtin "abs") absW := by
  refine ⟨_, call_abs, fun ρ G σ H ws vs Q s r o => ?_⟩
  unfold absW at o
  split at o
  · cases r with
    | cons r rr => cases rr; cases r; exact ⟨_, rfl, o.ok s (.int _)⟩
  · exact o.elim
/-- ints, all of them -/
def intsW : List W → Option (List Int)
  | [] => some []
  | .int i :: ws => (intsW ws).map (i :: ·)
  | _ => none
theorem intsW_ok {K : Fg} {ρ : List Addr} {H : Hp} : ∀ {ws : List W} {vs : List V} {is : List Int}, VRs K ρ H ws vs → intsW ws = some is → vs = is.map V.int := by
  intro ws
  induction ws with
  | nil => intro vs is r h; cases r; cases h; rfl
  | cons w ws ih =>
    intro vs is r h
    cases r with
    | cons r1 r2 =>
      cases w with
      | int i =>
        simp only [intsW] at h
        cases hm : intsW ws with
        | none => rw [hm] at h; cases h
        | some js => rw [hm] at h; cases h; cases r1; rw [ih r2 hm]; rfl
      | _ => cases h
def sumW : GCall := fun G ws => match ws with
  | [.ref n] => (match rdL G n with | some xs => (match intsW xs with | some is => .ok (.int is.sum) G | none => .no) | none => .no)
  | _ => .no
theorem cg_sum (c : GC X XP k) : CaG X XP (.builtin "sum") sumW := by
  refine ⟨_, cr_sum c.calm, fun ρ G σ H ws vs Q s r o => ?_⟩
  unfold sumW at o
  split at o
  · cases r with
    | cons r rr =>
      cases rr
      cases r with
      | ref hn =>
        split at o
        · rename_i xs hx
          split at o
          · rename_i is hi
            obtain ⟨us, q1, q2⟩ := rdL_ok s hn hx
            exact ⟨_, is, rfl, by rw [← intsW_ok q2 hi]; exact q1, o.ok s (.int _)⟩
          · exact o.elim
        · exact o.elim
  · exact o.elim
def maxW : GCall := fun G ws => match ws with
  | [.int i, .int j] => .ok (.int (if j > i then j else i)) G
  | [.ref n] => (match rdL G n with | some xs => (match intsW xs with | some (i :: is) => .ok (.int (is.foldl max i)) G | _ => .no) | none => .no)
  | _ => .no
def minW : GCall := fun G ws => match ws with
  | [.int i, .int j] => .ok (.int (if j < i then j else i)) G
  | [.ref n] => (match rdL G n with | some xs => (match intsW xs with | some (i :: is) => .ok (.int (is.foldl min i)) G | _ => .no) | none => .no)
  | _ => .no
theorem foldl_max_is : ∀ (is : List Int) (i m : Int), m ∈ i :: is → (∀ y, y ∈ i :: is → y ≤ m) → m = is.foldl max i := by
  intro is
  induction is with
  | nil => intro i m h _; exact List.mem_singleton.mp h
  | cons j is ih =>
    intro i m h hm
    refine ih (max i j) m ?_ fun y hy => ?_
    · have h1 := hm i (by simp)
      have h2 := hm j (by simp)
      rcases List.mem_cons.mp h with rfl | h
      · exact List.mem_cons.mpr (.inl (by omega))
      · rcases List.mem_cons.mp h with rfl | h
        · exact List.mem_cons.mpr (.inl (by omega))
        · exact List.mem_cons_of_mem _ h
    · rcases List.mem_cons.mp hy with rfl | hy
      · have h1 := hm i (by simp)
        have h2 := hm j (by simp)
        omega
      · exact hm y (by simp [hy])
theorem foldl_min_is : ∀ (is : List Int) (i m : Int), m ∈ i :: is → (∀ y, y ∈ i :: is → m ≤ y) → m = is.foldl min i := by
  intro is
  induction is with
  | nil => intro i m h _; exact List.mem_singleton.mp h
  | cons j is ih =>
    intro i m h hm
    refine ih (min i j) m ?_ fun y hy => ?_
    · have h1 := hm i (by simp)
      have h2 := hm j (by simp)
      rcases List.mem_cons.mp h with rfl | h
      · exact List.mem_cons.mpr (.inl (by omega))
      · rcases List.mem_cons.mp h with rfl | h
        · exact List.mem_cons.mpr (.inl (by omega))
        · exact List.mem_cons_of_mem _ h
    · rcases List.mem_cons.mp hy with rfl | hy
      · have h1 := hm i (by simp)
        have h2 := hm j (by simp)
        omega
      · exact hm y (by simp [hy])
theorem cg_max (c : GC X XP k) : CaG X XP (.builtin "max") maxW := by
  refine ⟨_, CallR.or (call_max2 c.calm) (cr_max c.calm), fun ρ G σ H ws vs Q s r o => ?_⟩
  unfold maxW at o
  split at o
  · cases r with
    | cons r rr =>
      cases rr with
      | cons r' rr => cases rr; cases r; cases r'; exact .inl ⟨_, _, rfl, o.ok s (.int _)⟩
  · cases r with
    | cons r rr =>
      cases rr
      cases r with
      | ref hn =>
        split at o
        · rename_i xs hx
          split at o
          · rename_i i is hi
            obtain ⟨us, q1, q2⟩ := rdL_ok s hn hx
            exact .inr ⟨_, i :: is, rfl, by rw [← intsW_ok q2 hi]; exact q1, by simp, fun m h1 h2 => by rw [foldl_max_is is i m h1 h2]; exact o.ok s (.int _)⟩
          · exact o.elim
        · exact o.elim
  · exact o.elim
theorem cg_min (c : GC X XP k) : CaG X XP (.builtin "min") minW := by
  refine ⟨_, CallR.or (call_min2 c.calm) (cr_min c.calm), fun ρ G σ H ws vs Q s r o => ?_⟩
  unfold minW at o
  split at o
  · cases r with
    | cons r rr =>
      cases rr with
      | cons r' rr => cases rr; cases r; cases r'; exact .inl ⟨_, _, rfl, o.ok s (.int _)⟩
  · cases r with
    | cons r rr =>
      cases rr
      cases r with
      | ref hn =>
        split at o
        · rename_i xs hx
          split at o
          · rename_i i is hi
            obtain ⟨us, q1, q2⟩ := rdL_ok s hn hx
            exact .inr ⟨_, i :: is, rfl, by rw [← intsW_ok q2 hi]; exact q1, by simp, fun m h1 h2 => by rw [foldl_min_is is i m h1 h2]; exact o.ok s (.int _)⟩
          · exact o.elim
        · exact o.elim
  · exact o.elim
def mRevL (m : ME) : ME := fun E G => (m E G).bind fun w G' => match w with
  | .ref n => (match rdL G' n with | some xs => .ok (.ref G'.length) (G' ++ [.lst xs.reverse]) | none => .no)
  | _ => .no
theorem he_revL {e : Expr} {m : ME} {kk : Nat} {p1 p2 p3 : Pos} (h : HE X XP e m) : HE X XP (.Subscript e (.Slice none none (some (.UnaryOp .USub (.Constant (.int 1) kk p1) p2)) p3) pos) (mRevL m) := by
  obtain ⟨t, a1, a2⟩ := h.ex
  refine ⟨_, pe_revL a1, fun ρ E G σ H Q er sr q => a2 ρ E G σ H _ er sr (q.bind fun w G1 ρ1 H1 v e1 s1 r1 k1 => ?_)⟩
  split at k1
  · rename_i n
    split at k1
    · rename_i xs hx
      cases r1 with
      | ref hn =>
        obtain ⟨us, q1, q2⟩ := rdL_ok s1 hn hx
        exact ⟨_, us, rfl, q1, fun p hp => out_lst k1 s1 q2.reverse hp⟩
    · exact k1.elim
  · exact k1.elim
end
end PL
/- part PLu -/
set_option maxHeartbeats 1000000
namespace PL
open PySem PySem.Spec PyProof.Rows L2
section
variable {X : Cx} {XP : Wish} {pos : Pos} {k : Nat}
/-! ### tuple(range(..)) -/
def rgW (a b : Int) : List W := (List.range (b - a).toNat).map fun i => W.int (a + (i : Nat))
theorem rg_vrs {K : Fg} {ρ : List Addr} {H : Hp} (a b : Int) : VRs K ρ H (rgW a b) (rgV a b) := by
  unfold rgW rgV
  generalize List.range (b - a).toNat = l
  induction l with
  | nil => exact .nil
  | cons x xs ih => exact .cons (.int _) ih
def rgB (a b : Int) : Bool := decide (-1000000 ≤ a) && decide (a ≤ 1000000) && decide (-1000000 ≤ b) && decide (b ≤ 1000000)
theorem rgB_ok {a b : Int} (h : rgB a b = true) : RgOk a b := by
  unfold rgB at h
  simp only [Bool.and_eq_true, decide_eq_true_eq] at h
  exact ⟨by omega, by omega, by omega, by omega, by omega⟩
def mTupR1 (m : ME) : ME := fun E G => (m E G).bind fun w G1 => match w with | .int j => if rgB 0 j = true then .ok (.tup (rgW 0 j)) G1 else .no | _ => .no
def mTupR2 (m m' : ME) : ME := fun E G => (m E G).bind fun w G1 => (m' E G1).bind fun u G2 => match w, u with | .int i, .int j => if rgB i j = true then .ok (.tup (rgW i j)) G2 else .no | _, _ => .no
theorem out_tup2 {Q : VK} {σ : St} {ρ : List Addr} {H : Hp} {G : Cells} {ws : List W} {vs : List V} {p : Addr} (h : Out X.K XP (VR X.K) σ ρ H (.ok (.tup ws) G) Q) (s : SR X.K ρ G H) (r : VRs X.K ρ H ws vs) (hp : H p = none) : Q (.ref p) (upd H p (.tup vs)) := out_tup h s r hp
theorem he_tupR1 {a : Expr} {m : ME} {p p2 pos2 : Pos} (c : GC X XP k) (hg : Gl X "tuple") (hm : X.mg "tuple" = none) (hg2 : Gl X "range") (hm2 : X.mg "range" = none) (ha : HE X XP a m)
    (na : starEach [Expr.Call (.Name "range" p2) [a] [] pos2] X.env = (false, eval (Expr.Call (.Name "range" p2) [a] [] pos2) X.env) :: starEach [] X.env := by rfl)
    (na2 : starEach [a] X.env = (false, eval a X.env) :: starEach [] X.env := by rfl) : HE X XP (.Call (.Name "tuple" p) [.Call (.Name "range" p2) [a] [] pos2] [] pos) (mTupR1 m) := by
  obtain ⟨t, h1, h2⟩ := ha.ex
  refine ⟨_, pe_tupRg c.calm hg hm (prg_1 hg2 hm2 h1 na2) na, fun ρ E G σ H Q er sr q => h2 ρ E G σ H _ er sr (q.bind fun w G1 ρ1 H1 v e1 s1 r1 k1 => ?_)⟩
  split at k1
  · split at k1
    · rename_i j hj
      cases r1
      exact ⟨_, rfl, rgB_ok hj, fun p hp => out_tup k1 s1 (rg_vrs 0 _) hp⟩
    · exact k1.elim
  · exact k1.elim
theorem he_tupR2 {a b : Expr} {m m' : ME} {p p2 pos2 : Pos} (c : GC X XP k) (hg : Gl X "tuple") (hm : X.mg "tuple" = none) (hg2 : Gl X "range") (hm2 : X.mg "range" = none) (ha : HE X XP a m) (hb : HE X XP b m')
    (na : starEach [Expr.Call (.Name "range" p2) [a, b] [] pos2] X.env = (false, eval (Expr.Call (.Name "range" p2) [a, b] [] pos2) X.env) :: starEach [] X.env := by rfl)
    (na2 : starEach [a, b] X.env = (false, eval a X.env) :: starEach [b] X.env := by rfl) (nb : starEach [b] X.env = (false, eval b X.env) :: starEach [] X.env := by rfl) (hp : (backTo pos2 (starEach [b] X.env)).any (·.1) = false := by rfl) :
    HE X XP (.Call (.Name "tuple" p) [.Call (.Name "range" p2) [a, b] [] pos2] [] pos) (mTupR2 m m') := by
  obtain ⟨t, h1, h2⟩ := ha.ex
  obtain ⟨u, b1, b2⟩ := hb.ex
  refine ⟨_, pe_tupRg c.calm hg hm (prg_2 hg2 hm2 h1 b1 na2 nb hp) na, fun ρ E G σ H Q er sr q => h2 ρ E G σ H _ er sr (q.bind fun w G1 ρ1 H1 v e1 s1 r1 k1 => ?_)⟩
  refine b2 ρ1 E G1 σ H1 _ (er.mono e1) s1 (k1.bind fun y G2 ρ2 H2 yv e2 s2 r2 k2 => ?_)
  split at k2
  · split at k2
    · rename_i j hj
      cases r1
      cases r2
      exact ⟨_, _, rfl, rfl, rgB_ok hj, fun p hp => out_tup k2 s2 (rg_vrs _ _) hp⟩
    · exact k2.elim
  · exact k2.elim
/-! ### sorted(xs) of ints -/
def leB (a b : Int) : Bool := decide (a ≤ b)
theorem vrs_ints {K : Fg} {ρ : List Addr} {H : Hp} : ∀ ns : List Int, VRs K ρ H (ns.map W.int) (ns.map V.int)
  | [] => .nil
  | n :: ns => .cons (.int n) (vrs_ints ns)
theorem sort_is {ns ns' : List Int} (h1 : ns'.Perm ns) (h2 : ns'.Pairwise (· ≤ ·)) : ns' = ns.mergeSort leB := by
  have q1 := List.mergeSort_perm ns leB
  have q2 : (ns.mergeSort leB).Pairwise (fun a b => leB a b = true) := List.pairwise_mergeSort (fun a b c h k => by unfold leB at *; simp at *; omega) (fun a b => by unfold leB; simp; omega) ns
  refine (h1.trans q1.symm).eq_of_pairwise (le := fun a b => a ≤ b) (fun a b _ _ h k => by omega) h2 (q2.imp fun h => by unfold leB at h; simpa using h)
def sortedW : GCall := fun G ws => match ws with
  | [.ref n] => (match rdL G n with | some xs => (match intsW xs with | some is => if is.length < 64 then .ok (.ref G.length) (G ++ [.lst ((is.mergeSort leB).map W.int)]) else .no | none => .no) | none => .no)
  | _ => .no
theorem cg_sorted : CaG X XP (.builtin "sorted") sortedW := by
  refine ⟨_, cr_sorted, fun ρ G σ H ws vs Q s r o => ?_⟩
  unfold sortedW at o
  split at o
  · cases r with
    | cons r rr =>
      cases rr
      cases r with
      | ref hn =>
        split at o
        · rename_i xs hx
          split at o
          · rename_i is hi
            split at o
            · rename_i h64
              obtain ⟨us, q1, q2⟩ := rdL_ok s hn hx
              exact ⟨_, is, rfl, by rw [← intsW_ok q2 hi]; exact q1, h64, fun ns' p h1 h2 hp => by rw [sort_is h1 h2]; exact out_lst o s (vrs_ints _) hp⟩
            · exact o.elim
          · exact o.elim
        · exact o.elim
  · exact o.elim
/-! ### is of bools -/
def isB (neg : Bool) : GOp := fun G x y => match x, y with
  | .bl a, .bl b => .ok (.bl (if neg then !decide (a = b) else decide (a = b))) G
  | _, _ => .no
theorem og_isB : OpG X XP (compareOp .Is) (isB false) := by
  refine ⟨_, op_isBl, fun ρ G σ H x y v u Q s rx ry h => ?_⟩
  unfold isB at h
  split at h
  · cases rx; cases ry; exact ⟨_, _, rfl, rfl, h.ok s (.bl _)⟩
  · exact h.elim
theorem og_isnotB : OpG X XP (compareOp .IsNot) (isB true) := by
  refine ⟨_, op_notBl, fun ρ G σ H x y v u Q s rx ry h => ?_⟩
  unfold isB at h
  split at h
  · cases rx; cases ry; exact ⟨_, _, rfl, rfl, h.ok s (.bl _)⟩
  · exact h.elim
/-! ### a, b, c = e, f, g -/
def sPar3 (i j l : Nat) (m : MA) : MS := fun E G => liftS (m E G) E fun ws G1 => match ws with
  | [x, y, z] => .nx (((E.set i (some x)).set j (some y)).set l (some z)) G1
  | _ => .no
theorem hs_par3 {i j l : Nat} {x y z : Str} {a b d : Expr} {m : MA} {px py pz pt : Pos} {kt k2 pt2} {k : Nat} (c : GC X XP k) (hi : X.N[i]? = some x) (hj : X.N[j]? = some y) (hl : X.N[l]? = some z) (hij : i ≠ j) (hil : i ≠ l) (hjl : j ≠ l)
    (hx : X.env.scope.names.lookup x = some .local) (hy : X.env.scope.names.lookup y = some .local) (hz : X.env.scope.names.lookup z = some .local) (ha : HA X XP [a, b, d] m)
    (hw : swappedStores [.Tuple [.Name x px, .Name y py, .Name z pz] kt pt] (.Tuple [a, b, d] k2 pt2) X.env = pure (some [x, y, z]))
    (hs : swapsWithSole [.Tuple [.Name x px, .Name y py, .Name z pz] kt pt] (.Tuple [a, b, d] k2 pt2) pos.line X.env = pure false := by rfl) :
    HS X XP (.Assign [.Tuple [.Name x px, .Name y py, .Name z pz] kt pt] (.Tuple [a, b, d] k2 pt2) pos) (sPar3 i j l m) := by
  obtain ⟨t, a1, a2⟩ := ha.ex
  refine ⟨_, ps_par3 c.calm c.nd hi hj hl hij hil hjl hx hy hz a1 hw hs, fun ρ E G σ H D er sr q => a2 ρ E G σ H _ er sr (OutS.lift er q fun ws G1 ρ1 H1 vs e1 s1 r1 k1 => ?_)⟩
  split at k1
  · cases r1 with
    | cons r1 rr =>
      cases rr with
      | cons r2 rr =>
        cases rr with
        | cons r3 rr =>
          cases rr
          exact ⟨_, _, _, rfl, k1 ρ1 H1 _ .refl s1 ((((er.mono e1).set r1 i).set r2 j).set r3 l)⟩
  · exact k1.elim
end
/-! ### loops that are never unfolded by themselves -/
@[irreducible] def sForI (mi : MI) (g : MG) (b : MS) : MS := sFor mi g b
@[irreducible] def mLcI (mi : MI) (g : MG) (t : MT) (m : ME) (vs : List Nat) : ME := mLc mi g t m vs
theorem sForI_eq (mi : MI) (g : MG) (b : MS) : sForI mi g b = sFor mi g b := by unfold sForI; rfl
theorem mLcI_eq (mi : MI) (g : MG) (t : MT) (m : ME) (vs : List Nat) : mLcI mi g t m vs = mLc mi g t m vs := by unfold mLcI; rfl
theorem setI_eq (mi : MI) (g : MG) (t : MT) (m : ME) (vs : List Nat) (h : MG) : sAsg (mLcI mi g t m vs) h = sAsg (mLc mi g t m vs) h := by rw [mLcI_eq]
theorem hs_I {X : Cx} {XP : Wish} {st : Stmt} {m m' : MS} (e : m' = m) (h : HS X XP st m) : HS X XP st m' := e ▸ h
theorem he_I {X : Cx} {XP : Wish} {st : Expr} {m m' : ME} (e : m' = m) (h : HE X XP st m) : HE X XP st m' := e ▸ h
theorem so_forI {mi : MI} {g : MG} {b : MS} {E : PEnv} {G : Cells} {N : PEnv → Cells → Prop} {R : W → Cells → Prop} (xs : List W) (I : Nat → PEnv → Cells → Prop)
    (h : (mi E G).sat fun pit G1 => pit.len G1 = xs.length ∧ I 0 E G1 ∧ ∀ i E' G', I i E' G' → pit.at G' i = some xs[i]?)
    (hstep : ∀ i w E G, xs[i]? = some w → I i E G → (g w E G).sat fun E1 G1 => (b E1 G1).sat (I (i + 1)) R)
    (hend : ∀ E G, I xs.length E G → N E G) : (sForI mi g b E G).sat N R := by
  rw [sForI_eq]; exact so_for xs I h hstep hend
end PL
/- part PLv -/
set_option maxHeartbeats 1000000
namespace PL
open PySem PySem.Spec PyProof.Rows L2
/-! ### statements, as equations -/
section
variable {E : PEnv} {G : Cells} {N : PEnv → Cells → Prop} {R : W → Cells → Prop}
theorem t_seq (a b : MS) : (sSeq a b E G).sat N R = (a E G).sat (fun E1 G1 => (b E1 G1).sat N R) R := by
  unfold sSeq seqS; cases a E G <;> rfl
theorem t_asg (m : ME) (g : MG) : (sAsg m g E G).sat N R = (m E G).sat fun w G1 => (g w E G1).sat N := by
  unfold sAsg; rw [so_lift]; congr; funext w G1; rw [so_lift]; rfl
theorem t_expr (m : ME) : (sExpr m E G).sat N R = (m E G).sat fun _ G1 => N E G1 := by unfold sExpr; rw [so_lift]; rfl
theorem t_ret (m : ME) : (sRet m E G).sat N R = (m E G).sat R := by unfold sRet; rw [so_lift]; rfl
theorem t_if (c : MT) (a b : MS) : (sIf c a b E G).sat N R = (c E G).sat fun k G1 => if k = true then (a E G1).sat N R else (b E G1).sat N R := by
  unfold sIf; rw [so_lift]; congr; funext k G1; cases k <;> rfl
theorem t_nx : (sNext E G).sat N R = N E G := id rfl
def p2 (k : W → W → Prop) : List W → Prop
  | [x, y] => k x y
  | _ => False
def p3 (k : W → W → W → Prop) : List W → Prop
  | [x, y, z] => k x y z
  | _ => False
def pT2 (k : W → W → Prop) : W → Prop
  | .tup [x, y] => k x y
  | _ => False
def pT3 (k : W → W → W → Prop) : W → Prop
  | .tup [x, y, z] => k x y z
  | _ => False
theorem p2_c (k : W → W → Prop) (x y : W) : p2 k [x, y] = k x y := id rfl
theorem p3_c (k : W → W → W → Prop) (x y z : W) : p3 k [x, y, z] = k x y z := id rfl
theorem pT2_c (k : W → W → Prop) (x y : W) : pT2 k (.tup [x, y]) = k x y := id rfl
theorem pT3_c (k : W → W → W → Prop) (x y z : W) : pT3 k (.tup [x, y, z]) = k x y z := id rfl
theorem t_par (i j : Nat) (m : MA) : (sPar i j m E G).sat N R = (m E G).sat fun ws G1 => p2 (fun x y => N ((E.set i (some x)).set j (some y)) G1) ws := by
  unfold sPar; rw [so_lift]; congr; funext ws G1
  match ws with
  | [] => rfl
  | [x] => rfl
  | [x, y] => rfl
  | x :: y :: z :: r => rfl
theorem t_par3 (i j l : Nat) (m : MA) : (sPar3 i j l m E G).sat N R = (m E G).sat fun ws G1 => p3 (fun x y z => N (((E.set i (some x)).set j (some y)).set l (some z)) G1) ws := by
  unfold sPar3; rw [so_lift]; congr; funext ws G1
  match ws with
  | [] => rfl
  | [x] => rfl
  | [x, y] => rfl
  | [x, y, z] => rfl
  | x :: y :: z :: u :: r => rfl
theorem g_set (i : Nat) (w : W) : (gSet i w E G).sat N = N (E.set i (some w)) G := id rfl
theorem g_tup2 (i j : Nat) (w : W) : (gTupW 2 (gsCons i (gsCons j gsNil)) w E G).sat N = pT2 (fun x y => N ((E.set i (some x)).set j (some y)) G) w := by
  unfold gTupW
  cases w with
  | tup ws =>
    match ws with
    | [] => rfl
    | [x] => rfl
    | [x, y] => rfl
    | x :: y :: z :: r => simp [pT2]
  | _ => rfl
theorem g_tup3 (i j l : Nat) (w : W) : (gTupW 3 (gsCons i (gsCons j (gsCons l gsNil))) w E G).sat N = pT3 (fun x y z => N (((E.set i (some x)).set j (some y)).set l (some z)) G) w := by
  unfold gTupW
  cases w with
  | tup ws =>
    match ws with
    | [] => rfl
    | [x] => rfl
    | [x, y] => rfl
    | [x, y, z] => rfl
    | x :: y :: z :: u :: r => simp [pT3]
  | _ => rfl
theorem g_put (o k : ME) (w : W) : (gPut o k w E G).sat N = (o E G).sat fun x G1 => (k E G1).sat fun y G2 => ∃ n, x = .ref n ∧ ∃ G3, putOp n y w G2 = some G3 ∧ N E G3 := by
  unfold gPut; rw [sat_bind]; congr; funext x G1; rw [sat_bind]; congr; funext y G2
  cases x with
  | ref n => cases h : putOp n y w G2 <;> simp [h]
  | _ => simp
theorem s_tupR1 {Q : W → Cells → Prop} (m : ME) : (mTupR1 m E G).sat Q = (m E G).sat fun w G1 => ∃ j, w = .int j ∧ rgB 0 j = true ∧ Q (.tup (rgW 0 j)) G1 := by
  unfold mTupR1; rw [sat_bind]; congr; funext w G1; cases w <;> simp
  rename_i j
  by_cases h : rgB 0 j = true <;> simp [h]
theorem s_tupR2 {Q : W → Cells → Prop} (m m' : ME) : (mTupR2 m m' E G).sat Q = (m E G).sat fun w G1 => (m' E G1).sat fun u G2 => ∃ i j, w = .int i ∧ u = .int j ∧ rgB i j = true ∧ Q (.tup (rgW i j)) G2 := by
  unfold mTupR2; rw [sat_bind]; congr; funext w G1; rw [sat_bind]; congr; funext u G2
  cases w <;> cases u <;> simp
  rename_i i j
  by_cases h : rgB i j = true <;> simp [h]
theorem s_defK {Q : W → Cells → Prop} (F : PF) (perm : List Nat) (np nk : Nat) (m mk : MA) : (mDefK F perm np nk m mk E G).sat Q = (m E G).sat fun ws G1 => (mk E G1).sat fun zs G2 => ws.length = np ∧ zs.length = nk ∧ (F (pick perm (ws ++ zs)) G2).sat Q := by
  unfold mDefK; rw [sat_bind]; congr; funext ws G1; rw [sat_bind]; congr; funext zs G2
  by_cases h : ws.length = np ∧ zs.length = nk
  · rw [if_pos h]; simp [h.1, h.2]
  · rw [if_neg h]; simp only [sat_no, false_iff, eq_iff_iff]; rintro ⟨a, b, _⟩; exact h ⟨a, b⟩
theorem s_rng2 {QI : PIt → Cells → Prop} (m m' : ME) : (mRng2 (mCons m (mCons m' mNil)) E G).sat QI = (m E G).sat fun w G1 => (m' E G1).sat fun u G2 => ∃ i j, w = .int i ∧ u = .int j ∧ (rngOk i && rngOk j) = true ∧ QI (.rng i (j - i).toNat) G2 := by
  unfold mRng2; rw [sat_bind, s_cons]; congr; funext x G1; rw [s_cons]; congr; funext y G2; rw [s_nil]; cases x <;> cases y <;> simp
  rename_i i j
  by_cases h : (rngOk i = true ∧ rngOk j = true) <;> simp [h]
theorem s_yes {QB : Bool → Cells → Prop} : (mYes E G).sat QB = QB true G := id rfl
theorem v_c {Q : W → Cells → Prop} (w : W) : (mC w E G).sat Q = Q w G := id rfl
theorem v_nil {QL : List W → Cells → Prop} : (mNil E G).sat QL = QL [] G := id rfl
theorem v_nopart {QO : Option Int → Cells → Prop} : (mNoPart E G).sat QO = QO none G := id rfl
theorem v_ok {α : Type} (a : α) (G : Cells) (Q : α → Cells → Prop) : (Rs.ok a G).sat Q = Q a G := id rfl
end
theorem hif {c : Prop} [Decidable c] {A B : Prop} (f : c → A) (g : ¬c → B) : if c then A else B := by by_cases hc : c <;> simp only [hc, if_true, if_false]; exact f hc; exact g hc
/-! ### small facts of the values' operations -/
theorem big_le {n m : Nat} (h : n ≤ m) (hm : m ≤ 100000 := by decide) : n < sizeLine := by rw [sizeLine_eq]; omega
theorem e_add (G : Cells) (i j : Int) : addW G (.int i) (.int j) = .ok (.int (i + j)) G := rfl
theorem e_sub (G : Cells) (i j : Int) : subW G (.int i) (.int j) = .ok (.int (i - j)) G := rfl
theorem e_mul {G : Cells} {i j : Int} (h : mulOk i j = true) : mulW G (.int i) (.int j) = .ok (.int (i * j)) G := by show (if mulOk i j = true then _ else _) = _; rw [if_pos h]
theorem e_mod {G : Cells} {i j : Int} (h : 0 < j) : modW G (.int i) (.int j) = .ok (.int (i % j)) G := by show (if 0 < j then _ else _) = _; rw [if_pos h]
theorem e_div {G : Cells} {i j : Int} (h : 0 < j) (h' : j < 1073741824) : fdivW G (.int i) (.int j) = .ok (.int (i / j)) G := by show (if 0 < j ∧ j < 1073741824 then _ else _) = _; rw [if_pos ⟨h, h'⟩]
theorem e_int (G : Cells) (i : Int) : intW G [.int i] = .ok (.int i) G := rfl
theorem e_min (G : Cells) (i j : Int) : minW G [.int i, .int j] = .ok (.int (min i j)) G := by
  show Rs.ok (W.int (if j < i then j else i)) G = _
  congr 2; by_cases h : j < i <;> simp only [h, if_true, if_false] <;> omega
theorem e_max (G : Cells) (i j : Int) : maxW G [.int i, .int j] = .ok (.int (max i j)) G := by
  show Rs.ok (W.int (if j > i then j else i)) G = _
  congr 2; by_cases h : j > i <;> simp only [h, if_true, if_false] <;> omega
theorem e_lt (G : Cells) (i j : Int) : ltW G (.int i) (.int j) = .ok (.bl (decide (i < j))) G := rfl
theorem e_le (G : Cells) (i j : Int) : leW G (.int i) (.int j) = .ok (.bl (decide (i ≤ j))) G := rfl
theorem e_gt (G : Cells) (i j : Int) : gtW G (.int i) (.int j) = .ok (.bl (decide (j < i))) G := rfl
theorem e_ge (G : Cells) (i j : Int) : geW G (.int i) (.int j) = .ok (.bl (decide (j ≤ i))) G := rfl
theorem e_lenL {G : Cells} {n : Nat} {xs : List W} (h : G[n]? = some (.lst xs)) : lenW G [.ref n] = .ok (.int xs.length) G := by unfold lenW; simp only [h]
theorem e_lenT (G : Cells) (xs : List W) : lenW G [.tup xs] = .ok (.int xs.length) G := rfl
theorem e_tupT (G : Cells) (xs : List W) : tupleW G [.tup xs] = .ok (.tup xs) G := rfl
theorem e_tupL {G : Cells} {n : Nat} {xs : List W} (h : G[n]? = some (.lst xs)) : tupleW G [.ref n] = .ok (.tup xs) G := by unfold tupleW rdL; simp only [h]
theorem atI_of {α : Type} {xs : List α} {i : Int} {w : α} (h : xs[i.toNat]? = some w) (h1 : 0 ≤ i) : L2.atI xs i = some w := by
  obtain ⟨q, _⟩ := List.getElem?_eq_some_iff.mp h
  unfold L2.atI L2.ixN
  rw [if_pos h1, if_pos (by omega)]
  exact h
theorem e_getL {G : Cells} {n : Nat} {xs : List W} {i : Int} {w : W} (h : G[n]? = some (.lst xs)) (h1 : xs[i.toNat]? = some w) (h2 : 0 ≤ i) : getW G (.ref n) (.int i) = .ok w G := by
  unfold getW; simp only [h, atI_of h1 h2]
theorem e_getT {G : Cells} {xs : List W} {i : Int} {w : W} (h1 : xs[i.toNat]? = some w) (h2 : 0 ≤ i) : getW G (.tup xs) (.int i) = .ok w G := by
  unfold getW; simp only [atI_of h1 h2]
theorem mulOk_l {i j : Int} (h : -(2 ^ 64) < i ∧ i < 2 ^ 64) : mulOk i j = true := by unfold mulOk; rw [decide_eq_true h.1, decide_eq_true h.2]; rfl
theorem mulOk_r {i j : Int} (h : -(2 ^ 64) < j ∧ j < 2 ^ 64) : mulOk i j = true := by unfold mulOk; rw [decide_eq_true h.1, decide_eq_true h.2]; simp
theorem e_app {G : Cells} {n : Nat} {xs : List W} {y : W} (h : G[n]? = some (.lst xs)) (hl : xs.length ≤ 100000) : appendW G (.ref n) [y] = .ok .non (G.set n (.lst (xs ++ [y]))) := by
  unfold appendW; simp only [h, big_le hl, if_true]
theorem e_isL {G : Cells} {n : Nat} {xs : List W} (h : G[n]? = some (.lst xs)) : isTy "list" G (.ref n) = true := by unfold isTy; simp only [h]; decide
theorem e_addL {G : Cells} {n m : Nat} {xs ys : List W} (h : G[n]? = some (.lst xs)) (h' : G[m]? = some (.lst ys)) (hl : xs.length + ys.length ≤ 100000) : addW G (.ref n) (.ref m) = .ok (.ref G.length) (G ++ [.lst (xs ++ ys)]) := by
  unfold addW; simp only [h, h', Nat.le_of_lt (big_le hl), if_true]
theorem e_addT {G : Cells} {xs ys : List W} (hl : xs.length + ys.length ≤ 100000) : addW G (.tup xs) (.tup ys) = .ok (.tup (xs ++ ys)) G := by
  show (if xs.length + ys.length ≤ sizeLine then _ else _) = _
  rw [if_pos (Nat.le_of_lt (big_le hl))]
theorem e_cutL {G : Cells} {n : Nat} {xs : List W} (h : G[n]? = some (.lst xs)) (lo hi : Option Int) : cutOp G (.ref n) lo hi = .ok (.ref G.length) (G ++ [.lst (cutW xs lo hi)]) := by
  show (match rdL G n with | some ws => _ | none => _) = _
  have : rdL G n = some xs := by unfold rdL; simp only [h]
  rw [this]
theorem e_cutT (G : Cells) (xs : List W) (lo hi : Option Int) : cutOp G (.tup xs) lo hi = .ok (.tup (cutW xs lo hi)) G := rfl
theorem sIx_some {n d : Nat} {k : Nat} : HT.sIx n d (some (k : Int)) = min k n := by
  unfold HT.sIx; simp; try omega
theorem cut_to (xs : List W) (k : Nat) : cutW xs none (some (k : Int)) = xs.take k := by
  unfold cutW
  rw [sIx_some]
  have : HT.sIx xs.length 0 none = 0 := rfl
  rw [this, List.drop_zero, Nat.sub_zero]
  by_cases h : k ≤ xs.length
  · rw [Nat.min_eq_left h]
  · rw [Nat.min_eq_right (by omega), List.take_of_length_le (by omega), List.take_of_length_le (by omega)]
theorem cut_from (xs : List W) (k : Nat) : cutW xs (some (k : Int)) none = xs.drop k := by
  unfold cutW
  rw [sIx_some]
  have : HT.sIx xs.length xs.length none = xs.length := rfl
  rw [this]
  by_cases h : k ≤ xs.length
  · rw [Nat.min_eq_left h, List.take_of_length_le (by simp)]
  · rw [Nat.min_eq_right (by omega), List.drop_of_length_le (by omega), List.drop_of_length_le (by omega)]; simp
theorem cut_mid (xs : List W) (k l : Nat) : cutW xs (some (k : Int)) (some (l : Int)) = (xs.drop k).take (l - k) := by
  unfold cutW
  rw [sIx_some, sIx_some]
  by_cases h : k ≤ xs.length
  · rw [Nat.min_eq_left h]
    by_cases h2 : l ≤ xs.length
    · rw [Nat.min_eq_left h2]
    · rw [show min l xs.length = xs.length from by omega, List.take_of_length_le (by simp), List.take_of_length_le (by simp; omega)]
  · rw [show min k xs.length = xs.length from by omega, List.drop_of_length_le (by omega), List.drop_of_length_le (by omega)]; simp
theorem e_put {G : Cells} {n : Nat} {xs : List W} {i : Int} {w : W} (h : G[n]? = some (.lst xs)) (h1 : 0 ≤ i) (h2 : i < xs.length) : putOp n (.int i) w G = some (G.set n (.lst (xs.set i.toNat w))) := by
  unfold putOp L2.ixN
  simp only [h]
  rw [if_pos h1, if_pos h2]
theorem intsW_map : ∀ ns : List Int, intsW (ns.map W.int) = some ns
  | [] => rfl
  | n :: ns => by simp only [List.map_cons, intsW, intsW_map ns, Option.map_some]
theorem e_sum {G : Cells} {n : Nat} {ns : List Int} (h : G[n]? = some (.lst (ns.map W.int))) : sumW G [.ref n] = .ok (.int ns.sum) G := by
  unfold sumW rdL; simp only [h, intsW_map]
/-! ### cells -/
theorem get_set {G : Cells} {n : Nat} {c : Cell} (h : n < G.length) : (G.set n c)[n]? = some c := by rw [List.getElem?_set]; simp [h]
theorem get_set_ne {G : Cells} {n m : Nat} {c : Cell} (h : n ≠ m) : (G.set n c)[m]? = G[m]? := by rw [List.getElem?_set_ne h]
theorem push_get (G : Cells) (c : Cell) : (G ++ [c])[G.length]? = some c := by simp
/-! ### iterators -/
structure ItOk (S : List Nat) (pit : PIt) (G1 : Cells) (xs : List W) : Prop where
  len : pit.len G1 = xs.length
  at' : ∀ G' i, Fr S G1 G' → pit.at G' i = some xs[i]?
def enF : Nat → List W → List W
  | _, [] => []
  | k, x :: xs => .tup [.int (k : Nat), x] :: enF (k + 1) xs
def enW (xs : List W) : List W := enF 0 xs
theorem enF_len : ∀ (xs : List W) (k : Nat), (enF k xs).length = xs.length
  | [], _ => rfl
  | _ :: xs, k => by rw [enF, List.length_cons, List.length_cons, enF_len xs]
theorem enF_get : ∀ (xs : List W) (k i : Nat), (enF k xs)[i]? = xs[i]?.map fun w => .tup [.int ((k + i : Nat) : Int), w]
  | [], _, _ => by simp [enF]
  | x :: xs, k, 0 => by simp [enF]
  | x :: xs, k, i + 1 => by
    rw [enF, List.getElem?_cons_succ, List.getElem?_cons_succ, enF_get xs (k + 1) i, show k + 1 + i = k + (i + 1) from by omega]
theorem enW_len (xs : List W) : (enW xs).length = xs.length := enF_len xs 0
theorem enW_get (xs : List W) (i : Nat) : (enW xs)[i]? = xs[i]?.map fun w => .tup [.int (i : Nat), w] := by
  unfold enW; rw [enF_get, Nat.zero_add]
/-- the places at which p holds -/
def places {α : Type} (p : α → Bool) : Nat → List α → List Int
  | _, [] => []
  | k, x :: xs => if p x = true then (k : Int) :: places p (k + 1) xs else places p (k + 1) xs
theorem mem_places {α : Type} {p : α → Bool} : ∀ {xs : List α} {k : Nat} {i : Int}, i ∈ places p k xs ↔ ∃ n x, xs[n]? = some x ∧ p x = true ∧ i = ((k + n : Nat) : Int)
  | [], k, i => by simp [places]
  | x :: xs, k, i => by
    have ih := mem_places (p := p) (xs := xs) (k := k + 1) (i := i)
    constructor
    · intro h
      unfold places at h
      split at h
      · rename_i hp
        rcases List.mem_cons.mp h with rfl | h
        · exact ⟨0, x, rfl, hp, rfl⟩
        · obtain ⟨n, y, h1, h2, h3⟩ := ih.mp h
          exact ⟨n + 1, y, by simpa using h1, h2, by rw [h3]; omega⟩
      · obtain ⟨n, y, h1, h2, h3⟩ := ih.mp h
        exact ⟨n + 1, y, by simpa using h1, h2, by rw [h3]; omega⟩
    · rintro ⟨n, y, h1, h2, h3⟩
      unfold places
      match n, h1, h3 with
      | 0, h1, h3 =>
        simp at h1
        subst h1
        rw [if_pos h2]
        exact List.mem_cons.mpr (.inl h3)
      | n + 1, h1, h3 =>
        have := ih.mpr ⟨n, y, by simpa using h1, h2, by rw [h3]; omega⟩
        split
        · exact List.mem_cons_of_mem _ this
        · exact this
theorem places_len {α : Type} {p : α → Bool} : ∀ {xs : List α} {k : Nat}, (places p k xs).length ≤ xs.length
  | [], k => Nat.le_refl _
  | x :: xs, k => by
    have ih := places_len (p := p) (xs := xs) (k := k + 1)
    unfold places
    split <;> simp only [List.length_cons] <;> omega
def fF (p : W → Bool) : W → Option W
  | .tup [i, x] => if p x = true then some i else none
  | _ => none
theorem en_places (p : W → Bool) : ∀ (xs : List W) (k : Nat), (enF k xs).filterMap (fF p) = (places p k xs).map W.int
  | [], _ => rfl
  | x :: xs, k => by
    rw [enF, List.filterMap_cons]
    unfold places
    by_cases h : p x = true
    · simp only [fF, h, if_true, en_places p xs, List.map_cons]
    · simp only [fF, h, if_false, en_places p xs]
      simp
theorem enW_inv {xs : List W} {i : Nat} {w : W} (h : (enW xs)[i]? = some w) : ∃ x, xs[i]? = some x ∧ w = .tup [.int (i : Nat), x] := by
  rw [enW_get] at h
  cases hx : xs[i]? with
  | none => rw [hx] at h; cases h
  | some x => rw [hx] at h; exact ⟨x, rfl, (Option.some.inj h).symm⟩
theorem it_tup (S : List Nat) (G : Cells) (ws : List W) : ItOk S (.tup ws) G ws := ⟨rfl, fun _ _ _ => rfl⟩
theorem it_enT (S : List Nat) (G : Cells) (ws : List W) : ItOk S (.enT ws) G (enW ws) := ⟨by rw [enW_len]; rfl, fun _ _ _ => by rw [enW_get]; rfl⟩
theorem it_lst {S : List Nat} {G : Cells} {n : Nat} {xs : List W} (h : G[n]? = some (.lst xs)) (hn : n ∉ S) : ItOk S (.lst n) G xs :=
  ⟨by simp [PIt.len, rdL, h], fun G' i f => by have := f.get h hn; simp only [PIt.at, rdL, this, Option.map_some]⟩
theorem it_enL {S : List Nat} {G : Cells} {n : Nat} {xs : List W} (h : G[n]? = some (.lst xs)) (hn : n ∉ S) : ItOk S (.enL n) G (enW xs) :=
  ⟨by rw [enW_len]; simp [PIt.len, rdL, h], fun G' i f => by have := f.get h hn; rw [enW_get]; simp only [PIt.at, rdL, this, Option.map_some]⟩
def rnW (lo : Int) (n : Nat) : List W := (List.range n).map fun i => W.int (lo + (i : Nat))
theorem rnW_len (lo : Int) (n : Nat) : (rnW lo n).length = n := by unfold rnW; simp
theorem rnW_inv {lo : Int} {n i : Nat} {w : W} (h : (rnW lo n)[i]? = some w) : i < n ∧ w = .int (lo + (i : Nat)) := by
  unfold rnW at h
  rw [List.getElem?_map] at h
  by_cases hi : i < n
  · rw [List.getElem?_range hi] at h; exact ⟨hi, (Option.some.inj h).symm⟩
  · rw [List.getElem?_eq_none (by simp; omega)] at h; cases h
theorem it_rng (S : List Nat) (G : Cells) (lo : Int) (n : Nat) : ItOk S (.rng lo n) G (rnW lo n) := ⟨by rw [rnW_len]; rfl, fun _ i _ => by
  simp only [PIt.at]
  by_cases hi : i < n
  · rw [if_pos hi]; unfold rnW; rw [List.getElem?_map, List.getElem?_range hi]; rfl
  · rw [if_neg hi, List.getElem?_eq_none (by rw [rnW_len]; omega)]⟩
def ziW (xs ys : List W) : List W := List.zipWith (fun x y => W.tup [x, y]) xs ys
theorem ziW_inv {xs ys : List W} {i : Nat} {w : W} (h : (ziW xs ys)[i]? = some w) : ∃ x y, xs[i]? = some x ∧ ys[i]? = some y ∧ w = .tup [x, y] := by
  unfold ziW at h
  rw [List.getElem?_zipWith] at h
  cases hx : xs[i]? with
  | none => rw [hx] at h; cases h
  | some x =>
    cases hy : ys[i]? with
    | none => rw [hx, hy] at h; cases h
    | some y => rw [hx, hy] at h; exact ⟨x, y, rfl, rfl, (Option.some.inj h).symm⟩
theorem ziW_len (xs ys : List W) : (ziW xs ys).length = min xs.length ys.length := by unfold ziW; simp
theorem ziW_get (xs ys : List W) (i : Nat) : (ziW xs ys)[i]? = xs[i]?.bind fun x => ys[i]?.map fun y => .tup [x, y] := by
  unfold ziW; rw [List.getElem?_zipWith]; cases xs[i]? <;> cases ys[i]? <;> rfl
theorem it_zipT (S : List Nat) (G : Cells) (xs ys : List W) : ItOk S (.zipT xs ys) G (ziW xs ys) := ⟨by rw [ziW_len]; rfl, fun _ _ _ => by rw [ziW_get]; rfl⟩
theorem it_zipL {S : List Nat} {G : Cells} {n m : Nat} {xs ys : List W} (h : G[n]? = some (.lst xs)) (h' : G[m]? = some (.lst ys)) (hn : n ∉ S) (hm : m ∉ S) : ItOk S (.zipL n m) G (ziW xs ys) :=
  ⟨by rw [ziW_len]; simp [PIt.len, rdL, h, h'], fun G' i f => by have h1 := f.get h hn; have h2 := f.get h' hm; rw [ziW_get]; simp only [PIt.at, rdL, h1, h2, Option.map_some, Option.bind_some]⟩
theorem i_tup (G : Cells) (ws : List W) : itSeq (.tup ws) G = .ok (.tup ws) G := rfl
theorem i_lst {G : Cells} {n : Nat} {xs : List W} (h : G[n]? = some (.lst xs)) : itSeq (.ref n) G = .ok (.lst n) G := by unfold itSeq rdL; simp only [h]
theorem rdL_lst {G : Cells} {n : Nat} {xs : List W} (h : G[n]? = some (.lst xs)) : rdL G n = some xs := by unfold rdL; simp only [h]
/-! ### comprehensions, loops -/
/-- what holds of the cells below n is kept -/
def Keeps (n : Nat) (I : Cells → Prop) : Prop := ∀ G1 G2, I G1 → n ≤ G1.length → G1.length ≤ G2.length → (∀ k, k < n → G2[k]? = G1[k]?) → I G2
theorem lc_fr {mi : MI} {g : MG} {t : MT} {m : ME} {vs : List Nat} {E : PEnv} {G : Cells} {Q : W → Cells → Prop} (S : List Nat) (xs : List W) (I : Cells → Prop) (A : Nat → List W → Prop)
    (hI : Keeps G.length I) (hS : ∀ s ∈ S, s < G.length)
    (h : (mi E G).sat fun pit G1 => Fr S G G1 ∧ I G1 ∧ ItOk S pit G1 xs) (hb : xs.length ≤ 100000) (hA : A 0 [])
    (hs : ∀ i w acc G', xs[i]? = some w → A i acc → I G' → Fr S G G' → (g w (wipeE E vs) G').sat fun E1 G2 => (t E1 G2).sat fun k G3 => if k = true then (m E1 G3).sat fun y G4 => A (i + 1) (acc ++ [y]) ∧ I G4 ∧ Fr S G' G4 else A (i + 1) acc ∧ I G3 ∧ Fr S G' G3)
    (hq : ∀ n acc G', A xs.length acc → I G' → Fr S G G' → G.length ≤ n → G'[n]? = some (.lst acc) → Q (.ref n) G') : (mLcI mi g t m vs E G).sat Q := by
  rw [mLcI_eq]
  refine lc_sat xs (fun G1 i acc G' => acc.length ≤ i ∧ A i acc ∧ I G' ∧ Fr S G1 G' ∧ Fr S G G' ∧ G.length ≤ G1.length ∧ G1.length < G'.length) (h.mono fun pit G1 q => ?_)
  obtain ⟨f, i1, it⟩ := q
  have hnS : G1.length ∉ S := fun z => by have := hS _ z; have := f.1; omega
  have keep : ∀ {a b : Cells}, G.length ≤ a.length → I a → Fr [] a b → I b := fun {a b} l i f => hI _ _ i l f.1 fun k hk => f.2 k (by omega) (by simp)
  refine ⟨it.len, ⟨Nat.le_refl _, hA, keep f.1 i1 Fr.push, Fr.push, f.trans Fr.push, f.1, by simp⟩, fun i acc G' q _ => it.at' _ _ q.2.2.2.1, fun i w acc G' hw q hn => ?_, fun acc G' hn q => hq _ _ _ q.2.1 q.2.2.1 q.2.2.2.2.1 f.1 hn⟩
  obtain ⟨q1, q2, q3, q4, q5, q6, q7⟩ := q
  refine (hs i w acc G' hw q2 q3 q5).mono fun E1 G2 r1 => r1.mono fun k G3 r2 => ?_
  cases k with
  | true =>
    rw [if_pos rfl] at r2 ⊢
    refine r2.mono fun y G4 r3 => ?_
    obtain ⟨a1, a2, a3⟩ := r3
    have hi : i < xs.length := by
      rcases Nat.lt_or_ge i xs.length with h | h
      · exact h
      · rw [List.getElem?_eq_none_iff.mpr h] at hw; cases hw
    have hl : G1.length < G4.length := Nat.lt_of_lt_of_le q7 a3.1
    refine ⟨a3.get hn hnS, big_le (m := 100000) (by omega), by simp; omega, a1, ?_, ?_, ?_, q6, by simp; exact hl⟩
    · exact hI _ _ a2 (by omega) (by simp) fun k hk => by rw [get_set_ne (by omega)]
    · refine ⟨by simp; omega, fun k hk hk2 => ?_⟩
      rw [get_set_ne (by omega)]
      exact (q4.trans a3).2 k hk hk2
    · refine ⟨by simp; omega, fun k hk hk2 => ?_⟩
      rw [get_set_ne (by omega)]
      exact (q5.trans a3).2 k hk hk2
  | false =>
    simp only [Bool.false_eq_true, if_false] at r2 ⊢
    obtain ⟨a1, a2, a3⟩ := r2
    exact ⟨a3.get hn hnS, by omega, a1, a2, q4.trans a3, q5.trans a3, q6, Nat.lt_of_lt_of_le q7 a3.1⟩
theorem take_filterMap {α β : Type} (f : α → Option β) (xs : List α) (i : Nat) (w : α) (h : xs[i]? = some w) : (xs.take (i + 1)).filterMap f = (xs.take i).filterMap f ++ (match f w with | some y => [y] | none => []) := by
  obtain ⟨hi, e⟩ := List.getElem?_eq_some_iff.mp h
  rw [List.take_succ, h]
  simp only [Option.toList_some, List.filterMap_append, List.filterMap_cons, List.filterMap_nil]
  cases f w <;> rfl
theorem lc_get {mi : MI} {g : MG} {t : MT} {m : ME} {vs : List Nat} {E : PEnv} {G : Cells} {Q : W → Cells → Prop} {P : PIt → Cells → Prop} (h : (mi E G).sat P)
    (k : ∀ pit G1, (mi E G).sat (fun p g => p = pit ∧ g = G1) → P pit G1 → (mLcI mi g t m vs E G).sat Q) : (mLcI mi g t m vs E G).sat Q := by
  obtain ⟨pit, G1, e, q⟩ := h.get
  exact k pit G1 (by rw [e]; exact ⟨rfl, rfl⟩) q
/-- a comprehension that tells f of each item, writing only new cells -/
theorem lc_pure {mi : MI} {g : MG} {t : MT} {m : ME} {vs : List Nat} {E : PEnv} {G : Cells} {Q : W → Cells → Prop} (xs : List W) (f : W → Option W)
    (h : (mi E G).sat fun pit G1 => Fr [] G G1 ∧ ItOk [] pit G1 xs) (hb : xs.length ≤ 100000)
    (hs : ∀ (i : Nat) w G', xs[i]? = some w → Fr [] G G' → (g w (wipeE E vs) G').sat fun E1 G2 => (t E1 G2).sat fun k G3 => if k = true then (m E1 G3).sat fun y G4 => f w = some y ∧ Fr [] G' G4 else f w = none ∧ Fr [] G' G3)
    (hq : ∀ n G', Fr [] G G' → G.length ≤ n → G'[n]? = some (.lst (xs.filterMap f)) → Q (.ref n) G') : (mLcI mi g t m vs E G).sat Q := by
  refine lc_fr [] xs (fun _ => True) (fun i acc => acc = (xs.take i).filterMap f) (fun _ _ _ _ _ _ => trivial) (by simp) (h.mono fun pit G1 q => ⟨q.1, trivial, q.2⟩) hb rfl (fun i w acc G' hw ha _ fr => ?_) fun n acc G' ha _ fr hn hg => ?_
  · refine (hs i w G' hw fr).mono fun E1 G2 r1 => r1.mono fun k G3 r2 => ?_
    have q := take_filterMap f xs i w hw
    cases k with
    | true =>
      rw [if_pos rfl] at r2 ⊢
      refine r2.mono fun y G4 r3 => ⟨?_, trivial, r3.2⟩
      rw [q, r3.1, ha]
    | false =>
      simp only [Bool.false_eq_true, if_false] at r2 ⊢
      refine ⟨?_, trivial, r2.2⟩
      rw [q, r2.1, ha, List.append_nil]
  · refine hq n G' fr hn ?_
    rw [hg, ha, List.take_of_length_le (Nat.le_refl _)]
end PL
namespace PL
theorem sz0 : (0 ≤ PySem.sizeLine) = True := by simp [PySem.sizeLine_eq]
theorem sz1 : (1 ≤ PySem.sizeLine) = True := by simp [PySem.sizeLine_eq]
theorem sz2 : (2 ≤ PySem.sizeLine) = True := by simp [PySem.sizeLine_eq]
theorem sz3 : (3 ≤ PySem.sizeLine) = True := by simp [PySem.sizeLine_eq]
theorem sz4 : (4 ≤ PySem.sizeLine) = True := by simp [PySem.sizeLine_eq]
theorem sz5 : (5 ≤ PySem.sizeLine) = True := by simp [PySem.sizeLine_eq]
theorem sz6 : (6 ≤ PySem.sizeLine) = True := by simp [PySem.sizeLine_eq]
theorem sz7 : (7 ≤ PySem.sizeLine) = True := by simp [PySem.sizeLine_eq]
theorem sz8 : (8 ≤ PySem.sizeLine) = True := by simp [PySem.sizeLine_eq]
theorem sz9 : (9 ≤ PySem.sizeLine) = True := by simp [PySem.sizeLine_eq]
theorem sz10 : (10 ≤ PySem.sizeLine) = True := by simp [PySem.sizeLine_eq]
end PL
/- part PLw -/
set_option maxHeartbeats 1000000
namespace PL
open PySem PySem.Spec PyProof.Rows L2
/-! ### loops whose body may go on by itself -/
def So.satC (r : So) (N C : PEnv → Cells → Prop) (R : W → Cells → Prop) : Prop := match r with | .nx E G => N E G | .ct E G => C E G | .rt w G => R w G | _ => False
section
variable {E : PEnv} {G : Cells} {N C : PEnv → Cells → Prop} {R : W → Cells → Prop}
theorem So.sat.toC {r : So} (h : r.sat N R) : r.satC N C R := by cases r <;> first | exact h | exact h.elim
theorem c_seq (a b : MS) : (sSeq a b E G).satC N C R = (a E G).satC (fun E1 G1 => (b E1 G1).satC N C R) C R := by
  unfold sSeq seqS; cases a E G <;> rfl
theorem c_lift {α : Type} {r : Rs α} {k : α → Cells → So} : (liftS r E k).satC N C R = r.sat fun a G => (k a G).satC N C R := by cases r <;> rfl
theorem c_if (c : MT) (a b : MS) : (sIf c a b E G).satC N C R = (c E G).sat fun k G1 => if k = true then (a E G1).satC N C R else (b E G1).satC N C R := by
  unfold sIf; rw [c_lift]; congr; funext k G1; cases k <;> rfl
theorem c_nx : (sNext E G).satC N C R = N E G := id rfl
theorem c_ct : (sCont E G).satC N C R = C E G := id rfl
theorem c_ret (m : ME) : (sRet m E G).satC N C R = (m E G).sat R := by unfold sRet; rw [c_lift]; rfl
end
theorem forL_satC {pit : PIt} {g : MG} {b : MS} {xs : List W} {I : Nat → PEnv → Cells → Prop} {N : PEnv → Cells → Prop} {R : W → Cells → Prop}
    (hat : ∀ i E G, I i E G → pit.at G i = some xs[i]?)
    (hstep : ∀ i w E G, xs[i]? = some w → I i E G → (g w E G).sat fun E1 G1 => (b E1 G1).satC (I (i + 1)) (I (i + 1)) R)
    (hend : ∀ E G, I xs.length E G → N E G) : ∀ n i E G, I i E G → i + n = xs.length → (forL pit g b n i E G).sat N R := by
  intro n
  induction n with
  | zero =>
    intro i E G h e
    have q := hat i E G h
    have hx : xs[i]? = none := List.getElem?_eq_none_iff.mpr (by omega)
    rw [hx] at q
    unfold forL
    rw [q]
    have : i = xs.length := by omega
    subst this
    exact hend E G h
  | succ n ih =>
    intro i E G h e
    have q := hat i E G h
    have hi : i < xs.length := by omega
    have hx : xs[i]? = some xs[i] := List.getElem?_eq_getElem hi
    rw [hx] at q
    unfold forL
    rw [q]
    simp only
    rw [so_lift]
    refine (hstep i _ E G hx h).mono fun E1 G1 h1 => ?_
    cases hb : b E1 G1 with
    | nx E2 G2 => rw [hb] at h1; exact ih (i + 1) E2 G2 h1 (by omega)
    | ct E2 G2 => rw [hb] at h1; exact ih (i + 1) E2 G2 h1 (by omega)
    | rt w G2 => rw [hb] at h1; exact h1
    | _ => rw [hb] at h1; exact h1.elim
theorem so_forC {mi : MI} {g : MG} {b : MS} {E : PEnv} {G : Cells} {N : PEnv → Cells → Prop} {R : W → Cells → Prop} (xs : List W) (I : Nat → PEnv → Cells → Prop)
    (h : (mi E G).sat fun pit G1 => pit.len G1 = xs.length ∧ I 0 E G1 ∧ ∀ i E' G', I i E' G' → pit.at G' i = some xs[i]?)
    (hstep : ∀ i w E G, xs[i]? = some w → I i E G → (g w E G).sat fun E1 G1 => (b E1 G1).satC (I (i + 1)) (I (i + 1)) R)
    (hend : ∀ E G, I xs.length E G → N E G) : (sForI mi g b E G).sat N R := by
  rw [sForI_eq]; unfold sFor; rw [so_lift]
  refine h.mono fun pit G1 q => ?_
  obtain ⟨h1, h2, h3⟩ := q
  rw [h1]
  exact forL_satC h3 hstep hend _ 0 E G1 h2 (by omega)
/-! ### what is shown -/
theorem da_int (G : Cells) (k : Nat) (i : Int) : dat G (k + 1) (.int i) = some (.int i) := rfl
theorem da_bl (G : Cells) (k : Nat) (b : Bool) : dat G (k + 1) (.bl b) = some (.bool b) := rfl
theorem da_str (G : Cells) (k : Nat) (x : Str) : dat G (k + 1) (.str x) = some (.str x) := rfl
theorem da_tup {G : Cells} {k : Nat} {ws : List W} {ds : List PyData} (h : mapO (dat G k) ws = some ds) : dat G (k + 1) (.tup ws) = some (.tuple ds) := by
  show (mapO (dat G k) ws).map PyData.tuple = _
  rw [h]; rfl
theorem da_lst {G : Cells} {k n : Nat} {ws : List W} {ds : List PyData} (hn : G[n]? = some (.lst ws)) (h : mapO (dat G k) ws = some ds) : dat G (k + 1) (.ref n) = some (.list ds) := by
  show (match G[n]? with | some (.lst ws) => _ | some (.rol ws) => _ | some (.dct kvs) => _ | _ => none) = _
  rw [hn]
  show (mapO (dat G k) ws).map PyData.list = _
  rw [h]; rfl
theorem mo_nil {α β : Type} (f : α → Option β) : mapO f [] = some [] := rfl
theorem mo_cons {α β : Type} {f : α → Option β} {x : α} {xs : List α} {y : β} {ys : List β} (h : f x = some y) (h' : mapO f xs = some ys) : mapO f (x :: xs) = some (y :: ys) := by
  simp only [mapO, h, h']
theorem mo_map {α β γ : Type} {f : α → Option β} {g : γ → α} {h : γ → β} {xs : List γ} (e : ∀ x ∈ xs, f (g x) = some (h x)) : mapO f (xs.map g) = some (xs.map h) := by
  induction xs with
  | nil => rfl
  | cons x xs ih => exact mo_cons (e x (by simp)) (ih fun y hy => e y (by simp [hy]))
def Sh (b : Nat) (d : PyData) : Prop := d.showable = true ∧ d.shown.length ≤ b
theorem Sh.wide {b c : Nat} {d : PyData} (h : Sh b d) (l : b ≤ c) : Sh c d := ⟨h.1, Nat.le_trans h.2 l⟩
theorem int_text {i : Int} (h : i.natAbs < 10 ^ 40) : (Str.ofString (toString i)).length ≤ 41 := by
  cases i with
  | ofNat n => exact Nat.le_trans (toString_length_le (k := 40) (by simp) (by decide) (by simp at h ⊢; omega)) (by decide)
  | negSucc n =>
    have e : toString (Int.negSucc n) = "-" ++ toString (((n + 1 : Nat) : Int)) := rfl
    rw [e, PySem.ofString_length, String.length_append]
    have q := toString_length_le (v := ((n + 1 : Nat) : Int)) (k := 40) (by omega) (by decide) (by simp at h ⊢; omega)
    rw [PySem.ofString_length] at q
    have : ("-" : String).length = 1 := by decide
    omega
theorem sh_int {i : Int} (h : i.natAbs < 10 ^ 40) : Sh 44 (.int i) := by
  refine ⟨?_, ?_⟩
  · rw [PyData.showable.eq_4]
    have : i.natAbs.log2 < 1920 := by
      by_cases h0 : i.natAbs = 0
      · rw [h0]; decide
      · have q : i.natAbs < 2 ^ 200 := Nat.lt_of_lt_of_le h (by decide)
        have := (Nat.log2_lt h0).mpr q
        omega
    simpa using this
  · rw [PyData.shown.eq_3]
    have := int_text h
    omega
theorem sh_bl (b : Bool) : Sh 44 (.bool b) := ⟨rfl, by cases b <;> decide +kernel⟩
theorem sh_non : Sh 44 .none := ⟨rfl, by decide +kernel⟩
theorem sh_lst {b n : Nat} {ds : List PyData} (hn : ds.length ≤ n) (h : ∀ d ∈ ds, Sh b d) : Sh (n * (b + 2) + 44) (.list ds) :=
  ⟨by rw [PyData.showable.eq_5]; exact showableAll_of fun d hd => (h d hd).1, list_shown hn fun d hd => (h d hd).2⟩
theorem sh_tup {b n : Nat} {ds : List PyData} (hn : ds.length ≤ n) (h : ∀ d ∈ ds, Sh b d) : Sh (n * (b + 2) + 44) (.tuple ds) :=
  ⟨by rw [PyData.showable.eq_6]; exact showableAll_of fun d hd => (h d hd).1, tuple_shown hn fun d hd => (h d hd).2⟩
theorem sh_str {x : Str} (h : (reprText x).length ≤ 44) : Sh 44 (.str x) := ⟨rfl, by rw [PyData.shown.eq_4]; exact h⟩
theorem repr_ok {G : Cells} {w : W} {d : PyData} {b : Nat} (h : dat G 60 w = some d) (hs : Sh b d) (hb : b ≤ 16000000) : reprW G [w] = .ok (.str d.shown) G := by
  have : showOk d = true := by simp only [showOk, hs.1, Bool.true_and, decide_eq_true_eq]; have := hs.2; rw [sizeLine_eq]; omega
  simp only [reprW, h, this, if_true]
theorem e_self (G : Cells) (x : Str) : eqOp G (.str x) (.str x) = .ok (.bl true) G := by rw [eqOp_ss, decide_eq_true rfl]
theorem n_self (G : Cells) (x : Str) : neOp G (.str x) (.str x) = .ok (.bl false) G := by rw [neOp_ss, decide_eq_true rfl]; rfl
theorem so_forG {mi : MI} {g : MG} {b : MS} {E : PEnv} {G : Cells} {N : PEnv → Cells → Prop} {R : W → Cells → Prop} {P : PIt → Cells → Prop} (h : (mi E G).sat P)
    (k : ∀ pit G1, (mi E G).sat (fun p g => p = pit ∧ g = G1) → P pit G1 → (sForI mi g b E G).sat N R) : (sForI mi g b E G).sat N R := by
  obtain ⟨pit, G1, e, q⟩ := h.get
  exact k pit G1 (by rw [e]; exact ⟨rfl, rfl⟩) q
end PL
/- part PLx -/
set_option maxHeartbeats 1000000
namespace PL
open PySem PySem.Spec PyProof.Rows L2
section
variable {X : Cx} {XP : Wish} {pos : Pos} {k : Nat}
/-! ### max, min of a tuple of ints -/
theorem maxOf_is (is : List Int) (i : Int) : PySem.W.maxOf i is = is.foldl max i := by
  induction is generalizing i with
  | nil => rfl
  | cons j is ih =>
    show PySem.W.maxOf (if decide (i < j) = true then j else i) is = is.foldl max (max i j)
    rw [ih]
    congr 1
    by_cases h : i < j
    · simp only [h, decide_true, if_true]; omega
    · simp only [h, decide_false, Bool.false_eq_true, if_false]; omega
theorem cr_maxT (c : GC X XP k) : CallR X (.builtin "max") (fun vs H Q => ∃ a i is, vs = [V.ref a] ∧ SqT X.K H a ((i :: is).map V.int) ∧ Q (.int (is.foldl max i)) H) := by
  intro pins s σ H vs us Q I r h
  obtain ⟨a, i, is, rfl, hs, q⟩ := h
  obtain ⟨its, rv, pl, hz⟩ := I.tuple hs
  rw [Vals.ref1 r]
  refine PySem.W.max_tuple_datum (α := Int) (I.ok.hd c.calm) pl (PySem.W.HoldAll.of_ints rv.ints) ?_ fun j v h' tk hv hh hk => ?_
  · show X.A.units + 1 + 0 < cLine
    have := c.hu; omega
  · obtain ⟨bs, rd⟩ := hh
    have rd : Reads h' v (.int (PySem.W.maxOf i is)) bs := rd
    cases rd
    exact ⟨.int (PySem.W.maxOf i is), H, I.kept hk, ⟨_, rfl⟩, by rw [maxOf_is]; exact q⟩
/-- max(..) also of a tuple -/
def maxU : GCall := fun G ws => match ws with
  | [.tup xs] => (match intsW xs with | some (i :: is) => .ok (.int (is.foldl max i)) G | _ => .no)
  | _ => maxW G ws
theorem cg_maxU (c : GC X XP k) : CaG X XP (.builtin "max") maxU := by
  obtain ⟨r0, h0, h1⟩ := (cg_max (XP := XP) c).ex
  refine ⟨_, CallR.or (cr_maxT c) h0, fun ρ G σ H ws vs Q s r o => ?_⟩
  unfold maxU at o
  split at o
  · cases r with
    | cons r rr =>
      cases rr
      cases r with
      | tup q1 q2 =>
        split at o
        · rename_i i is hi
          exact .inl ⟨_, i, is, rfl, by rw [← intsW_ok q2 hi]; exact SqT.of q1, o.ok s (.int _)⟩
        · exact o.elim
  · exact .inr (h1 ρ G σ H ws vs Q s r o)
theorem e_maxT {G : Cells} {i : Int} {is : List Int} : maxU G [.tup ((i :: is).map W.int)] = .ok (.int (is.foldl max i)) G := by
  have hi := intsW_map (i :: is)
  unfold maxU
  simp only [hi]
theorem e_maxU (G : Cells) (i j : Int) : maxU G [.int i, .int j] = .ok (.int (max i j)) G := e_max G i j
end
end PL
/- part PLz -/
set_option maxHeartbeats 1000000
namespace PL
open PySem PySem.Spec PyProof.Rows L2
/-! ### zip of a list and a tuple -/
/-- turn by turn: an item of the list at a, one of the tuple at b, paired anew -/
def ItzM (K : Fg) (a b : Addr) : It where
  go i H := ∃ (ps qs : List V) (p q : V), SqL K H a ps ∧ SqT K H b qs ∧ ps[i]? = some p ∧ qs[i]? = some q
  yld i H v H' := ∃ T p q, v = .ref T ∧ H T = none ∧ H' = upd H T (.tup [p, q]) ∧ (∀ ps, SqL K H a ps → ps[i]? = some p) ∧ ∀ qs, SqT K H b qs → qs[i]? = some q
  stop i H := ∃ ps qs : List V, SqL K H a ps ∧ SqT K H b qs ∧ i ≤ ps.length ∧ i ≤ qs.length ∧ (i = ps.length ∨ i = qs.length)
theorem five {c z a b d e : Addr} (h : c ∈ [z, a, b, d, e]) : c = z ∨ c = a ∨ c = b ∨ c = d ∨ c = e := by simpa using h
theorem turn_zipM {P : Program} {w : World} {K : Fg} {elts : List Expr} {kk : Nat} {tpos : Pos} {a b z TI TO i1 i2 : Addr} (D : ZipSep2 z TI TO i1 i2 [i1, a] [i2, b]) (ha : a ≠ i1) (hb : b ≠ i2) :
    Turn P w K (.Tuple elts kk tpos) (ItzM K a b) [z, TI, TO, i1, i2] z (fun i h => IsZip h z TI TO .none ∧ IsTupOf2 h TI (.ref i1) (.ref i2) ∧ (∃ p q, IsTupOf2 h TO p q) ∧ h.IsListIter i1 a i ∧ h.IsTupleIter i2 b i) where
  mem := by simp
  obj := fun i h st c hc => by
    obtain ⟨s1, s2, ⟨p, q, s3⟩, ⟨o1, e1, _, d1⟩, ⟨o2, e2, _, d2⟩⟩ := st
    rcases five hc with rfl | rfl | rfl | rfl | rfl
    · exact ⟨_, s1, fun v q => nomatch q⟩
    · exact ⟨_, s2, fun v q => nomatch q⟩
    · exact ⟨_, s3, fun v q => nomatch q⟩
    · exact ⟨o1, e1, fun v q => by rw [d1] at q; cases q⟩
    · exact ⟨o2, e2, fun v q => by rw [d2] at q; cases q⟩
  keep := fun i h h' st k => by
    obtain ⟨s1, s2, ⟨p, q, s3⟩, s4, s5⟩ := st
    exact ⟨k z (by simp) _ s1, k TI (by simp) _ s2, ⟨p, q, k TO (by simp) _ s3⟩, s4.at fun o e => k i1 (by simp) o e, s5.at fun o e => k i2 (by simp) o e⟩
  item := by
    intro X hP hw hK hc i pins s σ H E I hf st hg
    subst hP hw hK
    obtain ⟨s1, s2, ⟨p0, q0, s3⟩, s4, s5⟩ := st
    obtain ⟨ps, qs, p, q, hps, hqs, hp, hq⟩ := hg
    obtain ⟨its, rv, pl, _⟩ := I.list hps
    obtain ⟨its2, rv2, pt, _⟩ := I.tuple hqs
    obtain ⟨u, hu, ru⟩ := rv.get hp
    obtain ⟨u2, hu2, ru2⟩ := rv2.get hq
    have zlt : z < s.heap.objs.size := Heap.lt_size s1
    have D1 := Draws.list (prog := X.prog) (w := X.w) (A := X.A.in1) (by exact I.ok.hd hc) i1 a ha its.toArray
    have D2 := Draws.tuple (prog := X.prog) (w := X.w) (A := X.A.in1) (by exact I.ok.hd hc) i2 b hb its2.toArray
    have b1 : i < its.toArray.size := by
      have := (List.getElem?_eq_some_iff.mp hu).1
      simpa using this
    have b2 : i < its2.toArray.size := by
      have := (List.getElem?_eq_some_iff.mp hu2).1
      simpa using this
    refine wpAny_pyNext_zipD2_item D D1 D2 s1 s2 s3 ⟨s4, pl.isList⟩ ⟨s5, pt⟩ b1 b2 fun x1 x2 h' tk y1 y2 n1 n2 n3 n4 n5 n6 n7 => ?_
    have g1 : x1 = u := by
      have e : its[i]? = some x1 := by simpa using y1
      rw [hu] at e; exact (Option.some.inj e).symm
    have g2 : x2 = u2 := by
      have e : its2[i]? = some x2 := by simpa using y2
      rw [hu2] at e; exact (Option.some.inj e).symm
    subst g1 g2
    refine ⟨_, rfl, wpAny_letOwnedTupleGo_zip (s := { s with heap := h', toks := tk }) n1 fun h2 z2 sb => ?_⟩
    have keepz : ∀ c o, c ≠ z → h'.get? c = some o → h2.get? c = some o := fun c o ne e => (sb.2 c ne).trans e
    have tup : h2.get? s.heap.objs.size = some { cls := .type "tuple", data := .seq #[x1, x2] } := keepz _ _ (Nat.ne_of_gt zlt) n5
    have new : ObjOk X.prog X.w (upd H s.heap.objs.size (.tup [p, q])) h2 s.heap.objs.size (.tup [p, q]) :=
      ⟨by show 2 ≤ sizeLine; decide, [x1, x2], .cons ru (.cons ru2 .nil), ⟨_, tup, rfl, _, rfl⟩⟩
    have I1 : Inv X pins σ (upd H s.heap.objs.size (.tup [p, q])) { s with heap := h2, toks := tk } :=
      I.turnedNew (ch := [z, TI, TO, i1, i2]) (fun c o off e => keepz c o (fun z => off (by simp [z])) (n7 c o (fun z => off (by simp [z])) (fun z => off (by simp [z])) (fun z => off (by simp [z])) (fun z => off (by simp [z])) e)) hf (Nat.le_refl _) new
    refine ⟨.ref s.heap.objs.size, _, I1, rfl, ⟨_, p, q, rfl, I.hok.fresh (Nat.le_refl _), rfl, fun l hl => ?_, fun l hl => ?_⟩, ⟨z2, ?_, ⟨x1, x2, ?_⟩, ?_, ?_⟩, fun c hcm => ?_⟩
    · rw [I.list_inj hl hps]; exact hp
    · rw [I.tuple_inj hl hqs]; exact hq
    · exact keepz _ _ D.TIz (n7 _ _ D.TIz D.TITO D.TIi1 D.TIi2 s2)
    · exact keepz _ _ D.TOz n2
    · exact n3.1.at fun o e => keepz _ o (Ne.symm D.zi1) e
    · exact n4.1.at fun o e => keepz _ o (Ne.symm D.zi2) e
    · have hlt : c < s.heap.objs.size := by
        rcases five hcm with rfl | rfl | rfl | rfl | rfl
        · exact zlt
        · exact Heap.lt_size s2
        · exact Heap.lt_size s3
        · obtain ⟨_, e1, _⟩ := s4; exact Heap.lt_size e1
        · obtain ⟨_, e2, _⟩ := s5; exact Heap.lt_size e2
      rw [upd_ne (Nat.ne_of_lt hlt)]
      exact (hf c hcm).1
  done := by
    intro X hP hw hK hc i pins s σ H E I hf st hg
    subst hP hw hK
    obtain ⟨s1, s2, ⟨p0, q0, s3⟩, s4, s5⟩ := st
    obtain ⟨ps, qs, hps, hqs, le1, le2, he⟩ := hg
    obtain ⟨its, rv, pl, _⟩ := I.list hps
    obtain ⟨its2, rv2, pt, _⟩ := I.tuple hqs
    have l1 := rv.length
    have l2 := rv2.length
    have D1 := Draws.list (prog := X.prog) (w := X.w) (A := X.A.in1) (by exact I.ok.hd hc) i1 a ha its.toArray
    have D2 := Draws.tuple (prog := X.prog) (w := X.w) (A := X.A.in1) (by exact I.ok.hd hc) i2 b hb its2.toArray
    refine wpAny_pyNext_zipD2_end D D1 D2 s1 s2 s3 ⟨s4, pl.isList⟩ ⟨s5, pt⟩ (by simp; omega) (by simp; omega) (by simp; omega) fun h' tk hk => ⟨rfl, ?_⟩
    exact I.turnedL (ch := [z, TI, TO, i1, i2]) (fun c o off e => hk c o (fun z => off (by simp [z])) (fun z => off (by simp [z])) (fun z => off (by simp [z])) (fun z => off (by simp [z])) e) hf
  self := fun A i s Q E st h => wpAny_pyIter_zip st.1 h
theorem zsep (n a b : Nat) (la : a < n) (lb : b < n) : ZipSep2 (n + 4) (n + 2) (n + 3) n (n + 1) [n, a] [n + 1, b] := by
  have e1 : n + 4 ≠ a ∧ n + 3 ≠ a ∧ n + 1 ≠ a ∧ n + 4 ≠ b ∧ n + 3 ≠ b ∧ n ≠ b := by omega
  obtain ⟨k1, k2, k3, k4, k5, k6⟩ := e1
  exact ⟨Nat.ne_of_lt (by omega), Nat.ne_of_lt (by omega), Nat.ne_of_lt (by omega), Nat.ne_of_gt (by omega), by simp, by simp [k1], by simp [k2], Nat.ne_of_gt (by omega), by simp, by simp [k4], by simp [k5], by simp [k6], by simp [k3]⟩
section
variable {X : Cx} {XP : Wish} {pos : Pos}
def iZipM (K : Fg) (ta : TA) : TI := fun σ H R => ta σ H fun vs H1 => ∃ a b ps qs, vs = [.ref a, .ref b] ∧ SqL K H1 a ps ∧ SqT K H1 b qs ∧ R (ItzM K a b) H1
theorem pi_zipM {e e2 : Expr} {ta : TA} {p tpos : Pos} {elts : List Expr} {kk : Nat} (hg : Gl X "zip") (hm : X.mg "zip" = none) (ha : PA X [e, e2] ta)
    (hs : starEach [e, e2] X.env = (false, eval e X.env) :: starEach [e2] X.env) (hpl : (backTo pos (starEach [e2] X.env)).any (·.1) = false) : PI X (.Tuple elts kk tpos) (.Call (.Name "zip" p) [e, e2] [] pos) (iZipM X.K ta) := by
  refine ⟨fun pins s σ H R I h => Call_ (ld_blt I hg hm PyProof.Rows.boot_zip (PyProof.Rows.callWith_type1 (thn (ha.run pos pins s σ H _ I h) fun us s1 ⟨vs, H1, I1, r1, q1⟩ => ?_) hs hpl))⟩
  obtain ⟨a, b, ps, qs, rfl, hps, hqs, q⟩ := q1
  cases r1 with
  | cons ra rr =>
    cases rr with
    | cons rb rr =>
      cases rr
      cases ra
      cases rb
      obtain ⟨its, rv, pl, _⟩ := I1.list hps
      obtain ⟨its2, rv2, pt, _⟩ := I1.tuple hqs
      have la : a < s1.heap.objs.size := pl.lt
      have lb : b < s1.heap.objs.size := pt.lt
      refine zip_begins2 (begins_list a its.toArray) (begins_tuple b its2.toArray) pl.isList pt fun h' hz hTI hTO h1 h2 hsz hk => wpAny_pyIter_zip hz ?_
      have hn := hsz
      refine ⟨s1.heap.objs.size + 4, [s1.heap.objs.size + 4, s1.heap.objs.size + 2, s1.heap.objs.size + 3, s1.heap.objs.size, s1.heap.objs.size + 1], _, _, H1, rfl, I1.kept (t' := s1.toks) hk, turn_zipM (zsep _ a b la lb) (Nat.ne_of_lt la) (Nat.ne_of_lt (Nat.lt_succ_of_lt lb)), ⟨hz, hTI, ⟨_, _, hTO⟩, ⟨_, h1, rfl, rfl⟩, ⟨_, h2, rfl, rfl⟩⟩, ?_, q⟩
      intro c hc
      have hle : s1.heap.objs.size ≤ c := by rcases five hc with rfl | rfl | rfl | rfl | rfl <;> first | exact Nat.le_add_right _ _ | exact Nat.le_refl _
      exact I1.fpOk hle (I1.hok.fresh hle)
theorem itr_zipM {K : Fg} {ρ : List Addr} {H : Hp} {n : Nat} {us : List W} {zs : List V} {a b : Addr} (h1 : ρ[n]? = some a) (g1 : H b = some (.tup zs)) (g2 : VRs K ρ H us zs) : ItR K ρ H (.zipM n us) (ItzM K a b) := by
  intro ρ' G' H' e s i
  have h1' := e.rho _ _ h1
  have g1' : SqT K H' b zs := .of (e.tups _ _ g1)
  have g2' := g2.mono e
  have gl := g2'.length
  simp only [PIt.at]
  cases hr : rdL G' n with
  | none => exact ⟨fun h => by simp at h, fun w h => by simp at h⟩
  | some ws =>
    obtain ⟨vs, q1, q2⟩ := rdL_ok s h1' hr
    have vl := q2.length
    simp only [Option.bind_some]
    by_cases hc : i ≤ ws.length ∧ i ≤ us.length
    · rw [if_pos hc]
      cases hx : ws[i]? with
      | none =>
        have := List.getElem?_eq_none_iff.mp hx
        exact ⟨fun h => ⟨vs, zs, q1, g1', by omega, by omega, .inl (by omega)⟩, fun w h => by simp at h⟩
      | some w0 =>
        cases hy : us[i]? with
        | none =>
          have := List.getElem?_eq_none_iff.mp hy
          exact ⟨fun h => ⟨vs, zs, q1, g1', by omega, by omega, .inr (by omega)⟩, fun w h => by simp at h⟩
        | some u0 =>
          refine ⟨fun h => by simp at h, fun w h => ?_⟩
          have : w = .tup [w0, u0] := by simp at h; exact h.symm
          subst this
          obtain ⟨v, k1, k2⟩ := q2.get hx
          obtain ⟨z, k3, k4⟩ := g2'.get hy
          refine ⟨⟨vs, zs, v, z, q1, g1', k1, k3⟩, fun v' H2 hh => ?_⟩
          obtain ⟨T, x, y, rfl, hT, rfl, hy1, hy2⟩ := hh
          have t1 := hy1 vs q1
          have t2 := hy2 zs g1'
          rw [k1] at t1; cases t1
          rw [k3] at t2; cases t2
          have ex : Ext K ρ' H' ρ' (upd H' T (.tup [v, z])) := ext_upd (.inl hT) fun _ _ h => h
          exact ⟨ex, s.fresh hT, .tup upd_same (.cons (k2.mono ex) (.cons (k4.mono ex) .nil))⟩
    · rw [if_neg hc]
      exact ⟨fun h => by simp at h, fun w h => by simp at h⟩
/-- zip of a list and a tuple, known to be so -/
def mZipL (m : MA) : MI := fun E G => (m E G).bind fun ws G' => match ws with
  | [.ref n, .tup ys] => (match rdL G' n with | some _ => .ok (.zipM n ys) G' | none => .no)
  | _ => .no
theorem hi_zipL {e e2 : Expr} {m : MA} {p tpos : Pos} {elts : List Expr} {kk : Nat} (hg : Gl X "zip") (hm : X.mg "zip" = none) (ha : HA X XP [e, e2] m)
    (hs : starEach [e, e2] X.env = (false, eval e X.env) :: starEach [e2] X.env := by rfl) (hpl : (backTo pos (starEach [e2] X.env)).any (·.1) = false := by rfl) : HI X XP (.Tuple elts kk tpos) (.Call (.Name "zip" p) [e, e2] [] pos) (mZipL m) := by
  obtain ⟨t, h1, h2⟩ := ha.ex
  refine ⟨_, pi_zipM hg hm h1 hs hpl, fun ρ E G σ H R er sr q => h2 ρ E G σ H _ er sr (q.bind fun ws G1 ρ1 H1 vs e1 s1 r1 k1 => ?_)⟩
  split at k1
  · split at k1
    · rename_i xs hr
      cases r1 with
      | cons r rr =>
        cases rr with
        | cons r' rr =>
          cases rr
          cases r with
          | ref hn =>
            cases r' with
            | tup g1 g2 =>
              obtain ⟨vs, q1, q2⟩ := rdL_ok s1 hn hr
              exact ⟨_, _, vs, _, rfl, q1, .of g1, k1.ok s1 (itr_zipM hn g1 g2)⟩
    · exact k1.elim
  · exact k1.elim
end
theorem s_zipL {E : PEnv} {G : Cells} {QI : PIt → Cells → Prop} (m m' : ME) : (mZipL (mCons m (mCons m' mNil)) E G).sat QI = (m E G).sat fun w G1 => (m' E G1).sat fun u G2 => ∃ n, w = .ref n ∧ ∃ ys, u = .tup ys ∧ (rdL G2 n).isSome = true ∧ QI (.zipM n ys) G2 := by
  unfold mZipL; rw [sat_bind, s_cons]; congr; funext x G1; rw [s_cons]; congr; funext y G2; rw [s_nil]
  cases x <;> cases y <;> simp
  rename_i i ys
  cases h : rdL G2 i <;> simp [h]
theorem s_zip {E : PEnv} {G : Cells} {QI : PIt → Cells → Prop} (m m' : ME) : (mZip (mCons m (mCons m' mNil)) E G).sat QI = (m E G).sat fun w G1 => (m' E G1).sat fun u G2 => (∃ xs, w = .tup xs ∧ ∃ ys, u = .tup ys ∧ QI (.zipT xs ys) G2) ∨ (∃ n, w = .ref n ∧ ∃ k, u = .ref k ∧ (rdL G2 n).isSome = true ∧ (rdL G2 k).isSome = true ∧ QI (.zipL n k) G2) := by
  unfold mZip; rw [sat_bind, s_cons]; congr; funext x G1; rw [s_cons]; congr; funext y G2; rw [s_nil]
  cases x <;> cases y <;> simp
  rename_i i k
  cases h : rdL G2 i <;> cases h' : rdL G2 k <;> simp [h, h']
theorem it_zipM {S : List Nat} {G : Cells} {n : Nat} {xs ys : List W} (h : G[n]? = some (.lst xs)) (hn : n ∉ S) (hl : xs.length = ys.length) : (PIt.zipM n ys).len G = (ziW xs ys).length ∧ ∀ G' i, i ≤ xs.length → Fr S G G' → (PIt.zipM n ys).at G' i = some (ziW xs ys)[i]? :=
  ⟨by rw [ziW_len]; simp [PIt.len, rdL, h], fun G' i hi f => by
    have h1 := f.get h hn
    rw [ziW_get]
    simp only [PIt.at, rdL, h1, Option.bind_some]
    rw [if_pos ⟨hi, by omega⟩]⟩
end PL
/- part PLy -/
set_option maxHeartbeats 1000000
namespace PL
open PySem PySem.Spec PyProof.Rows L2
section
variable {X : Cx} {XP : Wish} {pos : Pos} {k : Nat}
/-! ### dict(pairs), sorted(dict) -/
def pairsW : List W → Option (List (Key × W))
  | [] => some []
  | .tup [a, b] :: ws => (match keyW a, pairsW ws with | some k, some r => some ((k, b) :: r) | _, _ => none)
  | _ => none
theorem pairs_ok {K : Fg} {ρ : List Addr} {H : Hp} : ∀ {ws : List W} {vs : List V} {kvs : List (Key × W)}, VRs K ρ H ws vs → pairsW ws = some kvs →
    ∃ (ps : List Addr) (q : List (Key × V)), vs = ps.map V.ref ∧ Paired (fun p kv => SqT K H p [kV kv.1, kv.2]) ps q ∧ KVR K ρ H kvs q := by
  intro ws
  induction ws with
  | nil => intro vs kvs r h; cases r; cases h; exact ⟨[], [], rfl, .nil, .nil⟩
  | cons w ws ih =>
    intro vs kvs r h
    cases r with
    | cons r1 r2 =>
      cases w with
      | tup us =>
        match us, r1, h with
        | [a, b], r1, h =>
          simp only [pairsW] at h
          cases ha : keyW a with
          | none => rw [ha] at h; cases h
          | some ka =>
            cases hp : pairsW ws with
            | none => rw [ha, hp] at h; cases h
            | some rest =>
              rw [ha, hp] at h
              cases h
              cases r1 with
              | tup s1 s2 =>
                cases s2 with
                | cons t1 t2 =>
                  cases t2 with
                  | cons t3 t4 =>
                    cases t4
                    obtain ⟨ps, q, e1, e2, e3⟩ := ih r2 hp
                    have := keyW_ok t1 ha
                    subst this
                    exact ⟨_ :: ps, (ka, _) :: q, by rw [e1]; rfl, .cons (.of s1) e2, .cons t3 e3⟩
        | [], _, h => cases h
        | [_], _, h => cases h
        | _ :: _ :: _ :: _, _, h => cases h
      | _ => cases h
def dictW : GCall := fun G ws => match ws with
  | [.ref n] => (match rdL G n with | some xs => (match pairsW xs with | some kvs => .ok (.ref G.length) (G ++ [.dct (mergeW [] kvs)]) | none => .no) | none => .no)
  | _ => .no
theorem cg_dict (c : GC X XP k) : CaG X XP (.type "dict") dictW := by
  refine ⟨_, call_dictP c.calm, fun ρ G σ H ws vs Q s r o => ?_⟩
  unfold dictW at o
  split at o
  · cases r with
    | cons r rr =>
      cases rr
      cases r with
      | ref hn =>
        split at o
        · rename_i xs hx
          split at o
          · rename_i kvs hk
            obtain ⟨us, q1, q2⟩ := rdL_ok s hn hx
            obtain ⟨ps, q, rfl, e2, e3⟩ := pairs_ok q2 hk
            refine ⟨_, ps, q, rfl, q1, e2, fun p hp => ?_⟩
            have ex : Ext X.K ρ H (ρ ++ [p]) (upd H p (.dK (mergeK [] q))) := ext_alloc hp
            exact o (ρ ++ [p]) _ _ ex (s.alloc hp ⟨_, upd_same, KVR.merge (e3.mono ex) .nil⟩) (.ref (by rw [← s.len]; exact last_get _ _))
          · exact o.elim
        · exact o.elim
  · exact o.elim
def keysI : List (Key × W) → Option (List Int)
  | [] => some []
  | (.inl i, _) :: r => (keysI r).map (i :: ·)
  | _ => none
theorem keysI_ok {K : Fg} {ρ : List Addr} {H : Hp} : ∀ {kvs : List (Key × W)} {q : List (Key × V)} {ks : List Int}, KVR K ρ H kvs q → keysI kvs = some ks → q.map (·.1) = ks.map Sum.inl := by
  intro kvs
  induction kvs with
  | nil => intro q ks r h; cases r; cases h; rfl
  | cons p r ih =>
    intro q ks hr h
    cases hr with
    | cons h1 h2 =>
      rename_i key _ _ _
      cases key with
      | inl i =>
        simp only [keysI] at h
        cases hk : keysI r with
        | none => rw [hk] at h; cases h
        | some js => rw [hk] at h; cases h; rw [List.map_cons, List.map_cons, ih h2 hk]
      | inr x => cases h
def sortedDW : GCall := fun G ws => match ws with
  | [.ref n] => (match G[n]? with | some (.dct kvs) => (match keysI kvs with | some ks => if ks.length < 64 then .ok (.ref G.length) (G ++ [.lst ((ks.mergeSort leB).map W.int)]) else .no | none => .no) | _ => .no)
  | _ => .no
theorem cg_sortedD (c : GC X XP k) : CaG X XP (.builtin "sorted") sortedDW := by
  refine ⟨_, call_sortedDI c.calm, fun ρ G σ H ws vs Q s r o => ?_⟩
  unfold sortedDW at o
  split at o
  · cases r with
    | cons r rr =>
      cases rr
      cases r with
      | ref hn =>
        split at o
        · rename_i kvs hc
          split at o
          · rename_i ks hk
            split at o
            · rename_i h64
              obtain ⟨q, q1, q2⟩ := cell_dct s hn hc
              exact ⟨_, q, ks, rfl, .of q1, keysI_ok q2 hk, h64, fun ys p h1 h2 hp => by rw [sort_is h1 h2]; exact out_lst o s (vrs_ints _) hp⟩
            · exact o.elim
          · exact o.elim
        · exact o.elim
  · exact o.elim
end
end PL
/- part PLA -/
set_option maxHeartbeats 1000000
namespace PL
open PySem PySem.Spec PyProof.Rows L2
/-! ### a list put into two names -/
def gLstW (n : Nat) (m : MGs) : MG := fun w E G => match w with
  | .ref k => (match G[k]? with | some (.lst ws) => if ws.length = n then m ws E G else .no | _ => .no)
  | _ => .no
section
variable {X : Cx} {XP : Wish} {pos : Pos}
theorem hg_lst {es : List Expr} {kk : Nat} {n : Nat} {sl : List Nat} {m : MGs} (hc : X.calm = true) (h : HGs X XP es sl m) (hn : (assignEach es X.env).length = n := by rfl) (hst : (assignEach es X.env).findIdx? (·.1) = none := by rfl) : HG X XP (.Tuple es kk pos) sl (gLstW n m) := by
  obtain ⟨g, h1, h2⟩ := h.ex
  refine ⟨_, pg_lst hc h1 hn hst, fun ρ w E G v σ H Q r er sr q => ?_⟩
  unfold gLstW at q
  split at q
  · cases r with
    | ref ha =>
      split at q
      · rename_i hG
        split at q
        · rename_i hn
          obtain ⟨vs, e, rs⟩ := sr.cell _ _ _ hG ha
          exact ⟨_, _, rfl, .inl (.inl e), by rw [← rs.length]; exact hn, h2 ρ _ E G _ σ σ H Q rs er rfl (fun _ _ => rfl) sr q⟩
        · exact q.elim
      · exact q.elim
  · exact q.elim
end
section
variable {E : PEnv} {G : Cells} {N : PEnv → Cells → Prop} {R : W → Cells → Prop}
theorem g_lst2 {i j k : Nat} {x y : W} (h : G[k]? = some (.lst [x, y])) : (gLstW 2 (gsCons i (gsCons j gsNil)) (.ref k) E G).sat N = N ((E.set i (some x)).set j (some y)) G := by
  unfold gLstW
  simp only [h]
  rfl
end
end PL
/- part PLB -/
set_option maxHeartbeats 1000000
namespace PL
open PySem PySem.Spec PyProof.Rows L2
/-! ### functions handed in -/
section
variable {X : Cx} {XP : Wish} {pos p : Pos} {k : Nat} {f : Addr} {fd : FuncData} {ps : List Str} {F : PF} {x : Str}
theorem he_fn (hg : Gl X x) (hm : X.mg x = some (.ref f)) (hdb : (x == ("__debug__" : Str)) = false := by decide) : HE X XP (.Name x pos) (mC (.fn f)) :=
  ⟨_, pe_glob hg hm (show RelV (.ref f) (.ref f) from rfl) hdb, fun ρ E G σ H Q er sr q => q.ok sr (.fn f)⟩
/-- the call of a local name that holds a function that is known -/
def mDefL (i : Nat) (f : Addr) (F : PF) (m : MA) : ME := fun E G => match E[i]? with
  | some (some (.fn g)) => if g = f then (m E G).bind fun ws G' => F ws G' else .no
  | _ => .no
theorem he_callL {i : Nat} {e : Expr} {es : List Expr} {m : MA} (h : FnG X.prog X.w X.K X.mg X.base k f fd ps F) (c : GC X XP k) (hN : X.N[i]? = some x) (hv : Vis X.env.scope x) (hk : PySem.W.keepIn X.K (.ref f) = true) (hb : Binds X.K fd ps []) (ha : HA X XP (e :: es) m)
    (hdb : (x == ("__debug__" : Str)) = false := by decide) (hcd : (x == ("__classdict__" : Str)) = false := by decide) (he : starEach (e :: es) X.env = (false, eval e X.env) :: starEach es X.env := by rfl) (hpl : (backTo pos (starEach es X.env)).any (·.1) = false := by rfl) : HE X XP (.Call (.Name x p) (e :: es) [] pos) (mDefL i f F m) := by
  obtain ⟨t, a1, a2⟩ := ha.ex
  refine ⟨fun σ H Q => tVar i σ H fun v H0 => v = .ref f ∧ t σ H0 fun vs H1 => ∃ ρ G ws, VRs X.K ρ H1 ws vs ∧ SR X.K ρ G H1 ∧ Out X.K XP (VR X.K) σ ρ H1 (F ws G) Q, ⟨fun pins s σ H Q I q => ?_⟩, fun ρ E G σ H Q er sr q => ?_⟩
  · refine wpAny_Call_Name_kw (thn ((pe_var hN hv hdb hcd).run pins s σ H _ I q) fun u s0 ⟨v, H0, I0, r0, hv0, q0⟩ => ?_)
    subst hv0
    obtain rfl : u = .ref f := r0
    refine PySem.W.callWith_K (h₀ := X.base) I0.ok.mod.kin hk (thn (a1.run pos pins s0 σ H0 _ I0 q0) fun us s1 ⟨vs, H1, I1, r, ρ, G, ws, q1, q2, q3⟩ => ⟨I1.kIn, ?_⟩) he hpl
    exact h.runC c (args := ⟨us, []⟩) I1 (fun hl => by have := hb s1 us I1.kIn (by rw [List.append_nil]; exact hl); rwa [List.append_nil] at this) r q1 q2 q3
  · unfold mDefL at q
    split at q
    · rename_i g hg
      split at q
      · rename_i hgf
        subst hgf
        obtain ⟨v, hv1, hv2⟩ := er.get hg
        cases hv2
        exact ⟨_, hv1, rfl, a2 ρ E G σ H _ er sr (q.bind fun ws G1 ρ1 H1 vs e1 s1 q1 k1 => ⟨ρ1, G1, ws, q1, s1, k1⟩)⟩
      · exact q.elim
    · exact q.elim
end
end PL
/- part PLC -/
set_option maxHeartbeats 1000000
namespace PL
open PySem PySem.Spec PyProof.Rows L2
/-! ### dict comprehensions -/
section
variable {X : Cx} {XP : Wish} {pos : Pos}
/-- the dict at the cell n is filled -/
def dcL (pit : PIt) (g : MG) (t : MT) (mk mv : ME) (n : Nat) (E : PEnv) : Nat → Nat → Cells → Option Cells
  | fuel, i, G => match pit.at G i with
    | none => none
    | some none => some G
    | some (some w) => match fuel with
      | 0 => none
      | k + 1 => match g w E G with
        | .ok E1 G1 => (match t E1 G1 with
          | .ok true G2 => (match mk E1 G2 with
            | .ok y G3 => (match mv E1 G3 with
              | .ok z G4 => (match keyW y with
                | some ky => (match G4[n]? with
                  | some (.dct kvs) => if kvs.length < sizeLine then dcL pit g t mk mv n E k (i + 1) (G4.set n (.dct (putW kvs ky z))) else none
                  | _ => none)
                | none => none)
              | _ => none)
            | _ => none)
          | .ok false G2 => dcL pit g t mk mv n E k (i + 1) G2
          | _ => none)
        | _ => none
@[irreducible] def mDc (mi : MI) (g : MG) (t : MT) (mk mv : ME) (vs : List Nat) : ME := fun E G => (mi E G).bind fun pit G1 =>
  match dcL pit g t mk mv G1.length (wipeE E vs) (pit.len G1) 0 (G1 ++ [.dct []]) with
  | some G2 => .ok (.ref G1.length) G2
  | none => .no
theorem dc_runA (A : List Addr → PEnv → Cells → St → Hp → Prop) {wi : TI} {mi : MI} {g : MG} {t : MT} {mk mv : ME} {vs sl : List Nat} (hsl : ∀ i ∈ sl, i ∈ vs)
    (i2 : ∀ ρ E G σ H R, A ρ E G σ H → ER X.K ρ H E σ → SR X.K ρ G H → Out X.K XP (ItR X.K) σ ρ H (mi E G) R → wi σ H R) :
    ∀ ρ E G σ H Q, A ρ E G σ H → ER X.K ρ H E σ → SR X.K ρ G H → Out X.K XP (VR X.K) σ ρ H (mDc mi g t mk mv vs E G) Q → tDc wi (rdG X.K noX sl g) (rdT X.K noX t) (rdE X.K noX mk) (rdE X.K noX mv) vs σ H Q := by
  intro ρ E G σ H Q ha0 er sr q
  unfold mDc at q
  refine i2 ρ E G σ H _ ha0 er sr (q.bind fun pit G1 ρ1 H1 J e1 s1 r1 k1 => ?_)
  intro D hD
  have hcell : CR X.K (ρ1 ++ [D]) (upd H1 D (.dK [])) (.dct []) D := ⟨[], upd_same, .nil⟩
  have sA := s1.alloc hD hcell
  have eA : Ext X.K ρ1 H1 (ρ1 ++ [D]) (upd H1 D (.dK [])) := ext_alloc hD
  have hn : (ρ1 ++ [D])[G1.length]? = some D := by rw [← s1.len]; exact last_get _ _
  refine ⟨fun i k H' => ∃ ρ' G', Ext X.K (ρ1 ++ [D]) (upd H1 D (.dK [])) ρ' H' ∧ SR X.K ρ' G' H' ∧ ∃ G2, dcL pit g t mk mv G1.length (wipeE E vs) k i G' = some G2 ∧ Out X.K XP (VR X.K) σ ρ' H' (.ok (.ref G1.length) G2) Q, ?_, ?_⟩
  · cases hr : dcL pit g t mk mv G1.length (wipeE E vs) (pit.len G1) 0 (G1 ++ [.dct []]) with
    | none => rw [hr] at k1; exact k1.elim
    | some G2 => rw [hr] at k1; exact ⟨_, ρ1 ++ [D], G1 ++ [.dct []], .refl, sA, G2, hr, Out.mono k1 eA⟩
  · rintro i k H' ⟨ρ', G', ex, s', G2, hl, o⟩
    obtain ⟨hstop, hgo⟩ := r1 ρ' G' H' (eA.trans ex) s' i
    have hn' := ex.rho _ _ hn
    unfold dcL at hl
    split at hl
    · cases hl
    · rename_i ha
      cases hl
      exact .inl ⟨hstop ha, o.ok s' (.ref hn')⟩
    · rename_i w ha
      obtain ⟨go, hy⟩ := hgo w ha
      split at hl
      · cases hl
      · rename_i k0
        refine .inr ⟨go, fun H2 => ∃ ρ2 G3, Ext X.K (ρ1 ++ [D]) (upd H1 D (.dK [])) ρ2 H2 ∧ SR X.K ρ2 G3 H2 ∧ ∃ G2, dcL pit g t mk mv G1.length (wipeE E vs) k0 (i + 1) G3 = some G2 ∧ Out X.K XP (VR X.K) σ ρ2 H2 (.ok (.ref G1.length) G2) Q, fun H2 h => ⟨k0, Nat.lt_succ_self _, h⟩, fun x H2 y => ?_⟩
        obtain ⟨y1, y2, y3⟩ := hy x H2 y
        have erw : ER X.K ρ' H2 (wipeE E vs) (L2.wipe σ vs) := ((er.mono (e1.trans (eA.trans (ex.trans y1)))).wipe vs)
        refine ⟨ρ', w, wipeE E vs, G', y3, erw, y2, ?_⟩
        split at hl
        · rename_i E1 G3 hg
          rw [hg]
          intro ρ3 H3 σ3 e3 s3 r3
          refine ⟨wipe_again ?_ r3.2.2 hsl, ρ3, E1, G3, r3.1, s3, ?_⟩
          · rw [r3.2.1, L2.wipe_length]
          · split at hl
            · rename_i G4 ht
              rw [ht]
              intro ρ4 H4 b e4 s4 hb
              cases hb
              rw [if_pos rfl]
              refine ⟨ρ4, E1, G4, r3.1.mono e4, s4, ?_⟩
              split at hl
              · rename_i yw G5 hm
                rw [hm]
                intro ρ5 H5 v e5 s5 r5
                refine ⟨ρ5, E1, G5, (r3.1.mono e4).mono e5, s5, ?_⟩
                split at hl
                · rename_i zw G6 hm2
                  rw [hm2]
                  intro ρ6 H6 z e6 s6 r6
                  have ext6 : Ext X.K ρ' H' ρ6 H6 := y1.trans (e3.trans (e4.trans (e5.trans e6)))
                  have hn6 := ext6.rho _ _ hn'
                  split at hl
                  · rename_i ky hky
                    split at hl
                    · rename_i acc hc
                      split at hl
                      · rename_i hz
                        obtain ⟨us, q1, q2⟩ := cell_dct s6 hn6 hc
                        have exw : Ext X.K ρ6 H6 ρ6 (upd H6 D (.dK (putK us ky z))) := s6.ext_write hc hn6 rfl
                        refine ⟨us, ky, keyW_ok r5 hky, q1, by rw [← q2.length]; exact hz, ρ6, _, (ex.trans ext6).trans exw, s6.write (c' := .dct (putW acc ky zw)) hc hn6 rfl rfl ⟨putK us ky z, upd_same, (q2.mono exw).put (r6.mono exw)⟩, G2, hl, Out.mono o (ext6.trans exw)⟩
                      · cases hl
                    · cases hl
                  · cases hl
                · cases hl
              · cases hl
            · rename_i G4 ht
              rw [ht]
              intro ρ4 H4 b e4 s4 hb
              cases hb
              rw [if_neg Bool.false_ne_true]
              have ext4 : Ext X.K ρ' H' ρ4 H4 := y1.trans (e3.trans e4)
              exact ⟨ρ4, G4, ex.trans ext4, s4, G2, hl, Out.mono o ext4⟩
            · cases hl
        · cases hl
theorem dc_run {wi : TI} {mi : MI} {g : MG} {t : MT} {mk mv : ME} {vs sl : List Nat} (hsl : ∀ i ∈ sl, i ∈ vs)
    (i2 : ∀ ρ E G σ H R, ER X.K ρ H E σ → SR X.K ρ G H → Out X.K XP (ItR X.K) σ ρ H (mi E G) R → wi σ H R) :
    ∀ ρ E G σ H Q, ER X.K ρ H E σ → SR X.K ρ G H → Out X.K XP (VR X.K) σ ρ H (mDc mi g t mk mv vs E G) Q → tDc wi (rdG X.K noX sl g) (rdT X.K noX t) (rdE X.K noX mk) (rdE X.K noX mv) vs σ H Q :=
  fun ρ E G σ H Q => dc_runA (fun _ _ _ _ _ => True) hsl (fun ρ E G σ H R _ => i2 ρ E G σ H R) ρ E G σ H Q trivial
theorem he_dc {kx vx tg iter : Expr} {ifs : List Expr} {scope : Scope} {own : List (Str × Nat)} {mi : MI} {g : MG} {t : MT} {mk mv : ME} {sl : List Nat} {k : Nat} (c : GC X XP k) (hi : HI X XP tg iter mi) (ok : blkC X.N X.env.scope scope own = true)
    (hg : ∀ (s : Shared) (H : Hp) (C : Addr) (cl : List (Str × Addr)) (fp : List Addr), HG (X.blk s H scope (compEnvC scope cl C X.env) fp) noX tg sl g)
    (ht : ∀ (s : Shared) (H : Hp) (C : Addr) (cl : List (Str × Addr)) (fp : List Addr), HTs (X.blk s H scope (compEnvC scope cl C X.env) fp) noX ifs t)
    (hk : ∀ (s : Shared) (H : Hp) (C : Addr) (cl : List (Str × Addr)) (fp : List Addr), HE (X.blk s H scope (compEnvC scope cl C X.env) fp) noX kx mk)
    (hv : ∀ (s : Shared) (H : Hp) (C : Addr) (cl : List (Str × Addr)) (fp : List Addr), HE (X.blk s H scope (compEnvC scope cl C X.env) fp) noX vx mv)
    (hsl : (sl.all fun i => (own.map (·.2)).contains i) = true := by rfl) (hs : ∀ x, foldedSetIterable iter X.env x = pure x := by intro _; rfl) : HE X XP (.DictComp kx vx [⟨tg, iter, ifs, 0⟩] scope pos) (mDc mi g t mk mv (own.map (·.2))) := by
  obtain ⟨wi, i1, i2⟩ := hi.ex
  have hsl' : ∀ i ∈ sl, i ∈ own.map (·.2) := fun i h => by simpa using List.all_eq_true.mp hsl i h
  exact ⟨_, pe_dc c.calm c.nd i1 (blkOk_by ok) (fun s H C cl fp => (hg s H C cl fp).rd) (fun s H C cl fp => (ht s H C cl fp).rd) (fun s H C cl fp => (hk s H C cl fp).rd) (fun s H C cl fp => (hv s H C cl fp).rd) hs, dc_run hsl' i2⟩
end
end PL
/- part PLD -/
set_option maxHeartbeats 1000000
namespace PL
open PySem PySem.Spec PyProof.Rows L2
/-! ### sorted of a tuple of ints -/
section
variable {prog : Program} {w : World} {A : Around} {E : Value → Shared → Prop} {s : Shared}
theorem collect_tup {l : Addr} {vs : List Value} {Q : List Value → Shared → Prop} (hl : IsTup s.heap l vs.toArray) (hz : vs.length ≤ sizeLine)
    (h : Q vs { s with heap := (s.heap.push (seqObj "list" #[] 0)).update s.heap.objs.size (Obj.mapSeq (· ++ vs.toArray)) }) :
    wpAny (model prog w) A (collect (.ref l)) Q E s := by
  obtain ⟨o, ho, hc, n, hd⟩ := hl
  have hu := get?_update_seq (h := s.heap.push (seqObj "list" #[] 0)) (xs := #[]) (n := 0) (Heap.get?_push_size _ rfl) (· ++ vs.toArray)
  have hnew : (s.heap.push (seqObj "list" #[] 0)).get? s.heap.objs.size = some (seqObj "list" #[] 0) := Heap.get?_push_size _ rfl
  unfold collect
  refine wpAny_bind (wpAny_runValue (codeAny_builtin entry_proto_collect' ?_))
  refine wpAny_bind (wpAny_newList (wpAny_pure ⟨Code.quiet_builtin _ (by decide +kernel), codeAny_builtin entry_list_iadd' ?_⟩))
  show wpAny _ _ (Builtin.List.listExtendWith (.ref s.heap.objs.size) (.ref l) (.ref s.heap.objs.size)) _ _ { s with heap := s.heap.push (seqObj "list" #[] 0) }
  unfold Builtin.List.listExtendWith
  have old : (s.heap.push (seqObj "list" #[] 0)).get? l = some o := Heap.get?_push_of_some _ ho
  refine wpAny_bind (wpAny_typeOf (T := "tuple") ⟨o, old, hc⟩ ?_)
  rw [if_pos (by rw [show (Value.type "tuple" == Value.type "tuple") = true from rfl]; simp)]
  refine wpAny_bind (listItems_at old hd (wpAny_bind (listItems_at hnew rfl ?_)))
  rw [if_neg (by simp)]
  refine wpAny_bind (listUpdate_at hnew rfl (wpAny_pure ?_) (Nat.zero_le _) (by show (#[] ++ vs.toArray).size ≤ sizeLine + 1; simp only [Array.size_append, List.size_toArray, List.length_nil]; omega))
  refine wpAny_bind (wpAny_load hu ?_)
  show wpAny _ _ (pure ((#[] : Array Value) ++ vs.toArray).toList) Q E _
  rw [show ((#[] : Array Value) ++ vs.toArray).toList = vs by simp]
  exact wpAny_pure h
theorem sorted_tup {l : Addr} {vs : List Value} {ns : List Int} {Q : Value → Shared → Prop} (hl : IsTup s.heap l vs.toArray) (hI : IntsAre vs ns) (h64 : vs.length < 64)
    (h : ∀ (out : Array Value) (ns' : List Int), IntsAre out.toList ns' → ns'.Perm ns → ns'.Pairwise (· ≤ ·) → Q (.ref (s.heap.objs.size + 1)) { s with heap := sortedAll s.heap vs out }) :
    wpAny (model prog w) A (call (.builtin "sorted") [.ref l]) Q E s := by
  have hsz : ((s.heap.push (seqObj "list" #[] 0)).update s.heap.objs.size (Obj.mapSeq (· ++ vs.toArray))).objs.size = s.heap.objs.size + 1 := by
    rw [Heap.size_update, size_push']
  refine Calls.call_function_entry kind_sorted plain_sorted entry_sorted (args_sorted1 _) ?_
  unfold Builtin.«sorted»
  refine wpAny_bind (m := checkCount "sorted" 1 1 _) (wpAny_pure ?_)
  refine wpAny_bind (collect_tup hl (by rw [sizeLine_eq]; omega) (wpAny_bind (wpAny_newList ?_)))
  have hnew : (((s.heap.push (seqObj "list" #[] 0)).update s.heap.objs.size (Obj.mapSeq (· ++ vs.toArray))).push (seqObj "list" vs.toArray 0)).get? (s.heap.objs.size + 1) = some (seqObj "list" vs.toArray 0) := by
    rw [← hsz]; exact Heap.get?_push_size _ rfl
  show wpAny _ _ _ _ _ { s with heap := ((s.heap.push (seqObj "list" #[] 0)).update s.heap.objs.size (Obj.mapSeq (· ++ vs.toArray))).push (seqObj "list" vs.toArray 0) }
  rw [hsz]
  exact wpAny_bind (wpAny_holding (wpAny_call_entry slot_list_sort ⟨_, hnew, rfl⟩ entry_list_sort (list_sort_tree hnew hI h64 fun out ns' a1 a2 a3 => ⟨_, rfl, wpAny_pure ⟨_, rfl, h out ns' a1 a2 a3⟩⟩) (args_list_sort _)))
end
section
variable {X : Cx} {XP : Wish}
def rSortedTu (K : PySem.W.Frag) : List V → Hp → VK → Prop := fun vs H Q => ∃ (a : Addr) (ns : List Int), vs = [V.ref a] ∧ SqT K H a (ns.map V.int) ∧ ns.length < 64 ∧
  ∀ (ns' : List Int) (p : Addr), ns'.Perm ns → ns'.Pairwise (· ≤ ·) → H p = none → Q (.ref p) (upd H p (.lst (ns'.map V.int)))
theorem cr_sortedTu : CallR X (.builtin "sorted") (rSortedTu X.K) := by
  intro pins s σ H vs us Q I r h
  obtain ⟨a, ns, rfl, hs, h64, q⟩ := h
  obtain ⟨its, rv, hl, _⟩ := I.tuple hs
  rw [Vals.ref1 r]
  have hi := rv.ints
  refine sorted_tup hl hi (by rw [hi.length]; exact h64) fun out ns' h1 h2 h3 => ?_
  obtain ⟨ep, he'⟩ := PyProof.Rows.sortedAll_at s.heap its out
  have hlen : (ns'.map V.int).length ≤ sizeLine := by rw [List.length_map, h2.length_eq]; exact small64 h64
  exact ⟨.ref _, upd H (s.heap.objs.size + 1) (.lst (ns'.map V.int)), I.laid (t' := s.toks) (fun _ _ => PyProof.Rows.sortedAll_old) (Nat.le_succ _) ⟨hlen, out.toList, ep, vals_of_ints h1, he'⟩, rfl, q ns' _ h2 h3 (I.hok.fresh (Nat.le_succ _))⟩
def sortedTW : GCall := fun G ws => match ws with
  | [.tup xs] => (match intsW xs with | some is => if is.length < 64 then .ok (.ref G.length) (G ++ [.lst ((is.mergeSort leB).map W.int)]) else .no | none => .no)
  | _ => .no
theorem cg_sortedT : CaG X XP (.builtin "sorted") sortedTW := by
  refine ⟨_, cr_sortedTu, fun ρ G σ H ws vs Q s r o => ?_⟩
  unfold sortedTW at o
  split at o
  · cases r with
    | cons r rr =>
      cases rr
      cases r with
      | tup h1 h2 =>
        split at o
        · rename_i is hi
          split at o
          · rename_i h64
            exact ⟨_, is, rfl, by rw [← intsW_ok h2 hi]; exact SqT.of h1, h64, fun ns' p h1 h2 hp => by rw [sort_is h1 h2]; exact out_lst o s (vrs_ints _) hp⟩
          · exact o.elim
        · exact o.elim
  · exact o.elim
end
end PL
/- part PLE -/
set_option maxHeartbeats 1000000
namespace PL
open PySem PySem.Spec PyProof.Rows L2
/-! ### in and not in of a dict -/
section
variable {X : Cx} {XP : Wish} {pos : Pos}
def inDW (neg : Bool) : GOp := fun G x y => match y with
  | .ref n => (match G[n]? with
    | some (.dct kvs) => (match keyW x with | some k => .ok (.bl (if neg then !(valW kvs k).isSome else (valW kvs k).isSome)) G | none => .no)
    | some (.lkd kvs) => (match keyW x with | some k => .ok (.bl (if neg then !(valW kvs k).isSome else (valW kvs k).isSome)) G | none => .no)
    | some (.tct kvs) => (match tkW x with | some k => .ok (.bl (if neg then !(valW kvs k).isSome else (valW kvs k).isSome)) G | none => .no)
    | _ => .no)
  | _ => .no
theorem KVR.vals {κ : Type} [DecidableEq κ] {K : Fg} {ρ : List Addr} {H : Hp} {k : κ} : ∀ {r : List (κ × W)} {q : List (κ × V)}, KVR K ρ H r q → (valV q k).isSome = (valW r k).isSome := by
  intro r q h
  cases hw : valW r k with
  | some w =>
    obtain ⟨v, e, _⟩ := h.val hw
    rw [e]; rfl
  | none => rw [h.val_none hw]; rfl
theorem ind_run {neg : Bool} {ta tb : TE} {ma mb : ME}
    (a2 : ∀ ρ E G σ H Q, ER X.K ρ H E σ → SR X.K ρ G H → Out X.K XP (VR X.K) σ ρ H (ma E G) Q → ta σ H Q)
    (b2 : ∀ ρ E G σ H Q, ER X.K ρ H E σ → SR X.K ρ G H → Out X.K XP (VR X.K) σ ρ H (mb E G) Q → tb σ H Q) :
    ∀ ρ E G σ H Q, ER X.K ρ H E σ → SR X.K ρ G H → Out X.K XP (VR X.K) σ ρ H (mBin (inDW neg) ma mb E G) Q → ta σ H fun y H1 => tb σ H1 fun x H2 => ∃ a o, x = .ref a ∧ DGet H2 a y o ∧ Q (.bl (if neg then !o.isSome else o.isSome)) H2 := by
  intro ρ E G σ H Q er sr q
  refine a2 ρ E G σ H _ er sr (q.bind fun x G1 ρ1 H1 v e1 s1 r1 k1 => b2 ρ1 E G1 σ H1 _ (er.mono e1) s1 (k1.bind fun y G2 ρ2 H2 u e2 s2 r2 k2 => ?_))
  unfold inDW at k2
  split at k2
  · cases r2 with
    | ref hn =>
      split at k2
      · rename_i kvs hk
        obtain ⟨q1, f1, f2⟩ := cell_dct s2 hn hk
        split at k2
        · rename_i k ek
          refine ⟨_, valV q1 k, rfl, .inl ⟨q1, k, .inl f1, keyW_ok (r1.mono e2) ek, rfl⟩, ?_⟩
          rw [f2.vals]
          exact k2.ok s2 (.bl _)
        · exact k2.elim
      · rename_i kvs hk
        obtain ⟨o1, q1, f1, f2⟩ := cell_lkd s2 hn hk
        split at k2
        · rename_i k ek
          refine ⟨_, valV q1 k, rfl, .inl ⟨q1, k, .inr ⟨o1, f1⟩, keyW_ok (r1.mono e2) ek, rfl⟩, ?_⟩
          rw [f2.vals]
          exact k2.ok s2 (.bl _)
        · exact k2.elim
      · rename_i kvs hk
        obtain ⟨q1, f1, f2⟩ := cell_tct s2 hn hk
        split at k2
        · rename_i k ek
          obtain ⟨b, eb, hb⟩ := tkW_ok (r1.mono e2) ek
          refine ⟨_, valV q1 k, rfl, .inr ⟨q1, k, b, .inl f1, eb, hb, rfl⟩, ?_⟩
          rw [f2.vals]
          exact k2.ok s2 (.bl _)
        · exact k2.elim
      · exact k2.elim
  · exact k2.elim
theorem he_inD {a b : Expr} {ma mb : ME} (hu : X.A.units + 1 < cLine) (ha : HE X XP a ma) (hb : HE X XP b mb) (hm : behindInMarks .In b = false := by rfl) : HE X XP (.Compare a [.In] [b] pos) (mBin (inDW false) ma mb) := by
  obtain ⟨ta, a1, a2⟩ := ha.ex
  obtain ⟨tb, b1, b2⟩ := hb.ex
  exact ⟨_, pe_cmp (pc_din hu a1 b1) hm, ind_run a2 b2⟩
theorem he_notinD {a b : Expr} {ma mb : ME} (hu : X.A.units + 1 < cLine) (ha : HE X XP a ma) (hb : HE X XP b mb) (hm : behindInMarks .NotIn b = false := by rfl) : HE X XP (.Compare a [.NotIn] [b] pos) (mBin (inDW true) ma mb) := by
  obtain ⟨ta, a1, a2⟩ := ha.ex
  obtain ⟨tb, b1, b2⟩ := hb.ex
  exact ⟨_, pe_cmp (pc_dnotin hu a1 b1) hm, ind_run a2 b2⟩
theorem ht_inD {a b : Expr} {ma mb : ME} (hu : X.A.units + 1 < cLine) (ha : HE X XP a ma) (hb : HE X XP b mb) (hm : behindInMarks .In b = false := by rfl) : HT X XP (.Compare a [.In] [b] pos) (mTest (mBin (inDW false) ma mb)) := by
  obtain ⟨ta, a1, a2⟩ := ha.ex
  obtain ⟨tb, b1, b2⟩ := hb.ex
  exact ⟨_, pt_cmp (pc_din hu a1 b1) hm, test_run (ind_run a2 b2)⟩
theorem ht_notinD {a b : Expr} {ma mb : ME} (hu : X.A.units + 1 < cLine) (ha : HE X XP a ma) (hb : HE X XP b mb) (hm : behindInMarks .NotIn b = false := by rfl) : HT X XP (.Compare a [.NotIn] [b] pos) (mTest (mBin (inDW true) ma mb)) := by
  obtain ⟨ta, a1, a2⟩ := ha.ex
  obtain ⟨tb, b1, b2⟩ := hb.ex
  exact ⟨_, pt_cmp (pc_dnotin hu a1 b1) hm, test_run (ind_run a2 b2)⟩
end
/-! ### a loop that ends, by a measure -/
theorem so_while {c : MT} {b : MS} {N : PEnv → Cells → Prop} {R : W → Cells → Prop} (I : Nat → PEnv → Cells → Prop)
    (h : ∀ m E G, I m E G → (c E G).sat fun k G1 => if k = true then ∃ m', m = m' + 1 ∧ (b E G1).sat (I m') R else N E G1) :
    ∀ m E G, I m E G → (sWhile c b E G).sat N R := by
  have key : ∀ m E G, I m E G → (whL c b (m + 1) E G).sat N R := by
    intro m
    induction m with
    | zero =>
      intro E G hI
      have q := h 0 E G hI
      unfold whL liftS
      cases hc : c E G with
      | ok k G1 =>
        rw [hc] at q
        cases k with
        | true => obtain ⟨m', e, _⟩ := q; omega
        | false => exact q
      | ex e G1 => rw [hc] at q; exact q.elim
      | no => rw [hc] at q; exact q.elim
    | succ m ih =>
      intro E G hI
      have q := h (m + 1) E G hI
      unfold whL liftS
      cases hc : c E G with
      | ok k G1 =>
        rw [hc] at q
        cases k with
        | true =>
          obtain ⟨m', e, q⟩ := q
          obtain rfl : m' = m := by omega
          show So.sat (match b E G1 with | .nx E2 G2 => whL c b (m' + 1) E2 G2 | .ct E2 G2 => whL c b (m' + 1) E2 G2 | .bk E2 G2 => .nx E2 G2 | r => r) N R
          cases hb : b E G1 with
          | nx E2 G2 => rw [hb] at q; exact ih E2 G2 q
          | rt w2 G2 => rw [hb] at q; exact q
          | ct E2 G2 => rw [hb] at q; exact q.elim
          | bk E2 G2 => rw [hb] at q; exact q.elim
          | ex e2 E2 G2 => rw [hb] at q; exact q.elim
          | no => rw [hb] at q; exact q.elim
        | false => exact q
      | ex e G1 => rw [hc] at q; exact q.elim
      | no => rw [hc] at q; exact q.elim
  intro m E G hI
  have q := key m E G hI
  rw [sWhile_of rfl (n := m + 1) fun z => by rw [z] at q; exact q]
  exact q
/-! ### the end, where functions are handed in -/
theorem law_walkV {ι : Type} {l : PySem.W.OpenLaw} {n k : Nat} {q : Program} {loose : List Str} {XP : (Str → Option Value) → Heap → Prop} {YP : World → Heap → Prop} {d : DefRec} {K : Params → Fg} {x : Str} {F : ι → PF}
    (hn : l.most = some n) (hn2 : n ≤ sizeLine) (hdf : d.params.defaults = []) (himp : importsNone q = true) (hr : Room k callerA) (hY : ∀ (w : World) (h : Heap), YP w h → (K w.params).In h)
    (hF : ∀ (w : World) (mg : Str → Option Value) (fa : Addr) (h : Heap), (K w.params).In h → h.Ns mainGlobals mg → mg d.name = some (.ref fa) →
      ∃ (v : ι) (fd : FuncData), (∀ (s : Shared) (u : Value), BindsTo s fd ⟨[u], []⟩ [(x, u)]) ∧ ∀ base : Heap, (K w.params).In base → base.Ns mainGlobals mg → SysD base → FnG l.prog w (K w.params) mg base k fa fd [x] (F v))
    (hlaw : ∀ (v : ι) (ns : List Int), ns.length ≤ n → ∃ G, F v [.ref 0] [.rol (ns.map W.int)] = .ok (.bl true) G) :
    PySem.W.WalkO q loose XP YP l.row.toRowW d [] (fun f vs => PySem.call f vs) := by
  refine Att.attach_call hn hdf fun w s₀ s₁ mg mb fa o pm cd doc a vs ns G Y ho hd hcd hmg hobj hints hlen hg => ?_
  obtain ⟨v, fd, hb, hf⟩ := hF w mg fa _ (hY w _ Y) G.T.g hmg
  exact law_run (hY w _ Y) G.T.g G.T.b G.T.builtins G.T.nolimit hg hobj hints (Nat.le_trans hlen hn2) hr (sys_of (G.T.seer himp)) hf hb (hlaw v ns hlen)
end PL
/- part PL1 -/
set_option maxHeartbeats 1000000
namespace PL
open PySem PySem.Spec PyProof.Rows L2
/-! ### a dict comprehension that tells f of each item, writing only new cells -/
theorem putW_len (kvs : List (Key × W)) (k : Key) (w : W) : (putW kvs k w).length ≤ kvs.length + 1 := by
  unfold putW; split <;> simp
theorem mergeW_snoc (a b : List (Key × W)) (x : Key × W) : mergeW a (b ++ [x]) = putW (mergeW a b) x.1 x.2 := by unfold mergeW; rw [List.foldl_append]; rfl
theorem mergeW_len (b : List (Key × W)) : ∀ a, (mergeW a b).length ≤ a.length + b.length := by
  induction b with
  | nil => intro a; exact Nat.le_refl _
  | cons x b ih =>
    intro a
    have h1 := ih (putW a x.1 x.2)
    have h2 := putW_len a x.1 x.2
    show (mergeW (putW a x.1 x.2) b).length ≤ _
    simp only [List.length_cons]
    omega
theorem take_filterMap' {α β : Type} (f : α → Option β) (xs : List α) (i : Nat) (w : α) (h : xs[i]? = some w) : (xs.take (i + 1)).filterMap f = (xs.take i).filterMap f ++ (f w).toList := by
  rw [take_filterMap f xs i w h]; cases f w <;> rfl
theorem dc_pure {mi : MI} {g : MG} {t : MT} {mk mv : ME} {vs : List Nat} {E : PEnv} {G : Cells} {Q : W → Cells → Prop} (xs : List W) (f : W → Option (Key × W))
    (h : (mi E G).sat fun pit G1 => Fr [] G G1 ∧ ItOk [] pit G1 xs) (hb : xs.length ≤ 100000)
    (hs : ∀ (i : Nat) w G', xs[i]? = some w → Fr [] G G' → (g w (wipeE E vs) G').sat fun E1 G2 => (t E1 G2).sat fun k G3 => if k = true then (mk E1 G3).sat fun y G4 => (mv E1 G4).sat fun z G5 => (∃ ky, keyW y = some ky ∧ f w = some (ky, z)) ∧ Fr [] G' G5 else f w = none ∧ Fr [] G' G3)
    (hq : ∀ n G', Fr [] G G' → G.length ≤ n → G'[n]? = some (.dct (mergeW [] (xs.filterMap f))) → Q (.ref n) G') : (mDc mi g t mk mv vs E G).sat Q := by
  unfold mDc
  rw [sat_bind]
  refine h.mono fun pit G1 q => ?_
  obtain ⟨f1, it⟩ := q
  have key : ∀ (fuel i : Nat) (G' : Cells), xs.length ≤ i + fuel → i ≤ xs.length → Fr [] G1 G' → G1.length < G'.length → G'[G1.length]? = some (.dct (mergeW [] ((xs.take i).filterMap f))) →
      ∃ G2, dcL pit g t mk mv G1.length (wipeE E vs) fuel i G' = some G2 ∧ Fr [] G1 G2 ∧ G2[G1.length]? = some (.dct (mergeW [] (xs.filterMap f))) := by
    intro fuel
    induction fuel with
    | zero =>
      intro i G' h1 h2 f2 hl hc
      have hi : xs[i]? = none := List.getElem?_eq_none_iff.mpr (by omega)
      have ha := it.at' G' i f2
      rw [hi] at ha
      refine ⟨G', ?_, f2, ?_⟩
      · unfold dcL; rw [ha]
      · rw [List.take_of_length_le (by omega)] at hc; exact hc
    | succ fuel ih =>
      intro i G' h1 h2 f2 hl hc
      have ha := it.at' G' i f2
      cases hi : xs[i]? with
      | none =>
        rw [hi] at ha
        have := List.getElem?_eq_none_iff.mp hi
        refine ⟨G', ?_, f2, ?_⟩
        · unfold dcL; rw [ha]
        · rw [List.take_of_length_le (by omega)] at hc; exact hc
      | some w =>
        rw [hi] at ha
        have hlt := (List.getElem?_eq_some_iff.mp hi).1
        have tk := take_filterMap' f xs i w hi
        obtain ⟨E1, G2, e1, s1⟩ := (hs i w G' hi (f1.trans f2)).get
        obtain ⟨k, G3, e2, s2⟩ := s1.get
        unfold dcL
        rw [ha]
        simp only [e1, e2]
        cases k with
        | true =>
          rw [if_pos rfl] at s2
          obtain ⟨y, G4, e3, s3⟩ := s2.get
          obtain ⟨z, G5, e4, ⟨ky, k1, k2⟩, f5⟩ := s3.get
          have hc5 := f5.get hc (by simp)
          have hml := mergeW_len ((xs.take i).filterMap f) []
          have hfl := List.length_filterMap_le f (xs.take i)
          simp only [List.length_nil, List.length_take] at hml hfl
          have hz : (mergeW [] ((xs.take i).filterMap f)).length < sizeLine := big_le (m := 100000) (by omega)
          simp only [e3, e4, k1, hc5, hz, if_true]
          have hl5 : G1.length < G5.length := Nat.lt_of_lt_of_le hl f5.1
          refine ih (i + 1) _ (by omega) (by omega) ((f2.trans f5).fresh (Nat.le_refl _) (Fr.set (by simp))) (by simpa using hl5) ?_
          rw [get_set hl5, tk, k2, Option.toList_some, mergeW_snoc]
        | false =>
          simp only [Bool.false_eq_true, if_false] at s2
          simp only
          refine ih (i + 1) _ (by omega) (by omega) (f2.trans s2.2) (Nat.lt_of_lt_of_le hl s2.2.1) ?_
          rw [tk, s2.1, Option.toList_none, List.append_nil]
          exact s2.2.get hc (by simp)
  obtain ⟨G2, a1, a2, a3⟩ := key (pit.len G1) 0 (G1 ++ [.dct []]) (by rw [it.len]; omega) (by omega) Fr.push (by simp) (push_get G1 _)
  rw [a1]
  exact hq _ _ (f1.trans a2) f1.1 a3
end PL
/- part PLF -/
set_option maxHeartbeats 1000000
namespace PL
open PySem PySem.Spec PyProof.Rows L2
/-! ### a dict that is walked: locked meanwhile -/
section
variable {K : Fg} {ρ ρ' : List Addr} {H H' : Hp} {G : Cells} {n : Nat} {d : Addr} {od : Obj}
mutual
theorem VR.mono0 (hr : ∀ (n : Nat) (a : Addr), ρ[n]? = some a → ρ'[n]? = some a) (ht : ∀ a vs, H a = some (.tup vs) → H' a = some (.tup vs)) : ∀ {w : W} {v : V}, VR K ρ H w v → VR K ρ' H' w v
  | _, _, .non => .non
  | _, _, .bl b => .bl b
  | _, _, .int i => .int i
  | _, _, .str x => .str x
  | _, _, .ty s => .ty s
  | _, _, .fn a => .fn a
  | _, _, .tup h k => .tup (ht _ _ h) (VRs.mono0 hr ht k)
  | _, _, .ref h => .ref (hr _ _ h)
theorem VRs.mono0 (hr : ∀ (n : Nat) (a : Addr), ρ[n]? = some a → ρ'[n]? = some a) (ht : ∀ a vs, H a = some (.tup vs) → H' a = some (.tup vs)) : ∀ {ws : List W} {vs : List V}, VRs K ρ H ws vs → VRs K ρ' H' ws vs
  | _, _, .nil => .nil
  | _, _, .cons h k => .cons (VR.mono0 hr ht h) (VRs.mono0 hr ht k)
end
theorem KVR.mono0 {κ : Type} (hr : ∀ (n : Nat) (a : Addr), ρ[n]? = some a → ρ'[n]? = some a) (ht : ∀ a vs, H a = some (.tup vs) → H' a = some (.tup vs)) : ∀ {r : List (κ × W)} {q : List (κ × V)}, KVR K ρ H r q → KVR K ρ' H' r q
  | _, _, .nil => .nil
  | _, _, .cons h k => .cons (h.mono0 hr ht) (k.mono0 hr ht)
theorem ER.mono0 (hr : ∀ (n : Nat) (a : Addr), ρ[n]? = Option.some a → ρ'[n]? = Option.some a) (ht : ∀ a vs, H a = Option.some (HO.tup vs) → H' a = Option.some (HO.tup vs)) : ∀ {E : PEnv} {σ : St}, ER K ρ H E σ → ER K ρ' H' E σ
  | _, _, .nil => .nil
  | _, _, .none k => .none (k.mono0 hr ht)
  | _, _, .some h k => .some (h.mono0 hr ht) (k.mono0 hr ht)
theorem ext_lock {q : List (Key × V)} (hd : H d = some (.dK q)) : Ext K ρ H ρ (upd H d (.frz od (.dK q))) := ext_upd (.inr (by rw [hd]; exact trivial)) fun _ _ h => h
theorem SR.lock {kvs : List (Key × W)} (s : SR K ρ G H) (hn : ρ[n]? = some d) (hc : G[n]? = some (.dct kvs)) : ∃ q, H d = some (.dK q) ∧ KVR K ρ H kvs q ∧ ∀ od, SR K ρ (G.set n (.lkd kvs)) (upd H d (.frz od (.dK q))) := by
  obtain ⟨q, hd, hk⟩ := cell_dct s hn hc
  refine ⟨q, hd, hk, fun od => ⟨by simp [s.len], fun m c b h1 h2 => ?_, fun i j b x y h1 h2 h3 h4 h5 h6 => ?_⟩⟩
  · by_cases e : m = n
    · subst e
      rw [List.getElem?_set_self (List.getElem?_eq_some_iff.mp hc).1] at h1
      cases h1
      rw [hn] at h2; cases h2
      exact ⟨od, q, upd_same, hk.mono (ext_lock hd)⟩
    · rw [List.getElem?_set_ne (Ne.symm e)] at h1
      exact (s.cell m c b h1 h2).mono (ext_lock hd) fun mc => upd_ne fun z => e (s.inj m n d c _ (by rw [← z]; exact h2) hn h1 (Cell.own_of mc) hc rfl)
  · have back : ∀ (i : Nat) (x : Cell), (G.set n (.lkd kvs))[i]? = some x → x.own = true → ∃ y, G[i]? = some y ∧ y.own = true := fun i x h m => by
      by_cases e : i = n
      · subst e; exact ⟨_, hc, rfl⟩
      · rw [List.getElem?_set_ne (Ne.symm e)] at h; exact ⟨x, h, m⟩
    obtain ⟨x', q1, q2⟩ := back i x h3 h4
    obtain ⟨y', q3, q4⟩ := back j y h5 h6
    exact s.inj i j b x' y' h1 h2 q1 q2 q3 q4
/-- what stays when the lock goes -/
theorem tups_unlock {q : List (Key × V)} (hd : H d = some (.frz od (.dK q))) : ∀ a vs, H a = some (.tup vs) → (upd H d (.dK q)) a = some (.tup vs) := fun a vs h => by
  rw [upd_ne fun z => by subst z; rw [hd] at h; cases h]; exact h
theorem SR.unlock {kvs kvs' : List (Key × W)} {q : List (Key × V)} (s : SR K ρ G H) (hn : ρ[n]? = some d) (hc : G[n]? = some (.lkd kvs')) (hd : H d = some (.frz od (.dK q))) (hk : KVR K ρ H kvs q) : SR K ρ (G.set n (.dct kvs)) (upd H d (.dK q)) := by
  have ht := tups_unlock hd
  have hr : ∀ (n : Nat) (a : Addr), ρ[n]? = some a → ρ[n]? = some a := fun _ _ h => h
  refine ⟨by simp [s.len], fun m c b h1 h2 => ?_, fun i j b x y h1 h2 h3 h4 h5 h6 => ?_⟩
  · by_cases e : m = n
    · subst e
      rw [List.getElem?_set_self (List.getElem?_eq_some_iff.mp hc).1] at h1
      cases h1
      rw [hn] at h2; cases h2
      exact ⟨q, upd_same, hk.mono0 hr ht⟩
    · rw [List.getElem?_set_ne (Ne.symm e)] at h1
      have k := s.cell m c b h1 h2
      have ne : c.own = true → b ≠ d := fun oc z => e (s.inj m n d c _ (by rw [← z]; exact h2) hn h1 oc hc rfl)
      cases c with
      | lst ws => obtain ⟨vs, a1, a2⟩ := k; exact ⟨vs, by rw [upd_ne (ne rfl)]; exact a1, a2.mono0 hr ht⟩
      | dct ws => obtain ⟨vs, a1, a2⟩ := k; exact ⟨vs, by rw [upd_ne (ne rfl)]; exact a1, a2.mono0 hr ht⟩
      | tct ws => obtain ⟨vs, a1, a2⟩ := k; exact ⟨vs, by rw [upd_ne (ne rfl)]; exact a1, a2.mono0 hr ht⟩
      | lkd ws => obtain ⟨o, vs, a1, a2⟩ := k; exact ⟨o, vs, by rw [upd_ne (ne rfl)]; exact a1, a2.mono0 hr ht⟩
      | rol ws =>
        obtain ⟨vs, a1, a2⟩ := k
        refine ⟨vs, ?_, a2.mono0 hr ht⟩
        rcases a1 with ⟨o, a1⟩ | a1
        · refine .inl ⟨o, ?_⟩
          rw [upd_ne fun z => by subst z; rw [hd] at a1; cases a1]; exact a1
        · exact .inr a1
  · have back : ∀ (i : Nat) (x : Cell), (G.set n (.dct kvs))[i]? = some x → x.own = true → ∃ y, G[i]? = some y ∧ y.own = true := fun i x h m => by
      by_cases e : i = n
      · subst e; exact ⟨_, hc, rfl⟩
      · rw [List.getElem?_set_ne (Ne.symm e)] at h; exact ⟨x, h, m⟩
    obtain ⟨x', q1, q2⟩ := back i x h3 h4
    obtain ⟨y', q3, q4⟩ := back j y h5 h6
    exact s.inj i j b x' y' h1 h2 q1 q2 q3 q4
theorem ext_unlock {q : List (Key × V)} (hd : H d = some (.dK q)) (e : Ext K ρ (upd H d (.frz od (.dK q))) ρ' H') : Ext K ρ H ρ' (upd H' d (.dK q)) := by
  have el : Ext K ρ H ρ (upd H d (.frz od (.dK q))) := ext_lock hd
  have hf := e.frz _ _ _ (upd_same (H := H) (a := d))
  refine ⟨e.rho, fun a vs h => tups_unlock hf _ _ (e.tups _ _ (el.tups _ _ h)), fun a o u h => ?_⟩
  have ne : a ≠ d := fun z => by subst z; rw [hd] at h; cases h
  rw [upd_ne ne]
  exact e.frz _ _ _ (el.frz _ _ _ h)
def unS (n : Nat) (kvs : List (Key × W)) (r : So) : So := match r with
  | .nx E G => (match G[n]? with | some (.lkd _) => .nx E (G.set n (.dct kvs)) | _ => .no)
  | .rt w G => (match G[n]? with | some (.lkd _) => .rt w (G.set n (.dct kvs)) | _ => .no)
  | .bk E G => (match G[n]? with | some (.lkd _) => .bk E (G.set n (.dct kvs)) | _ => .no)
  | .ct E G => (match G[n]? with | some (.lkd _) => .ct E (G.set n (.dct kvs)) | _ => .no)
  | _ => .no
def unR (n : Nat) (kvs : List (Key × W)) (r : Rs W) : Rs W := match r with
  | .ok w G => (match G[n]? with | some (.lkd _) => .ok w (G.set n (.dct kvs)) | _ => .no)
  | _ => .no
theorem unlk {q : List (Key × V)} {kvs kvs' : List (Key × W)} (hn : ρ[n]? = some d) (hd : H d = some (.dK q)) (hk : KVR K ρ H kvs q) (e : Ext K ρ (upd H d (.frz od (.dK q))) ρ' H') (s : SR K ρ' G H') (hc : G[n]? = some (.lkd kvs')) :
    H' d = some (.frz od (.dK q)) ∧ Ext K ρ H ρ' (upd H' d (.dK q)) ∧ SR K ρ' (G.set n (.dct kvs)) (upd H' d (.dK q)) ∧ (∀ {E : PEnv} {σ : St}, ER K ρ' H' E σ → ER K ρ' (upd H' d (.dK q)) E σ) ∧ ∀ {w : W} {v : V}, VR K ρ' H' w v → VR K ρ' (upd H' d (.dK q)) w v := by
  have hf := e.frz _ _ _ (upd_same (H := H) (a := d))
  have ht := tups_unlock hf
  exact ⟨hf, ext_unlock hd e, s.unlock (e.rho _ _ hn) hc hf ((hk.mono (ext_lock hd)).mono e), fun er => er.mono0 (fun _ _ h => h) ht, fun r => r.mono0 (fun _ _ h => h) ht⟩
def lockD (d : Addr) (od : Obj) (u : HO) (D : Ends) : Ends :=
  ⟨fun σ' H' => H' d = some (.frz od u) ∧ D.nx σ' (upd H' d u), fun v H' => H' d = some (.frz od u) ∧ D.rt v (upd H' d u), fun σ' H' => H' d = some (.frz od u) ∧ D.bk σ' (upd H' d u), fun σ' H' => H' d = some (.frz od u) ∧ D.ct σ' (upd H' d u)⟩
theorem outS_lock {XP : Wish} {q : List (Key × V)} {kvs : List (Key × W)} {r : So} {D : Ends} (hn : ρ[n]? = some d) (hd : H d = some (.dK q)) (hk : KVR K ρ H kvs q) (h : OutS K XP ρ H (unS n kvs r) D) : OutS K XP ρ (upd H d (.frz od (.dK q))) r (lockD d od (.dK q) D) := by
  cases r with
  | nx E G =>
      intro ρ' H' σ' e s er
      simp only [unS] at h
      split at h
      · rename_i hc; obtain ⟨z1, z2, z3, z4, z5⟩ := unlk hn hd hk e s hc; exact ⟨z1, h _ _ _ z2 z3 (z4 er)⟩
      · exact h.elim
  | bk E G =>
      intro ρ' H' σ' e s er
      simp only [unS] at h
      split at h
      · rename_i hc; obtain ⟨z1, z2, z3, z4, z5⟩ := unlk hn hd hk e s hc; exact ⟨z1, h _ _ _ z2 z3 (z4 er)⟩
      · exact h.elim
  | ct E G =>
      intro ρ' H' σ' e s er
      simp only [unS] at h
      split at h
      · rename_i hc; obtain ⟨z1, z2, z3, z4, z5⟩ := unlk hn hd hk e s hc; exact ⟨z1, h _ _ _ z2 z3 (z4 er)⟩
      · exact h.elim
  | rt w G =>
      intro ρ' H' v e s rv
      simp only [unS] at h
      split at h
      · rename_i hc; obtain ⟨z1, z2, z3, z4, z5⟩ := unlk hn hd hk e s hc; exact ⟨z1, h _ _ _ z2 z3 (z5 rv)⟩
      · exact h.elim
  | ex x E G => exact h.elim
  | no => exact h
theorem outR_lock {XP : Wish} {σ : St} {Q : VK} {q : List (Key × V)} {kvs : List (Key × W)} {r : Rs W} (hn : ρ[n]? = some d) (hd : H d = some (.dK q)) (hk : KVR K ρ H kvs q) (h : Out K XP (VR K) σ ρ H (unR n kvs r) Q) : Out K XP (VR K) σ ρ (upd H d (.frz od (.dK q))) r (fun v H' => H' d = some (.frz od (.dK q)) ∧ Q v (upd H' d (.dK q))) := by
  cases r with
  | ok w G =>
      intro ρ' H' v e s rv
      simp only [unR] at h
      split at h
      · rename_i hc; obtain ⟨z1, z2, z3, z4, z5⟩ := unlk hn hd hk e s hc; exact ⟨z1, h _ _ _ z2 z3 (z5 rv)⟩
      · exact h.elim
  | ex x G => exact h.elim
  | no => exact h
end
/-! ### the walks -/
def kW : Key → W
  | .inl i => .int i
  | .inr x => .str x
theorem kW_ok {K : Fg} {ρ : List Addr} {H : Hp} (k : Key) : VR K ρ H (kW k) (kV k) := by cases k <;> constructor
def vwV (kvs : List (Key × W)) : List W := kvs.map (·.2)
def vwI (kvs : List (Key × W)) : List W := kvs.map fun kv => .tup [kW kv.1, kv.2]
def vwK (kvs : List (Key × W)) : List W := kvs.map fun kv => kW kv.1
section
variable {K : Fg} {ρ : List Addr} {H : Hp} {d : Addr} {od : Obj} {kvs : List (Key × W)} {q : List (Key × V)}
theorem KVR.getK {κ : Type} {K : Fg} {ρ : List Addr} {H : Hp} : ∀ {r : List (κ × W)} {q : List (κ × V)} {i : Nat} {p : κ × W}, KVR K ρ H r q → r[i]? = some p → ∃ v, q[i]? = some (p.1, v) ∧ VR K ρ H p.2 v
  | _, _, _, _, .nil, h => by simp at h
  | _, _, 0, _, .cons h _, e => by simp at e; subst e; exact ⟨_, rfl, h⟩
  | _, _, i + 1, p, .cons _ t, e => by
    obtain ⟨v, e1, e2⟩ := KVR.getK (i := i) (p := p) t (by simpa using e)
    exact ⟨v, by simpa using e1, e2⟩
theorem itr_vals (hd : H d = some (.frz od (.dK q))) (hk : KVR K ρ H kvs q) : ItR K ρ H (.tup (vwV kvs)) (Itd d od q) := by
  intro ρ' G' H' e s i
  have hd' := e.frz _ _ _ hd
  have hk' := hk.mono e
  have hl := hk'.length
  simp only [PIt.at]
  refine ⟨fun h => ?_, fun w h => ?_⟩
  · have hx : (vwV kvs)[i]? = none := by simpa using h
    have := get?_none_le hx
    rw [vwV, List.length_map] at this
    exact ⟨hd', by omega⟩
  · have hx : (vwV kvs)[i]? = some w := by simpa using h
    rw [vwV, List.getElem?_map, Option.map_eq_some_iff] at hx
    obtain ⟨p, hp, rfl⟩ := hx
    obtain ⟨v, q1, q2⟩ := hk'.getK hp
    have := (List.getElem?_eq_some_iff.mp q1).1
    refine ⟨⟨hd', this⟩, fun v' H2 hy => ?_⟩
    obtain ⟨rfl, k, hy⟩ := hy
    rw [q1] at hy; cases hy
    exact ⟨.refl, s, q2⟩
theorem itr_keys (hd : H d = some (.frz od (.dK q))) (hk : KVR K ρ H kvs q) : ItR K ρ H (.tup (vwK kvs)) (Itk d od q) := by
  intro ρ' G' H' e s i
  have hd' := e.frz _ _ _ hd
  have hk' := hk.mono e
  have hl := hk'.length
  simp only [PIt.at]
  refine ⟨fun h => ?_, fun w h => ?_⟩
  · have hx : (vwK kvs)[i]? = none := by simpa using h
    have := get?_none_le hx
    rw [vwK, List.length_map] at this
    exact ⟨hd', by omega⟩
  · have hx : (vwK kvs)[i]? = some w := by simpa using h
    rw [vwK, List.getElem?_map, Option.map_eq_some_iff] at hx
    obtain ⟨p, hp, rfl⟩ := hx
    obtain ⟨v, q1, q2⟩ := hk'.getK hp
    have := (List.getElem?_eq_some_iff.mp q1).1
    refine ⟨⟨hd', this⟩, fun v' H2 hy => ?_⟩
    obtain ⟨rfl, k, v2, hy, rfl⟩ := hy
    rw [q1] at hy; cases hy
    exact ⟨.refl, s, kW_ok _⟩
theorem itr_items (hd : H d = some (.frz od (.dK q))) (hk : KVR K ρ H kvs q) : ItR K ρ H (.tup (vwI kvs)) (Iti d od q) := by
  intro ρ' G' H' e s i
  have hd' := e.frz _ _ _ hd
  have hk' := hk.mono e
  have hl := hk'.length
  simp only [PIt.at]
  refine ⟨fun h => ?_, fun w h => ?_⟩
  · have hx : (vwI kvs)[i]? = none := by simpa using h
    have := get?_none_le hx
    rw [vwI, List.length_map] at this
    exact ⟨hd', by omega⟩
  · have hx : (vwI kvs)[i]? = some w := by simpa using h
    rw [vwI, List.getElem?_map, Option.map_eq_some_iff] at hx
    obtain ⟨p, hp, rfl⟩ := hx
    obtain ⟨v, q1, q2⟩ := hk'.getK hp
    have := (List.getElem?_eq_some_iff.mp q1).1
    refine ⟨⟨hd', this⟩, fun v' H2 hy => ?_⟩
    obtain ⟨T, k, v2, hy, rfl, hT, rfl⟩ := hy
    rw [q1] at hy; cases hy
    exact pair_fresh s hT (kW_ok _) q2
end
section
variable {X : Cx} {XP : Wish} {pos p : Pos} {x : Str} {i : Nat}
/-- iterators over the dict in the slot i, while it is locked -/
structure HID (X : Cx) (i : Nat) (tg iter : Expr) (vw : List (Key × W) → List W) : Prop where
  ex : ∃ wi, PI X tg iter wi ∧ ∀ (ρ : List Addr) (H : Hp) (σ : St) (d : Addr) (o : Obj) (kvs : List (Key × W)) (q : List (Key × V)) (R : It → Hp → Prop), σ[i]? = some (some (.ref d)) → H d = some (.frz o (.dK q)) → KVR X.K ρ H kvs q →
    (∀ J, ItR X.K ρ H (.tup (vw kvs)) J → R J H) → wi σ H R
theorem hid_vals {tg : Expr} {apos cpos : Pos} (hN : X.N[i]? = some x) (hv : Vis X.env.scope x) (hdb : (x == ("__debug__" : Str)) = false := by decide) (hcd : (x == ("__classdict__" : Str)) = false := by decide)
    (hbase : attributeBase (.Name x p) "values" X.env (eval (.Name x p) X.env) = eval (.Name x p) X.env := by rfl) (hline : (apos.endLine == cpos.line) = true := by rfl) : HID X i tg (.Call (.Attribute (.Name x p) "values" apos) [] [] cpos) vwV :=
  ⟨_, pi_values (pe_var hN hv hdb hcd) hbase hline, fun ρ H σ d o kvs q R hσ hd hk h => ⟨_, hσ, d, o, q, rfl, hd, h _ (itr_vals hd hk)⟩⟩
theorem hid_items {elts : List Expr} {kk : Nat} {tpos : Pos} {apos cpos : Pos} (hN : X.N[i]? = some x) (hv : Vis X.env.scope x) (hdb : (x == ("__debug__" : Str)) = false := by decide) (hcd : (x == ("__classdict__" : Str)) = false := by decide)
    (hbase : attributeBase (.Name x p) "items" X.env (eval (.Name x p) X.env) = eval (.Name x p) X.env := by rfl) (hline : (apos.endLine == cpos.line) = true := by rfl) : HID X i (.Tuple elts kk tpos) (.Call (.Attribute (.Name x p) "items" apos) [] [] cpos) vwI :=
  ⟨_, pi_items (pe_var hN hv hdb hcd) hbase hline, fun ρ H σ d o kvs q R hσ hd hk h => ⟨_, hσ, d, o, q, rfl, hd, h _ (itr_items hd hk)⟩⟩
theorem hid_keys {tg : Expr} (hN : X.N[i]? = some x) (hv : Vis X.env.scope x) (hdb : (x == ("__debug__" : Str)) = false := by decide) (hcd : (x == ("__classdict__" : Str)) = false := by decide) : HID X i tg (.Name x p) vwK :=
  ⟨_, pi_keys (pe_var hN hv hdb hcd), fun ρ H σ d o kvs q R hσ hd hk h => ⟨_, hσ, d, o, rfl, .inl ⟨q, hd, h _ (itr_keys hd hk)⟩⟩⟩
/-- for over a dict's view -/
def sForD (i : Nat) (vw : List (Key × W) → List W) (g : MG) (b : MS) : MS := fun E G => match E[i]? with
  | some (some (.ref n)) => (match G[n]? with
    | some (.dct kvs) => unS n kvs (sForI (fun _ G' => .ok (.tup (vw kvs)) G') g b E (G.set n (.lkd kvs)))
    | _ => .no)
  | _ => .no
theorem hs_forD {tg iter : Expr} {body : List Stmt} {vw : List (Key × W) → List W} {g : MG} {b : MS} {sl : List Nat} (hp : PassesOwn (model X.prog X.w) X.A X.env X.xe) (hc : X.calm = true) (hi : HID X i tg iter vw) (hg : HG X XP tg sl g) (hb : HB X XP body b)
    (hs : ∀ x, foldedSetIterable iter X.env x = pure x := by intro _; rfl) : HS X XP (.For tg iter body [] pos) (sForD i vw g b) := by
  obtain ⟨wi, i1, i2⟩ := hi.ex
  obtain ⟨tg', g1, g2⟩ := hg.ex
  obtain ⟨tb, b1, b2⟩ := hb.ex
  refine ⟨_, ps_lock (ps_for hp hc i1 g1 b1 hs), fun ρ E G σ H D er sr q => ?_⟩
  unfold sForD at q
  split at q
  · rename_i n hE
    split at q
    · rename_i kvs hc
      obtain ⟨v, hσ, rv⟩ := er.get hE
      cases rv with
      | @ref _ d hn =>
        obtain ⟨qv, hd, hk, hlk⟩ := sr.lock hn hc
        refine ⟨d, _, hd, trivial, fun od => ?_⟩
        have q' := outS_lock (od := od) hn hd hk q
        have el : Ext X.K ρ H ρ (upd H d (.frz od (.dK qv))) := ext_lock hd
        refine i2 ρ _ σ d od kvs qv _ hσ upd_same (hk.mono el) fun J r1 => ?_
        rw [sForI_eq] at q'
        have q2 : OutS X.K XP ρ (upd H d (.frz od (.dK qv))) (forL (.tup (vw kvs)) g b (PIt.len (G.set n (.lkd kvs)) (.tup (vw kvs))) 0 E (G.set n (.lkd kvs))) (lockD d od (.dK qv) D) := q'
        generalize hm : PIt.len (G.set n (.lkd kvs)) (.tup (vw kvs)) = m0 at q2
        refine ⟨fun i m σ' H' => ∃ ρ' E' G', Ext X.K ρ (upd H d (.frz od (.dK qv))) ρ' H' ∧ ER X.K ρ' H' E' σ' ∧ SR X.K ρ' G' H' ∧ OutS X.K XP ρ' H' (forL (.tup (vw kvs)) g b m i E' G') (lockD d od (.dK qv) D), ⟨m0, ρ, E, _, .refl, er.mono el, hlk od, q2⟩, ?_⟩
        rintro i m σ' H' ⟨ρ', E', G', ex, er', s', o⟩
        obtain ⟨hstop, hgo⟩ := r1 ρ' G' H' ex s' i
        unfold forL at o
        split at o
        · exact o.elim
        · rename_i ha
          exact .inl ⟨hstop ha, o ρ' H' σ' .refl s' er'⟩
        · rename_i w ha
          obtain ⟨go, hy⟩ := hgo w ha
          split at o
          · exact o.elim
          · rename_i k
            refine .inr ⟨go, fun σ2 H2 => ∃ ρ2 E2 G2, Ext X.K ρ (upd H d (.frz od (.dK qv))) ρ2 H2 ∧ ER X.K ρ2 H2 E2 σ2 ∧ SR X.K ρ2 G2 H2 ∧ OutS X.K XP ρ2 H2 (forL (.tup (vw kvs)) g b k (i + 1) E2 G2) (lockD d od (.dK qv) D), fun σ2 H2 h => ⟨k, Nat.lt_succ_self _, h⟩, fun x H2 y => ?_⟩
            obtain ⟨y1, y2, y3⟩ := hy x H2 y
            refine g2 ρ' w E' G' x σ' H2 _ y3 (er'.mono y1) y2 (OutS.lift (er'.mono y1) (OutS.mono o y1) fun E3 G3 ρ3 H3 σ3 e3 s3 r3 k3 => ?_)
            refine b2 ρ3 E3 G3 σ3 H3 _ r3.1 s3 ?_
            have ext := ex.trans (y1.trans e3)
            cases hr : b E3 G3 with
            | nx E4 G4 => rw [hr] at k3; exact fun ρ4 H4 σ4 e4 s4 r4 => ⟨ρ4, E4, G4, ext.trans e4, r4, s4, OutS.mono k3 e4⟩
            | ct E4 G4 => rw [hr] at k3; exact fun ρ4 H4 σ4 e4 s4 r4 => ⟨ρ4, E4, G4, ext.trans e4, r4, s4, OutS.mono k3 e4⟩
            | bk E4 G4 => rw [hr] at k3; exact k3
            | rt w4 G4 => rw [hr] at k3; exact k3
            | ex x4 E4 G4 => rw [hr] at k3; exact k3
            | no => rw [hr] at k3; exact k3
    · exact q.elim
  · exact q.elim
/-- a dict comprehension over a dict's view -/
def mDcD (i : Nat) (vw : List (Key × W) → List W) (g : MG) (t : MT) (mk mv : ME) (vs : List Nat) : ME := fun E G => match E[i]? with
  | some (some (.ref n)) => (match G[n]? with
    | some (.dct kvs) => unR n kvs (mDc (fun _ G' => .ok (.tup (vw kvs)) G') g t mk mv vs E (G.set n (.lkd kvs)))
    | _ => .no)
  | _ => .no
/-- a list comprehension over a dict's view -/
def mLcD (i : Nat) (vw : List (Key × W) → List W) (g : MG) (t : MT) (m : ME) (vs : List Nat) : ME := fun E G => match E[i]? with
  | some (some (.ref n)) => (match G[n]? with
    | some (.dct kvs) => unR n kvs (mLcI (fun _ G' => .ok (.tup (vw kvs)) G') g t m vs E (G.set n (.lkd kvs)))
    | _ => .no)
  | _ => .no
def atLk (K : Fg) (i : Nat) (d : Addr) (od : Obj) (q : List (Key × V)) (kvs : List (Key × W)) (ρ0 : List Addr) (G0 : Cells) : List Addr → PEnv → Cells → St → Hp → Prop :=
  fun ρ _ G σ H => ρ = ρ0 ∧ G = G0 ∧ σ[i]? = some (some (.ref d)) ∧ H d = some (.frz od (.dK q)) ∧ KVR K ρ H kvs q
theorem he_dcD {kx vx tg iter : Expr} {ifs : List Expr} {scope : Scope} {own : List (Str × Nat)} {vw : List (Key × W) → List W} {g : MG} {t : MT} {mk mv : ME} {sl : List Nat} {k : Nat} (c : GC X XP k) (hi : HID X i tg iter vw) (ok : blkC X.N X.env.scope scope own = true)
    (hg : ∀ (s : Shared) (H : Hp) (C : Addr) (cl : List (Str × Addr)) (fp : List Addr), HG (X.blk s H scope (compEnvC scope cl C X.env) fp) noX tg sl g)
    (ht : ∀ (s : Shared) (H : Hp) (C : Addr) (cl : List (Str × Addr)) (fp : List Addr), HTs (X.blk s H scope (compEnvC scope cl C X.env) fp) noX ifs t)
    (hk : ∀ (s : Shared) (H : Hp) (C : Addr) (cl : List (Str × Addr)) (fp : List Addr), HE (X.blk s H scope (compEnvC scope cl C X.env) fp) noX kx mk)
    (hv : ∀ (s : Shared) (H : Hp) (C : Addr) (cl : List (Str × Addr)) (fp : List Addr), HE (X.blk s H scope (compEnvC scope cl C X.env) fp) noX vx mv)
    (hsl : (sl.all fun i => (own.map (·.2)).contains i) = true := by rfl) (hs : ∀ x, foldedSetIterable iter X.env x = pure x := by intro _; rfl) : HE X XP (.DictComp kx vx [⟨tg, iter, ifs, 0⟩] scope pos) (mDcD i vw g t mk mv (own.map (·.2))) := by
  obtain ⟨wi, i1, i2⟩ := hi.ex
  have hsl' : ∀ i ∈ sl, i ∈ own.map (·.2) := fun i h => by simpa using List.all_eq_true.mp hsl i h
  refine ⟨_, pe_lock (pe_dc (g := rdG X.K noX sl g) (tt := rdT X.K noX t) (tk := rdE X.K noX mk) (tv := rdE X.K noX mv) c.calm c.nd i1 (blkOk_by ok) (fun s H C cl fp => (hg s H C cl fp).rd) (fun s H C cl fp => (ht s H C cl fp).rd) (fun s H C cl fp => (hk s H C cl fp).rd) (fun s H C cl fp => (hv s H C cl fp).rd) hs), fun ρ E G σ H Q er sr q => ?_⟩
  unfold mDcD at q
  split at q
  · rename_i n hE
    split at q
    · rename_i kvs hc
      obtain ⟨v, hσ, rv⟩ := er.get hE
      cases rv with
      | @ref _ d hn =>
        obtain ⟨qv, hd, hk, hlk⟩ := sr.lock hn hc
        refine ⟨d, _, hd, trivial, fun od => ?_⟩
        have el : Ext X.K ρ H ρ (upd H d (.frz od (.dK qv))) := ext_lock hd
        refine dc_runA (atLk X.K i d od qv kvs ρ (G.set n (.lkd kvs))) (mi := fun _ G' => .ok (.tup (vw kvs)) G') hsl' (fun ρ2 E2 G2 σ2 H2 R z er2 sr2 o => ?_) ρ E (G.set n (.lkd kvs)) σ _ _ ⟨rfl, rfl, hσ, upd_same, hk.mono el⟩ (er.mono el) (hlk od) (outR_lock hn hd hk q)
        obtain ⟨_, _, z1, z2, z3⟩ := z
        exact i2 ρ2 H2 σ2 d od kvs qv R z1 z2 z3 fun J hJ => o ρ2 H2 J .refl sr2 hJ
    · exact q.elim
  · exact q.elim
theorem he_lcD {elt tg iter : Expr} {ifs : List Expr} {scope : Scope} {own : List (Str × Nat)} {vw : List (Key × W) → List W} {g : MG} {t : MT} {m : ME} {sl : List Nat} {k : Nat} (c : GC X XP k) (hi : HID X i tg iter vw) (ok : blkC X.N X.env.scope scope own = true)
    (hg : ∀ (s : Shared) (H : Hp) (C : Addr) (cl : List (Str × Addr)) (fp : List Addr), HG (X.blk s H scope (compEnvC scope cl C X.env) fp) noX tg sl g)
    (ht : ∀ (s : Shared) (H : Hp) (C : Addr) (cl : List (Str × Addr)) (fp : List Addr), HTs (X.blk s H scope (compEnvC scope cl C X.env) fp) noX ifs t)
    (he : ∀ (s : Shared) (H : Hp) (C : Addr) (cl : List (Str × Addr)) (fp : List Addr), HE (X.blk s H scope (compEnvC scope cl C X.env) fp) noX elt m)
    (hsl : (sl.all fun i => (own.map (·.2)).contains i) = true := by rfl) (hs : ∀ x, foldedSetIterable iter X.env x = pure x := by intro _; rfl) : HE X XP (.ListComp elt [⟨tg, iter, ifs, 0⟩] scope pos) (mLcD i vw g t m (own.map (·.2))) := by
  obtain ⟨wi, i1, i2⟩ := hi.ex
  have hsl' : ∀ i ∈ sl, i ∈ own.map (·.2) := fun i h => by simpa using List.all_eq_true.mp hsl i h
  refine ⟨_, pe_lock (pe_lc (g := rdG X.K noX sl g) (tt := rdT X.K noX t) (te := rdE X.K noX m) c.calm c.nd i1 (blkOk_by ok) (fun s H C cl fp => (hg s H C cl fp).rd) (fun s H C cl fp => (ht s H C cl fp).rd) (fun s H C cl fp => (he s H C cl fp).rd) hs), fun ρ E G σ H Q er sr q => ?_⟩
  unfold mLcD at q
  split at q
  · rename_i n hE
    split at q
    · rename_i kvs hc
      obtain ⟨v, hσ, rv⟩ := er.get hE
      cases rv with
      | @ref _ d hn =>
        obtain ⟨qv, hd, hk, hlk⟩ := sr.lock hn hc
        refine ⟨d, _, hd, trivial, fun od => ?_⟩
        have el : Ext X.K ρ H ρ (upd H d (.frz od (.dK qv))) := ext_lock hd
        rw [mLcI_eq] at q
        refine lc_runA (atLk X.K i d od qv kvs ρ (G.set n (.lkd kvs))) (mi := fun _ G' => .ok (.tup (vw kvs)) G') hsl' (fun ρ2 E2 G2 σ2 H2 R z er2 sr2 o => ?_) ρ E (G.set n (.lkd kvs)) σ _ _ ⟨rfl, rfl, hσ, upd_same, hk.mono el⟩ (er.mono el) (hlk od) (outR_lock hn hd hk q)
        obtain ⟨_, _, z1, z2, z3⟩ := z
        exact i2 ρ2 H2 σ2 d od kvs qv R z1 z2 z3 fun J hJ => o ρ2 H2 J .refl sr2 hJ
    · exact q.elim
  · exact q.elim
/-! ### {t: v}, t a tuple -/
def tDispT (tk tv : TE) : TE := fun σ H Q => ∀ p, H p = none → tk σ (upd H p (.dT [])) fun x H1 => tv σ H1 fun y H2 => H2 p = some (.dT []) ∧ ∃ (b : Addr) (k : List Key), x = .ref b ∧ H2 b = some (.tup (k.map kV)) ∧ Q (.ref p) (upd H2 p (.dT [(k, y)]))
theorem pe_dispT {k v : Expr} {tk tv : TE} (hu : X.A.units < cLine) (hk : PE X k tk) (hv : PE X v tv) : PE X (.Dict [some k] [v] pos) (tDispT tk tv) := by
  refine ⟨fun pins s σ H Q I q => ?_⟩
  have hn := I.hok.fresh (Nat.le_refl s.heap.objs.size)
  have I1 := I.laid (a := s.heap.objs.size) (o := .dT []) (h' := s.heap.push { cls := .type "dict", data := .dict #[] }) (t' := s.toks) (fun _ _ q => Heap.get?_push_of_some _ q) (Nat.le_refl _) (dt_empty s.heap I.big)
  have pp : PPs X pos [some k] [v] [(tk, tv)] := pps_cons hk hv pps_nil
  have hp0 : pairTrees [some k] [v] X.env pos ≠ [] := fun he => by
    have hl := pairTrees_length [some k] [v] X.env pos rfl rfl
    rw [he] at hl; cases hl
  have hlen : (pairTrees [some k] [v] X.env pos).length = 1 := pairTrees_length [some k] [v] X.env pos rfl rfl
  rw [arm_eval_Dict, zip_pairTrees [some k] [v] X.env pos rfl rfl, dictDisplay_pairs _ hp0 (by rw [hlen]; decide)]
  refine wpAny_bind (wpAny_standAt (wpAny_bind (wpAny_subDictH (knd := tupleKind (mixKind X.prog X.w)) (Q := fun d s' => wpAny (model X.prog X.w) X.A (pure (Value.ref d)) _ X.xe s') hu (by rw [hlen]; decide) ?_)))
  have q0 := q _ hn
  refine thn (pp.run pins _ σ _ (fun ps H2 => match ps with
    | [(x, y)] => H2 s.heap.objs.size = some (.dT []) ∧ ∃ (b : Addr) (k : List Key), x = .ref b ∧ H2 b = some (.tup (k.map kV)) ∧ Q (.ref s.heap.objs.size) (upd H2 s.heap.objs.size (.dT [(k, y)]))
    | _ => False) I1 q0) fun ws s2 ⟨ps, H2, I2, rel, q1⟩ => ?_
  split at q1
  · rename_i x y
    obtain ⟨e, b, ks, rfl, hb, q2⟩ := q1
    cases rel with
    | @cons p1 p2 ps1 ps2 h1 h2 =>
      cases h2
      obtain ⟨w1, w2⟩ := p2
      obtain ⟨r1, r2⟩ := h1
      cases r1
      obtain ⟨z, hd, xs, rel, dd⟩ := dt_of I2.hok e
      cases rel
      refine ⟨[(ks, b, w2)], ⟨rfl, rfl, key_of I2.hok hb, trivial⟩, dd, fun h' tk dd' hs => wpAny_pure ⟨.ref s.heap.objs.size, _, ?_, rfl, q2⟩⟩
      obtain ⟨o, es, ep, hq, g2, g3, g4, _, g5⟩ := dd'
      refine d_write I2 (by rw [e]; exact True.intro) hs ⟨o, hq⟩ ⟨(by show 1 ≤ sizeLine; decide), hd, _, .cons ⟨rfl, ?_, r2⟩ .nil, o, es, ep, hq, g2, g3, g4, g5⟩
      rw [upd_ne (ne_of hb e (fun z => nomatch z))]
      exact hb
  · exact q1.elim
/-- {t: v} -/
def mDispT (mk mv : ME) : ME := fun E G => (mk E (G ++ [.tct []])).bind fun x G1 => (mv E G1).bind fun y G2 => match tkW x with
  | some k => (match G2[G.length]? with | some (.tct []) => .ok (.ref G.length) (G2.set G.length (.tct [(k, y)])) | _ => .no)
  | none => .no
theorem he_dispT {k v : Expr} {mk mv : ME} (hu : X.A.units < cLine) (hk : HE X XP k mk) (hv : HE X XP v mv) : HE X XP (.Dict [some k] [v] pos) (mDispT mk mv) := by
  obtain ⟨tk, a1, a2⟩ := hk.ex
  obtain ⟨tv, b1, b2⟩ := hv.ex
  refine ⟨_, pe_dispT hu a1 b1, fun ρ E G σ H Q er sr q => ?_⟩
  intro p hp
  have hcell : PL.CR X.K (ρ ++ [p]) (upd H p (.dT [])) (.tct []) p := ⟨[], upd_same, .nil⟩
  have sA := sr.alloc hp hcell
  have eA : Ext X.K ρ H (ρ ++ [p]) (upd H p (.dT [])) := ext_alloc hp
  have hn : (ρ ++ [p])[G.length]? = some p := by rw [← sr.len]; exact last_get _ _
  refine a2 (ρ ++ [p]) E (G ++ [.tct []]) σ _ _ (er.mono eA) sA ((Out.mono q eA).bind fun x G1 ρ1 H1 xv e1 s1 r1 k1 => ?_)
  refine b2 ρ1 E G1 σ H1 _ (er.mono (eA.trans e1)) s1 (k1.bind fun y G2 ρ2 H2 yv e2 s2 r2 k2 => ?_)
  have hn2 := e2.rho _ _ (e1.rho _ _ hn)
  split at k2
  · rename_i ks hks
    obtain ⟨b, rfl, hb⟩ := tkW_ok (r1.mono e2) hks
    split at k2
    · rename_i hc
      obtain ⟨z, z1, z2⟩ := cell_tct s2 hn2 hc
      cases z2
      have ex : Ext X.K ρ2 H2 ρ2 (upd H2 p (.dT [(ks, yv)])) := s2.ext_write hc hn2 rfl
      exact ⟨z1, b, ks, rfl, hb, k2 ρ2 _ _ ex (s2.write (c' := .tct [(ks, y)]) hc hn2 rfl rfl ⟨_, upd_same, .cons (r2.mono ex) .nil⟩) (.ref hn2)⟩
    · exact k2.elim
  · exact k2.elim
/-! ### a local name that holds one of two functions -/
variable {f f' : Addr} {fd fd' : FuncData} {ps ps' : List Str} {F F' : PF} {k k' : Nat}
def mDefL2 (i : Nat) (f : Addr) (F : PF) (f' : Addr) (F' : PF) (m : MA) : ME := fun E G => match E[i]? with
  | some (some (.fn g)) => if g = f then (m E G).bind fun ws G' => F ws G' else if g = f' then (m E G).bind fun ws G' => F' ws G' else .no
  | _ => .no
theorem he_callL2 {e : Expr} {es : List Expr} {m : MA} (h : FnG X.prog X.w X.K X.mg X.base k f fd ps F) (h' : FnG X.prog X.w X.K X.mg X.base k' f' fd' ps' F') (c : GC X XP k) (c' : GC X XP k') (hN : X.N[i]? = some x) (hv : Vis X.env.scope x) (hk : PySem.W.keepIn X.K (.ref f) = true) (hk' : PySem.W.keepIn X.K (.ref f') = true)
    (hb : Binds X.K fd ps []) (hb' : Binds X.K fd' ps' []) (ha : HA X XP (e :: es) m)
    (hdb : (x == ("__debug__" : Str)) = false := by decide) (hcd : (x == ("__classdict__" : Str)) = false := by decide) (he : starEach (e :: es) X.env = (false, eval e X.env) :: starEach es X.env := by rfl) (hpl : (backTo pos (starEach es X.env)).any (·.1) = false := by rfl) : HE X XP (.Call (.Name x p) (e :: es) [] pos) (mDefL2 i f F f' F' m) := by
  obtain ⟨t, a1, a2⟩ := ha.ex
  refine ⟨fun σ H Q => tVar i σ H fun v H0 => ∃ (g : Addr) (Fg : PF), v = .ref g ∧ (g = f ∧ Fg = F ∨ g = f' ∧ Fg = F') ∧ t σ H0 fun vs H1 => ∃ ρ G ws, VRs X.K ρ H1 ws vs ∧ SR X.K ρ G H1 ∧ Out X.K XP (VR X.K) σ ρ H1 (Fg ws G) Q, ⟨fun pins s σ H Q I q => ?_⟩, fun ρ E G σ H Q er sr q => ?_⟩
  · refine wpAny_Call_Name_kw (thn ((pe_var hN hv hdb hcd).run pins s σ H _ I q) fun u s0 ⟨v, H0, I0, r0, g, Fg, hv0, hg, q0⟩ => ?_)
    subst hv0
    obtain rfl : u = .ref g := r0
    rcases hg with ⟨rfl, rfl⟩ | ⟨rfl, rfl⟩
    · refine PySem.W.callWith_K (h₀ := X.base) I0.ok.mod.kin hk (thn (a1.run pos pins s0 σ H0 _ I0 q0) fun us s1 ⟨vs, H1, I1, r, ρ, G, ws, q1, q2, q3⟩ => ⟨I1.kIn, ?_⟩) he hpl
      exact h.runC c (args := ⟨us, []⟩) I1 (fun hl => by have := hb s1 us I1.kIn (by rw [List.append_nil]; exact hl); rwa [List.append_nil] at this) r q1 q2 q3
    · refine PySem.W.callWith_K (h₀ := X.base) I0.ok.mod.kin hk' (thn (a1.run pos pins s0 σ H0 _ I0 q0) fun us s1 ⟨vs, H1, I1, r, ρ, G, ws, q1, q2, q3⟩ => ⟨I1.kIn, ?_⟩) he hpl
      exact h'.runC c' (args := ⟨us, []⟩) I1 (fun hl => by have := hb' s1 us I1.kIn (by rw [List.append_nil]; exact hl); rwa [List.append_nil] at this) r q1 q2 q3
  · unfold mDefL2 at q
    split at q
    · rename_i g hg
      obtain ⟨v, hv1, hv2⟩ := er.get hg
      cases hv2
      split at q
      · rename_i hgf
        exact ⟨_, hv1, _, F, rfl, .inl ⟨hgf, rfl⟩, a2 ρ E G σ H _ er sr (q.bind fun ws G1 ρ1 H1 vs e1 s1 q1 k1 => ⟨ρ1, G1, ws, q1, s1, k1⟩)⟩
      · split at q
        · rename_i hgf
          exact ⟨_, hv1, _, F', rfl, .inr ⟨hgf, rfl⟩, a2 ρ E G σ H _ er sr (q.bind fun ws G1 ρ1 H1 vs e1 s1 q1 k1 => ⟨ρ1, G1, ws, q1, s1, k1⟩)⟩
        · exact q.elim
    · exact q.elim
/-! ### shifts to the left -/
def shlW : GOp := fun G x y => match x, y with
  | .int i, .int j => if 0 ≤ j ∧ j ≤ 1000000 ∧ i.natAbs < 2 ^ 64 then .ok (.int (i * 2 ^ j.toNat)) G else .no
  | _, _ => .no
theorem og_shl : OpG X XP (binaryOp .LShift) shlW := by
  refine ⟨_, op_shl, fun ρ G σ H x y v u Q s rx ry h => ?_⟩
  unfold shlW at h
  split at h
  · cases rx; cases ry
    split at h
    · rename_i hj; exact ⟨_, _, rfl, rfl, hj, h.ok s (.int _)⟩
    · exact h.elim
  · exact h.elim
end
end PL
/- part PLG -/
set_option maxHeartbeats 1000000
namespace PL
open PySem PySem.Spec PyProof.Rows L2
/-! ### name = {..} on one line -/
section
variable {X : Cx} {XP : Wish}
theorem sw_trueD {kx vx : Expr} {gs : List Comprehension} {scope : Scope} {pos py : Pos} {y : Str} {l : Nat} {env : Env} (hk : env.scope.kind = .function) (hy : env.scope.names.lookup y = some .local) (hl : (py.line == pos.line) = true)
    (ha : (scope.names.any fun (n, k) => n == y && (k == .local || k == .cell)) = false) : swapsWith (.DictComp kx vx gs scope pos) (some (.Name y py)) l env = pure true := by
  have ky : env.kindOf y = some .local := hy
  have hb : env.blockKind = .function := by unfold Env.blockKind; rw [hk]; rfl
  unfold swapsWith
  simp only [hb, ky, ha, Expr.pos, hl]
  rfl
theorem ps_setDc {i : Nat} {y : Str} {py : Pos} {kx vx tg iter : Expr} {ifs : List Expr} {scope : Scope} {own : List (Str × Nat)} {pos spos : Pos} {wi : TI} {g : TG} {tt : TT} {tk tv : TE} (hc : X.calm = true) (hN : X.N.Nodup) (hy : X.N[i]? = some y) (hyl : X.env.scope.names.lookup y = some .local)
    (hsw : swapsWith (.DictComp kx vx [⟨tg, iter, ifs, 0⟩] scope pos) (some (.Name y py)) spos.line X.env = pure true) (hi : PI X tg iter wi) (ok : BlkOk X.N X.env.scope scope own)
    (hg : ∀ (s : Shared) (H : Hp) (C : Addr) (cl : List (Str × Addr)) (fp : List Addr), PG (X.blk s H scope (compEnvC scope cl C X.env) fp) tg g) (ht : ∀ (s : Shared) (H : Hp) (C : Addr) (cl : List (Str × Addr)) (fp : List Addr), PTs (X.blk s H scope (compEnvC scope cl C X.env) fp) ifs tt)
    (hk : ∀ (s : Shared) (H : Hp) (C : Addr) (cl : List (Str × Addr)) (fp : List Addr), PE (X.blk s H scope (compEnvC scope cl C X.env) fp) kx tk)
    (he : ∀ (s : Shared) (H : Hp) (C : Addr) (cl : List (Str × Addr)) (fp : List Addr), PE (X.blk s H scope (compEnvC scope cl C X.env) fp) vx tv) (hs : ∀ x, foldedSetIterable iter X.env x = pure x := by intro _; rfl) :
    PS X (.Assign [.Name y py] (.DictComp kx vx [⟨tg, iter, ifs, 0⟩] scope pos) spos) (tAsg (tDc wi g tt tk tv (own.map (·.2))) (gName i)) := by
  refine ⟨fun pins s σ H D I h => ?_⟩
  rw [exec_Assign_Name_used _ _ _ _ hsw]
  refine wpAny_bind (wpAny_standAt (wpAny_bind ?_))
  show wpAny _ X.A (do let _ ← comprehension (.DictComp kx vx [⟨tg, iter, ifs, 0⟩] scope pos) scope X.env (firstIterPos [⟨tg, iter, ifs, 0⟩] pos) newDict false (eval iter X.env) (some (assign (.Name y py) X.env))) _ _ s
  have h : tDc wi g tt tk tv (own.map (·.2)) σ H (fun x H1 => gName i x σ H1 D.nx) := h
  refine wpAny_bind (thn (dc_core (Qf := fun _ s' => SP X pins D .next s') hc hN I hi ok hg ht hk he hs h fun L C s' m H' I' q hn f => ?_) fun _ s' hq => wpAny_pure (wpAny_pure hq))
  show wpAny _ _ (assign (.Name y py) X.env (.ref L)) _ _ _
  refine wpAny_assign_Name (store_ok2 (v := V.ref L) I' hN hy (.inl hyl) rfl (fun s2 I2 ⟨a, sb, ha⟩ => ?_) (.inr hyl))
  obtain ⟨f0, f1, f2, f3, f4, f5⟩ := f
  have haC : C ≠ a := by
    rcases ha with z | z
    · rw [z]; exact f1
    · exact fun e => f4 y a z e.symm
  refine ⟨m, hn.sameBut sb haC, fun h3 sb3 => ?_⟩
  exact ⟨_, H', I2.turned (t' := s2.toks) (fun b o hb e => (sb3.2 b hb).trans e) f0 f1 f3 f4 f5, q⟩
theorem hs_setDc {i : Nat} {y : Str} {py pos spos : Pos} {kx vx tg iter : Expr} {ifs : List Expr} {scope : Scope} {own : List (Str × Nat)} {mi : MI} {g : MG} {t : MT} {mk mv : ME} {sl : List Nat} {k : Nat} (c : GC X XP k) (hy : X.N[i]? = some y) (hyl : X.env.scope.names.lookup y = some .local)
    (hsw : swapsWith (.DictComp kx vx [⟨tg, iter, ifs, 0⟩] scope pos) (some (.Name y py)) spos.line X.env = pure true) (hi : HI X XP tg iter mi) (ok : blkC X.N X.env.scope scope own = true)
    (hg : ∀ (s : Shared) (H : Hp) (C : Addr) (cl : List (Str × Addr)) (fp : List Addr), HG (X.blk s H scope (compEnvC scope cl C X.env) fp) noX tg sl g)
    (ht : ∀ (s : Shared) (H : Hp) (C : Addr) (cl : List (Str × Addr)) (fp : List Addr), HTs (X.blk s H scope (compEnvC scope cl C X.env) fp) noX ifs t)
    (hk : ∀ (s : Shared) (H : Hp) (C : Addr) (cl : List (Str × Addr)) (fp : List Addr), HE (X.blk s H scope (compEnvC scope cl C X.env) fp) noX kx mk)
    (hv : ∀ (s : Shared) (H : Hp) (C : Addr) (cl : List (Str × Addr)) (fp : List Addr), HE (X.blk s H scope (compEnvC scope cl C X.env) fp) noX vx mv)
    (hsl : (sl.all fun i => (own.map (·.2)).contains i) = true := by rfl) (hs : ∀ x, foldedSetIterable iter X.env x = pure x := by intro _; rfl) : HS X XP (.Assign [.Name y py] (.DictComp kx vx [⟨tg, iter, ifs, 0⟩] scope pos) spos) (sAsg (mDc mi g t mk mv (own.map (·.2))) (gSet i)) := by
  obtain ⟨wi, i1, i2⟩ := hi.ex
  have hsl' : ∀ i ∈ sl, i ∈ own.map (·.2) := fun i h => by simpa using List.all_eq_true.mp hsl i h
  exact ⟨_, ps_setDc c.calm c.nd hy hyl hsw i1 (blkOk_by ok) (fun s H C cl fp => (hg s H C cl fp).rd) (fun s H C cl fp => (ht s H C cl fp).rd) (fun s H C cl fp => (hk s H C cl fp).rd) (fun s H C cl fp => (hv s H C cl fp).rd) hs,
    asg_run (sl := [i]) (dc_run hsl' i2) fun ρ w E G v σ H Q r er sr q => q.ok sr ⟨er.set r i, List.length_set, fun j hj => set_other (by simpa using hj)⟩⟩
end
/-! ### two functions handed in are unlike -/
theorem fun_ne {K : Fg} {x qual x' qual' : Str} {st st' : Stmt} {f f' : Addr} {fd fd' : FuncData} (F : Fun K x qual st f fd) (F' : Fun K x' qual' st' f' fd') (hx : x ≠ x') : f ≠ f' := by
  rintro rfl
  obtain ⟨oc, od, kV, doc, pm, an, cdv, ct, osl, e1, lk, _⟩ := F.ex
  obtain ⟨oc', od', kV', doc', pm', an', cdv', ct', osl', e2, lk', _⟩ := F'.ex
  rw [lk] at lk'
  have e : fd = fd' := by
    injection lk' with h
    injection h with _ _ h3
    injection h3
  rw [e1, e2] at e
  have := congrArg FuncData.name e
  exact hx this
end PL
/- part PLH -/
set_option maxHeartbeats 1000000
namespace PL
open PySem PySem.Spec PyProof.Rows L2
/-! ### walks over dicts: pure rules -/
theorem Fr.lock {G : Cells} {n : Nat} {c : Cell} : Fr [n] G (G.set n c) := Fr.set (by simp)
theorem Fr.back {S : List Nat} {G G2 : Cells} {n : Nat} {kvs kvs' : List (Key × W)} (hc : G[n]? = some (.dct kvs)) (f : Fr S (G.set n (.lkd kvs)) G2) : Fr S G (G2.set n (.dct kvs)) := by
  refine ⟨by have := f.1; simpa using this, fun m hm hS => ?_⟩
  by_cases e : m = n
  · subst e
    rw [List.getElem?_set_self (by have := f.1; simp at this; omega)]; exact hc.symm
  · rw [List.getElem?_set_ne (Ne.symm e), f.2 m (by simpa using hm) hS, List.getElem?_set_ne (Ne.symm e)]
theorem lkd_get {S : List Nat} {G G2 : Cells} {n : Nat} {kvs : List (Key × W)} (hc : G[n]? = some (.dct kvs)) (hn : n ∉ S) (f : Fr S (G.set n (.lkd kvs)) G2) : G2[n]? = some (.lkd kvs) := f.get (List.getElem?_set_self (lt_of_get hc)) hn
theorem unR_sat {n : Nat} {kvs : List (Key × W)} {r : Rs W} {Q : W → Cells → Prop} (h : r.sat fun w G => (∃ k, G[n]? = some (.lkd k)) ∧ Q w (G.set n (.dct kvs))) : (unR n kvs r).sat Q := by
  cases r with
  | ok w G =>
    obtain ⟨⟨k, hk⟩, q⟩ := h
    show (match G[n]? with | some (.lkd _) => Rs.ok w (G.set n (.dct kvs)) | _ => .no).sat Q
    rw [hk]; exact q
  | ex e G => exact h.elim
  | no => exact h.elim
theorem unS_sat {n : Nat} {kvs : List (Key × W)} {r : So} {N : PEnv → Cells → Prop} {R : W → Cells → Prop} (h : r.sat (fun E G => (∃ k, G[n]? = some (.lkd k)) ∧ N E (G.set n (.dct kvs))) fun w G => (∃ k, G[n]? = some (.lkd k)) ∧ R w (G.set n (.dct kvs))) : (unS n kvs r).sat N R := by
  cases r with
  | nx E G =>
    obtain ⟨⟨k, hk⟩, q⟩ := h
    show (match G[n]? with | some (.lkd _) => So.nx E (G.set n (.dct kvs)) | _ => .no).sat N R
    rw [hk]; exact q
  | rt w G =>
    obtain ⟨⟨k, hk⟩, q⟩ := h
    show (match G[n]? with | some (.lkd _) => So.rt w (G.set n (.dct kvs)) | _ => .no).sat N R
    rw [hk]; exact q
  | bk E G => exact h.elim
  | ct E G => exact h.elim
  | ex e E G => exact h.elim
  | no => exact h.elim
theorem dcD_pure {i n : Nat} {vw : List (Key × W) → List W} {kvs : List (Key × W)} {g : MG} {t : MT} {mk mv : ME} {vs : List Nat} {E : PEnv} {G : Cells} {Q : W → Cells → Prop} (hE : E[i]? = some (some (.ref n))) (hc : G[n]? = some (.dct kvs)) (f : W → Option (Key × W)) (hb : (vw kvs).length ≤ 100000)
    (hs : ∀ (j : Nat) w G', (vw kvs)[j]? = some w → Fr [n] G G' → G'[n]? = some (.lkd kvs) → (g w (wipeE E vs) G').sat fun E1 G2 => (t E1 G2).sat fun k G3 => if k = true then (mk E1 G3).sat fun y G4 => (mv E1 G4).sat fun z G5 => (∃ ky, keyW y = some ky ∧ f w = some (ky, z)) ∧ Fr [] G' G5 else f w = none ∧ Fr [] G' G3)
    (hq : ∀ m G', Fr [] G G' → G.length ≤ m → G'[m]? = some (.dct (mergeW [] ((vw kvs).filterMap f))) → Q (.ref m) G') : (mDcD i vw g t mk mv vs E G).sat Q := by
  unfold mDcD
  simp only [hE, hc]
  refine unR_sat (dc_pure (vw kvs) f ⟨Fr.refl, it_tup _ _ _⟩ hb (fun j w G' hw fr => hs j w G' hw (Fr.lock.trans fr.of_nil) (lkd_get hc (by simp) fr)) fun m G' fr hm hg => ⟨⟨_, lkd_get hc (by simp) fr⟩, ?_⟩)
  have hlt := lt_of_get hc
  rw [List.length_set] at hm
  exact hq m _ (Fr.back (kvs' := kvs) hc fr) hm (by rw [List.getElem?_set_ne (by omega)]; exact hg)
theorem lcD_pure {i n : Nat} {vw : List (Key × W) → List W} {kvs : List (Key × W)} {g : MG} {t : MT} {m : ME} {vs : List Nat} {E : PEnv} {G : Cells} {Q : W → Cells → Prop} (hE : E[i]? = some (some (.ref n))) (hc : G[n]? = some (.dct kvs)) (f : W → Option W) (hb : (vw kvs).length ≤ 100000)
    (hs : ∀ (j : Nat) w G', (vw kvs)[j]? = some w → Fr [n] G G' → G'[n]? = some (.lkd kvs) → (g w (wipeE E vs) G').sat fun E1 G2 => (t E1 G2).sat fun k G3 => if k = true then (m E1 G3).sat fun y G4 => f w = some y ∧ Fr [] G' G4 else f w = none ∧ Fr [] G' G3)
    (hq : ∀ p G', Fr [] G G' → G.length ≤ p → G'[p]? = some (.lst ((vw kvs).filterMap f)) → Q (.ref p) G') : (mLcD i vw g t m vs E G).sat Q := by
  unfold mLcD
  simp only [hE, hc]
  refine unR_sat (lc_pure (vw kvs) f ⟨Fr.refl, it_tup _ _ _⟩ hb (fun j w G' hw fr => hs j w G' hw (Fr.lock.trans fr.of_nil) (lkd_get hc (by simp) fr)) fun m G' fr hm hg => ⟨⟨_, lkd_get hc (by simp) fr⟩, ?_⟩)
  have hlt := lt_of_get hc
  rw [List.length_set] at hm
  exact hq m _ (Fr.back (kvs' := kvs) hc fr) hm (by rw [List.getElem?_set_ne (by omega)]; exact hg)
/-- for over a dict's view: I speaks of the cells while the dict is locked -/
theorem so_forD {i n : Nat} {vw : List (Key × W) → List W} {kvs : List (Key × W)} {g : MG} {b : MS} {E : PEnv} {G : Cells} {N : PEnv → Cells → Prop} {R : W → Cells → Prop} (hE : E[i]? = some (some (.ref n))) (hc : G[n]? = some (.dct kvs)) (I : Nat → PEnv → Cells → Prop)
    (h0 : I 0 E (G.set n (.lkd kvs))) (hl : ∀ j E' G', I j E' G' → G'[n]? = some (.lkd kvs))
    (hstep : ∀ j w E G, (vw kvs)[j]? = some w → I j E G → (g w E G).sat fun E1 G1 => (b E1 G1).sat (I (j + 1)) fun w G => (∃ k, G[n]? = some (.lkd k)) ∧ R w (G.set n (.dct kvs)))
    (hend : ∀ E G, I (vw kvs).length E G → N E (G.set n (.dct kvs))) : (sForD i vw g b E G).sat N R := by
  unfold sForD
  simp only [hE, hc]
  refine unS_sat (so_forI (vw kvs) I ?_ hstep fun E G q => ⟨⟨_, hl _ _ _ q⟩, hend E G q⟩)
  exact ⟨rfl, h0, fun _ _ _ _ => rfl⟩
/-! ### dicts from lists with unlike keys -/
theorem putW_new {κ : Type} [DecidableEq κ] {kvs : List (κ × W)} {k : κ} {w : W} (h : ∀ p ∈ kvs, p.1 ≠ k) : putW kvs k w = kvs ++ [(k, w)] := by
  unfold putW
  rw [if_neg]
  intro z
  obtain ⟨p, hp, e⟩ := List.any_eq_true.mp z
  exact h p hp (of_decide_eq_true e)
theorem mergeW_nodup : ∀ (l acc : List (Key × W)), (l.map (·.1)).Nodup → (∀ p ∈ l, ∀ q ∈ acc, q.1 ≠ p.1) → mergeW acc l = acc ++ l
  | [], acc, _, _ => by show acc = acc ++ []; simp
  | p :: l, acc, hn, hd => by
    rw [List.map_cons, List.nodup_cons] at hn
    show mergeW (putW acc p.1 p.2) l = _
    rw [putW_new (hd p (by simp)), mergeW_nodup l _ hn.2 fun q hq r hr => ?_]
    · simp
    · rcases List.mem_append.mp hr with hr | hr
      · exact hd q (by simp [hq]) r hr
      · rw [List.mem_singleton.mp hr]
        intro e
        exact hn.1 (List.mem_map.mpr ⟨q, hq, e.symm⟩)
theorem mergeW_nil {l : List (Key × W)} (h : (l.map (·.1)).Nodup) : mergeW [] l = l := by
  rw [mergeW_nodup l [] h (by simp)]; rfl
theorem valW_map {α κ : Type} [DecidableEq κ] (f : α → κ) (g : α → W) (xs : List α) (hf : ∀ x ∈ xs, ∀ y ∈ xs, f x = f y → x = y) {x : α} (hx : x ∈ xs) : valW (xs.map fun x => (f x, g x)) (f x) = some (g x) := by
  induction xs with
  | nil => cases hx
  | cons y ys ih =>
    rw [List.map_cons]
    by_cases e : f y = f x
    · rw [e, valW_pos, hf y (by simp) x hx e]
    · rw [valW_neg e]
      rcases List.mem_cons.mp hx with h | h
      · exact absurd (by rw [h]) e
      · exact ih (fun a ha b hb => hf a (by simp [ha]) b (by simp [hb])) h
theorem valW_none {κ : Type} [DecidableEq κ] {kvs : List (κ × W)} {k : κ} (h : ∀ p ∈ kvs, p.1 ≠ k) : valW kvs k = none := by
  unfold valW
  rw [List.find?_eq_none.mpr]
  · rfl
  · intro p hp hd
    exact h p hp (of_decide_eq_true hd)
theorem s_defL2a {i : Nat} {f f' g : Addr} {F F' : PF} {m : MA} {E : PEnv} {G : Cells} {Q : W → Cells → Prop} (hi : E[i]? = some (some (.fn g))) (hg : g = f) : (mDefL2 i f F f' F' m E G).sat Q = (m E G).sat fun ws G1 => (F ws G1).sat Q := by
  unfold mDefL2
  simp only [hi, hg, if_true]
  rw [sat_bind]
theorem s_defL2b {i : Nat} {f f' g : Addr} {F F' : PF} {m : MA} {E : PEnv} {G : Cells} {Q : W → Cells → Prop} (hi : E[i]? = some (some (.fn g))) (hg : g = f') (hne : f ≠ f') : (mDefL2 i f F f' F' m E G).sat Q = (m E G).sat fun ws G1 => (F' ws G1).sat Q := by
  unfold mDefL2
  subst hg
  have : ¬ g = f := fun e => hne e.symm
  simp only [hi, this, if_false, if_true]
  rw [sat_bind]
theorem s_defL {i : Nat} {f : Addr} {F : PF} {m : MA} {E : PEnv} {G : Cells} {Q : W → Cells → Prop} (hi : E[i]? = some (some (.fn f))) : (mDefL i f F m E G).sat Q = (m E G).sat fun ws G1 => (F ws G1).sat Q := by
  unfold mDefL
  simp only [hi, if_true]
  rw [sat_bind]
end PL
/- part PLI -/
set_option maxHeartbeats 1000000
namespace PL
open PySem PySem.Spec PyProof.Rows L2 SrtO
/-! ### the order of lists of ints -/
theorem lx_irr : ∀ a : List Int, HT.lexLt a a = false
  | [] => rfl
  | x :: xs => by rw [HT.lexLt_cons, if_pos rfl]; exact lx_irr xs
theorem lx_asym : ∀ a b : List Int, HT.lexLt a b = true → HT.lexLt b a = false
  | [], [], h => rfl
  | [], _ :: _, h => rfl
  | _ :: _, [], h => by cases h
  | x :: xs, y :: ys, h => by
    rw [HT.lexLt_cons] at h ⊢
    by_cases e : x = y
    · subst e; rw [if_pos rfl] at h ⊢; exact lx_asym xs ys h
    · rw [if_neg e] at h; rw [if_neg (Ne.symm e)]; simp at h ⊢; omega
theorem lx_tot : ∀ a b : List Int, HT.lexLt a b = false → HT.lexLt b a = false → a = b
  | [], [], _, _ => rfl
  | [], _ :: _, h, _ => by cases h
  | _ :: _, [], _, h => by cases h
  | x :: xs, y :: ys, h, k => by
    rw [HT.lexLt_cons] at h k
    by_cases e : x = y
    · subst e; rw [if_pos rfl] at h k; rw [lx_tot xs ys h k]
    · rw [if_neg e] at h; rw [if_neg (Ne.symm e)] at k; simp at h k; omega
theorem lx_tr : ∀ a b c : List Int, HT.lexLt b a = false → HT.lexLt c b = false → HT.lexLt c a = false
  | [], b, c, h, k => by
    cases c with
    | nil => rfl
    | cons z zs => rfl
  | x :: xs, [], c, h, k => by cases h
  | x :: xs, y :: ys, [], h, k => by cases k
  | x :: xs, y :: ys, z :: zs, h, k => by
    rw [HT.lexLt_cons] at h k ⊢
    by_cases e : y = x
    · subst e
      rw [if_pos rfl] at h
      by_cases f : z = y
      · subst f
        rw [if_pos rfl] at k ⊢
        exact lx_tr xs ys zs h k
      · rw [if_neg f] at k ⊢; exact k
    · rw [if_neg e] at h
      by_cases f : z = y
      · subst f; rw [if_pos rfl] at k; rw [if_neg e]; exact h
      · rw [if_neg f] at k
        simp at h k
        rw [if_neg (by omega)]; simp; omega
theorem lx_swo {α : Type} (k : α → List Int) : Swo (fun x y => HT.lexLt (k x) (k y)) := ⟨fun x y h => lx_asym _ _ h, fun x y z h1 h2 => lx_tr _ _ _ h1 h2⟩
/-! ### the machine compares tuples of ints -/
section
variable {prog : Program} {w : World} {A : Around} {E : Value → Shared → Prop} {s : Shared}
theorem lex_intsA {b : Bool} {Q : Bool → Shared → Prop} {xs ys : List Value} {ns ms : List Int} (i : Nat) (hx : IntsAre xs ns) (hy : IntsAre ys ms) (fin : Bool) (hf : fin = decide (ns.length < ms.length)) (h : Q (HT.lexLt ns ms) s) : PySem.W.KatLex prog w A b fin Q (xs.zip ys) i s := by
  induction hx generalizing ys ms i with
  | nil =>
    cases hy with
    | nil => subst hf; exact PySem.W.kat_nil h
    | cons q u hy => subst hf; exact PySem.W.kat_nil h
  | @cons p t xs ns hx ih =>
    cases hy with
    | nil => subst hf; exact PySem.W.kat_nil h
    | @cons q u ys ms hy =>
      show PySem.W.KatLex prog w A b fin Q ((Value.int p t, Value.int q u) :: xs.zip ys) i s
      rw [HT.lexLt_cons] at h
      refine PySem.W.kat_cons (wpAny_eqBool_int ?_)
      by_cases e : p = q
      · subst e
        rw [beq_self_eq_true]
        rw [if_pos rfl] at h
        exact PySem.W.kat_yes (ih (i + 1) hy (by rw [hf]; simp) h)
      · rw [show (p == q) = false from beq_eq_false_iff_ne.mpr e]
        rw [if_neg e] at h
        exact PySem.W.kat_no (TS.oneLt_ints _ h)
theorem call_tuple_ltI {l b : Addr} {items items2 : Array Value} {ns ms : List Int} {Q : Value → Shared → Prop} (hl : IsTup s.heap l items) (hb : IsTup s.heap b items2) (hi : IntsAre items.toList ns) (hj : IntsAre items2.toList ms) (h : Q (.bool (HT.lexLt ns ms)) s) :
    wpAny (model prog w) A (call (.builtin "tuple.__lt__") [.ref l, .ref b]) Q E s := by
  obtain ⟨⟨cls, dd, data, sl⟩, ho, hc, n, hd⟩ := id hl
  obtain ⟨⟨cls2, dd2, data2, sl2⟩, ho2, hc2, n2, hd2⟩ := id hb
  simp only at hc hd hc2 hd2
  subst hc hd hc2 hd2
  exact call_meets F.slot_tuple_lt ⟨_, ho, rfl⟩ F.entry_tuple_lt (F.args_tuple_lt_2 _ _) (HT.tuple_lt_ints l b items items2 n n2 dd dd2 sl sl2 ns ms hi hj) ⟨ho, ho2, h⟩
theorem oneLt_tups {f : Bool} {l b : Addr} {items items2 : Array Value} {ns ms : List Int} {Q : Bool → Shared → Prop} (hu : A.units < cLine) (hl : IsTup s.heap l items) (hb : IsTup s.heap b items2) (hi : IntsAre items.toList ns) (hj : IntsAre items2.toList ms) (h : Q (HT.lexLt ns ms) s) :
    wpAny (model prog w) A (oneLt' f (.ref l) (.ref b)) Q E s := by
  cases f with
  | false => exact PySem.W.kat_one _ _ (HT.lt_tupInts hl hb hi hj hu h)
  | true =>
    have hty : s.TypeIs (.ref l) "tuple" := by obtain ⟨o, ho, hc, _⟩ := hl; exact ⟨o, ho, hc⟩
    rw [oneLt'_eq]
    simp only [if_true]
    refine wpAny_bind (wpAny_cRoomFor hu ?_)
    refine wpAny_bind (wpAny_callSpecialIfBound?_slot (T := "tuple") hty F.slot_tuple_lt (call_tuple_ltI hl hb hi hj ?_))
    exact wpAny_truthy_bool h
theorem key_tups {p q : Value} {κ : SortKind} {ns ms : List Int} (hκ : κ = general' ∨ κ = oneType' ∨ ∃ b, κ = tuples' b) (hu : A.units < cLine) (hp : TS.TupInts s.heap p ns) (hq : TS.TupInts s.heap q ms) :
    wpAny (model prog w) A (keyLt' κ p q) (fun r s' => s' = s ∧ r = HT.lexLt ns ms) (fun _ _ => False) s := by
  obtain ⟨a, xs, rfl, h1, i1⟩ := hp
  obtain ⟨b, ys, rfl, h2, i2⟩ := hq
  rcases hκ with rfl | rfl | ⟨f, rfl⟩
  · exact oneLt_tups (f := false) hu h1 h2 i1 i2 ⟨rfl, rfl⟩
  · rw [keyLt'_oneType]
    exact oneLt_tups (f := true) hu h1 h2 i1 i2 ⟨rfl, rfl⟩
  · obtain ⟨o, ho, hc, n, hd⟩ := h1
    obtain ⟨o2, ho2, hc2, n2, hd2⟩ := h2
    have l1 := i1.length
    have l2 := i2.length
    rw [Array.length_toList] at l1 l2
    exact PySem.W.kat_lt ho hd ho2 hd2 (lex_intsA 0 i1 i2 _ (by rw [l1, l2]) ⟨rfl, rfl⟩)
/-- a tuple's first item -/
def fOf (h : Heap) (v : Value) : Option Value := match v with
  | .ref a => match h.get? a with
    | some o => (match o.data with | .seq xs _ => xs[0]? | _ => none)
    | none => none
  | _ => none
theorem looks_tup {M : Model} {v : Value} {ns : List Int} (h : TS.TupInts s.heap v ns) : PySem.W.Looks M s.heap (typeOf v) (.type "tuple") := by
  obtain ⟨a, xs, rfl, ⟨o, ho, hc, n, hd⟩, i⟩ := h
  rw [← hc]
  exact (PySem.W.Looks.ld ho).andThen .now
theorem firsts2 {M : Model} {k : Value → List Int} : ∀ (vs : List Value) {Q : List (Option Value) → Shared → Prop}, (∀ v ∈ vs, TS.TupInts s.heap v (k v)) → Q (vs.map (fOf s.heap)) s → wpAny M A (vs.mapM firstOfTuple') Q E s
  | [], _, _, h => by rw [List.mapM_nil]; exact wpAny_pure h
  | v :: vs, Q, t, h => by
    have hl := looks_tup (M := M) (t v (by simp))
    obtain ⟨a, xs, rfl, ⟨o, ho, hc, n, hd⟩, i⟩ := t v (by simp)
    rw [List.mapM_cons]
    refine wpAny_bind ?_
    rw [PySem.W.kas_first_eq]
    refine wpAny_bind (hl.here ?_)
    rw [if_neg (by first | decide | simp)]
    refine wpAny_bind (listItems_at ho hd (wpAny_pure ?_))
    have e : fOf s.heap (.ref a) = xs[0]? := by simp only [fOf, ho, hd]
    rw [List.map_cons, e] at h
    exact wpAny_bind (firsts2 vs (Q := fun bs s' => wpAny M A (pure (xs[0]? :: bs)) Q E s') (fun v hv => t v (by simp [hv])) (wpAny_pure h))
theorem fOf_some {v : Value} {ns : List Int} (h : TS.TupInts s.heap v ns) : (fOf s.heap v).isSome = !ns.isEmpty := by
  obtain ⟨a, xs, rfl, ⟨o, ho, hc, n, hd⟩, i⟩ := h
  have e : fOf s.heap (.ref a) = xs[0]? := by simp only [fOf, ho, hd]
  rw [e]
  have l := i.length
  rw [Array.length_toList] at l
  cases ns with
  | nil => rw [Array.getElem?_eq_none (by rw [l]; exact Nat.zero_le _)]; rfl
  | cons x xs => rw [Array.getElem?_eq_getElem (by rw [l]; exact Nat.succ_pos _)]; rfl
theorem firsts_int {k : Value → List Int} : ∀ vs : List Value, (∀ v ∈ vs, TS.TupInts s.heap v (k v)) → (∀ v ∈ vs, k v ≠ []) → ∃ fs, PySem.W.KatTups s.heap vs fs ∧ fs.length = vs.length ∧ ∀ f, f ∈ fs → ∃ n t, f = Value.int n t
  | [], _, _ => ⟨[], PySem.W.KatTups.nil, rfl, fun f hf => by simp at hf⟩
  | v :: vs, x, ne => by
    obtain ⟨fs, kk, hl, hi⟩ := firsts_int vs (fun u hu => x u (List.mem_cons_of_mem _ hu)) fun u hu => ne u (List.mem_cons_of_mem _ hu)
    obtain ⟨a, xs, rfl, ⟨o, ho, hc, n, hdt⟩, i⟩ := x v (List.mem_cons_self ..)
    have hne := ne _ (List.mem_cons_self ..)
    obtain ⟨y, ys, e⟩ : ∃ y ys, xs.toList = y :: ys := by
      cases q : xs.toList with
      | nil =>
        rw [q] at i
        cases hk : k (.ref a) with
        | nil => exact absurd hk hne
        | cons z zs => rw [hk] at i; cases i
      | cons y ys => exact ⟨y, ys, rfl⟩
    obtain ⟨m, t, hy⟩ := i.all y (by rw [e]; exact List.mem_cons_self ..)
    refine ⟨y :: fs, PySem.W.KatTups.cons ho hc hdt ?_ kk, by simp [hl], ?_⟩
    · have z := congrArg (fun l : List Value => l[0]?) e
      simpa using z
    · intro f hf
      rcases List.mem_cons.mp hf with rfl | hf
      · exact ⟨m, t, hy⟩
      · exact hi f hf
theorem kind_tupsA {vs : List Value} {k : Value → List Int} (h2 : 2 ≤ vs.length) (x : ∀ v ∈ vs, TS.TupInts s.heap v (k v)) : ∃ κ, (κ = general' ∨ κ = oneType' ∨ ∃ b, κ = tuples' b) ∧ ∀ (Q : SortKind → Shared → Prop) (E : Value → Shared → Prop), Q κ s → wpAny (model prog w) A (keyKind' vs.toArray) Q E s := by
  by_cases hall : ∀ v ∈ vs, k v ≠ []
  · obtain ⟨fs, t, hl, hi⟩ := firsts_int vs x hall
    refine ⟨tuples' (Value.type "int" != Value.type "tuple"), .inr (.inr ⟨_, rfl⟩), fun Q E h => ?_⟩
    refine PySem.W.kat_kind (T := Value.type "int") t (by omega) (fun f hf => ?_) rfl h
    obtain ⟨n, t, rfl⟩ := hi f hf
    exact PySem.W.Looks.of_pure rfl
  · have hno : ¬ (((vs.map (fOf s.heap)).toArray.all fun x => x.isSome) = true) := by
      intro z
      apply hall
      intro v hv e
      simp only [List.all_toArray, List.all_map, List.all_eq_true] at z
      have := z v hv
      simp only [Function.comp] at this
      rw [fOf_some (x v hv), e] at this
      cases this
    by_cases h0 : (((vs.map (fOf s.heap)).toArray[0]?).bind id).isSome = true
    · refine ⟨general', .inl rfl, fun Q E h => ?_⟩
      rw [keyKind'_eq, List.mapM_toArray, map_eq_pure_bind]
      refine wpAny_bind (wpAny_bind (firsts2 vs x (wpAny_pure ?_)))
      rw [if_neg hno, if_pos h0]
      exact wpAny_pure h
    · refine ⟨oneType', .inr (.inl rfl), fun Q E h => ?_⟩
      rw [keyKind'_eq, List.mapM_toArray, map_eq_pure_bind]
      refine wpAny_bind (wpAny_bind (firsts2 vs x (wpAny_pure ?_)))
      rw [if_neg hno, if_neg h0]
      rw [oneTypeOnly'_eq, List.mapM_toArray, map_eq_pure_bind]
      refine wpAny_bind (wpAny_bind (wpAny_bind (PySem.W.kas_mapM (r := Value.type "tuple") _ (fun v hv Q' hq => (looks_tup (x v hv)).here hq) (wpAny_pure ?_))))
      have hall2 : ((List.map (fun _ => Value.type "tuple") vs).toArray.all fun x => x == Value.type "tuple") = true := by
        simp only [List.all_toArray, List.all_map, List.all_eq_true]
        intro _ _
        rfl
      have h0' : (List.map (fun _ => Value.type "tuple") vs).toArray[0]? = some (Value.type "tuple") := by
        obtain ⟨v, r, rfl⟩ : ∃ v r, vs = v :: r := by
          match vs, h2 with
          | v :: r, _ => exact ⟨v, r, rfl⟩
        simp
      rw [h0']
      simp only [hall2, if_true]
      exact wpAny_pure (wpAny_pure h)
theorem tups_sortableO {a : Addr} {vs : List Value} {k : Value → List Int} (h2 : 2 ≤ vs.length) (hu : A.units < cLine) (x : ∀ v ∈ vs, TS.TupInts s.heap v (k v)) (ha : ∀ o, s.heap.get? a = some o → o.cls ≠ .type "tuple") : SortableO prog w A s a vs (fun v u => HT.lexLt (k v) (k u)) := by
  intro h' keep
  have x' : ∀ v ∈ vs, TS.TupInts h' v (k v) := fun v hv => (x v hv).keeps fun b o e hc => keep b o (fun z => by subst z; exact ha o e hc) e
  obtain ⟨κ, hκ, hk⟩ := kind_tupsA (prog := prog) (w := w) (A := A) (s := { s with heap := h' }) h2 x'
  refine ⟨κ, hk, fun p q hp hq => ?_⟩
  exact key_tups (s := { s with heap := h' }) hκ hu (x' _ hp) (x' _ hq)
theorem sorted_tupsO {l : Addr} {vs : List Value} {k : Value → List Int} {Q : Value → Shared → Prop} (hu : A.units + 2 < cLine) (hl : s.heap.IsList l vs.toArray) (hz : vs.length ≤ sizeLine) (x : ∀ v ∈ vs, TS.TupInts s.heap v (k v))
    (h : ∀ (h' : Heap) (d : Addr) (out : List Value), out.Perm vs → (out.map k).Pairwise (fun a b => HT.lexLt b a = false) → (∀ b o, s.heap.get? b = some o → h'.get? b = some o) → s.heap.objs.size ≤ d → (∃ n, h'.get? d = some (seqObj "list" out.toArray n)) → Q (.ref d) { s with heap := h' }) :
    wpAny (model prog w) A (call (.builtin "sorted") [.ref l]) Q E s := by
  refine sorted_ord (lx_swo k) hl hz (fun h2 h₁ a ha kk => ?_) fun out hs hb => ?_
  · refine tups_sortableO (s := { s with heap := h₁ }) h2 hu (fun v hm => (x v hm).keeps fun b o e _ => (kk b o e).2) fun o e => ?_
    have e' : some o = some (seqObj "list" vs.toArray 0) := e.symm.trans ha
    cases e'
    intro c
    exact absurd (Value.type.inj c) (by decide)
  · refine h _ _ out hb.perm ?_ (fun b o e => PyProof.Rows.sortedAll_old e) (Nat.le_succ _) (PyProof.Rows.sortedAll_at s.heap vs out.toArray)
    rw [List.pairwise_map]
    exact hs
end
/-! ### sorted of a list of tuples of ints, as a rule -/
def numV : V → Int
  | .int i => i
  | _ => 0
def intsV (H : Hp) : V → List Int
  | .ref t => (match H t with | some (.tup us) => us.map numV | _ => [])
  | _ => []
theorem numV_map (ns : List Int) : (ns.map V.int).map numV = ns := by rw [List.map_map]; exact List.map_id' ns
theorem intsV_eq {H : Hp} {t : Addr} {ns : List Int} (h : H t = some (.tup (ns.map V.int))) : intsV H (.ref t) = ns := by simp only [intsV, h, numV_map]
section
variable {X : Cx} {XP : Wish} {k : Nat}
def rSortedTs (K : PySem.W.Frag) : List V → Hp → VK → Prop := fun vs H Q => ∃ (a : Addr) (xs : List V), vs = [V.ref a] ∧ SqL K H a xs ∧ (∀ x ∈ xs, ∃ (t : Addr) (ns : List Int), x = V.ref t ∧ H t = some (.tup (ns.map V.int))) ∧
  ∀ ys p, ys.Perm xs → (ys.map (intsV H)).Pairwise (fun a b => HT.lexLt b a = false) → H p = none → Q (.ref p) (upd H p (.lst ys))
theorem cr_sortedTs (hu : X.A.units + 2 < cLine) : CallR X (.builtin "sorted") (rSortedTs X.K) := by
  intro pins s σ H vs us Q I r h
  obtain ⟨a, xs, rfl, hs, hx, q⟩ := h
  obtain ⟨its, rv, hl, hz⟩ := I.list hs
  obtain ⟨u, rfl, ru⟩ := vals1 r
  obtain rfl : u = Value.ref a := ru
  obtain ⟨e1, e2⟩ := refs_back rv fun x m => by
    obtain ⟨t, ns, e, _⟩ := hx x m
    exact ⟨t, e⟩
  refine sorted_tupsO (k := fun u => intsV H (backV u)) hu hl.isList (by rw [← rv.length]; exact hz) (fun v hv => ?_) fun h' d out h1 h2 kp hd hn => ?_
  · obtain ⟨t, rfl⟩ := e2 v hv
    have hm : V.ref t ∈ xs := by rw [e1]; exact List.mem_map.mpr ⟨_, hv, rfl⟩
    obtain ⟨t', ns, e, ht⟩ := hx _ hm
    cases e
    obtain ⟨_, its2, r2, o, ho, hc, n, hd⟩ := I.hok _ _ ht
    show TS.TupInts s.heap (.ref t) (intsV H (.ref t))
    rw [intsV_eq ht]
    exact ⟨t, its2.toArray, rfl, ⟨o, ho, hc, n, hd⟩, intsAre_of r2⟩
  · have h3 : ∀ u ∈ out, ∃ a, u = Value.ref a := fun u hu => e2 u (h1.mem_iff.mp hu)
    obtain ⟨n, hn⟩ := hn
    have hb : (out.map backV).Perm xs := by rw [e1]; exact h1.map backV
    refine ⟨.ref d, upd H d (.lst (out.map backV)), I.laid (t' := s.toks) kp hd ⟨?_, out, n, vals_back h3, hn⟩, rfl, q _ d hb ?_ (I.hok.fresh hd)⟩
    · rw [hb.length_eq]; exact hz
    · rw [List.map_map]; exact h2
def leL (a b : List Int) : Bool := !HT.lexLt b a
theorem leL_sorted (nss : List (List Int)) : (nss.mergeSort leL).Pairwise (fun a b => HT.lexLt b a = false) := by
  have := List.pairwise_mergeSort (le := leL) (fun a b c h k => by unfold leL at *; simp at *; exact lx_tr _ _ _ h k) (fun a b => by
    unfold leL
    cases h : HT.lexLt b a with
    | false => simp
    | true => simp [lx_asym _ _ h]) nss
  exact this.imp fun h => by unfold leL at h; simpa using h
theorem sortL_is {ys nss : List (List Int)} (h1 : ys.Perm nss) (h2 : ys.Pairwise (fun a b => HT.lexLt b a = false)) : ys = nss.mergeSort leL := by
  refine (h1.trans (List.mergeSort_perm nss leL).symm).eq_of_pairwise (le := fun a b => HT.lexLt b a = false) (fun a b _ _ h k => lx_tot a b k h) h2 (leL_sorted nss)
def tsW : List W → Option (List (List Int))
  | [] => some []
  | .tup ws :: r => (match intsW ws, tsW r with | some ns, some q => some (ns :: q) | _, _ => none)
  | _ => none
abbrev tupsW (nss : List (List Int)) : List W := nss.map fun ns => .tup (ns.map W.int)
theorem tsW_map (nss : List (List Int)) : tsW (tupsW nss) = some nss := by
  induction nss with
  | nil => rfl
  | cons x xs ih => simp only [tupsW, List.map_cons, tsW, intsW_map]; rw [ih]
theorem vrs_intsL {K : Fg} {ρ : List Addr} {H : Hp} : ∀ (ns : List Int), VRs K ρ H (ns.map W.int) (ns.map V.int)
  | [] => .nil
  | n :: ns => .cons (.int n) (vrs_intsL ns)
theorem tsW_ok {K : Fg} {ρ : List Addr} {H : Hp} : ∀ {ws : List W} {vs : List V} {nss : List (List Int)}, VRs K ρ H ws vs → tsW ws = some nss → (∀ x ∈ vs, ∃ (t : Addr) (ns : List Int), x = V.ref t ∧ H t = some (.tup (ns.map V.int))) ∧ vs.map (intsV H) = nss
  | _, _, _, .nil, h => by cases h; exact ⟨by simp, rfl⟩
  | w :: ws, v :: vs, nss, .cons r rr, h => by
    cases r with
    | tup h1 h2 =>
      simp only [tsW] at h
      split at h
      · rename_i ns q e1 e2
        cases h
        obtain ⟨a, b⟩ := tsW_ok rr e2
        have e := intsW_ok h2 e1
        subst e
        refine ⟨fun x hx => ?_, ?_⟩
        · rcases List.mem_cons.mp hx with rfl | hx
          · exact ⟨_, ns, rfl, h1⟩
          · exact a x hx
        · rw [List.map_cons, b, intsV_eq h1]
      · cases h
    | _ => cases h
theorem vrs_back {K : Fg} {ρ : List Addr} {H : Hp} : ∀ (ys : List V), (∀ x ∈ ys, ∃ (t : Addr) (ns : List Int), x = V.ref t ∧ H t = some (.tup (ns.map V.int))) → VRs K ρ H (tupsW (ys.map (intsV H))) ys
  | [], _ => .nil
  | y :: ys, h => by
    obtain ⟨t, ns, rfl, ht⟩ := h y (by simp)
    rw [List.map_cons]
    refine .cons (.tup ht ?_) (vrs_back ys fun x hx => h x (by simp [hx]))
    rw [intsV_eq ht]
    exact vrs_intsL ns
def sortedLW : GCall := fun G ws => match ws with
  | [.ref n] => (match rdL G n with | some xs => (match tsW xs with | some nss => .ok (.ref G.length) (G ++ [.lst (tupsW (nss.mergeSort leL))]) | none => .no) | none => .no)
  | _ => .no
theorem cg_sortedL (c : GC X XP k) : CaG X XP (.builtin "sorted") sortedLW := by
  refine ⟨_, cr_sortedTs (by have := c.room.room.un; omega), fun ρ G σ H ws vs Q s r o => ?_⟩
  unfold sortedLW at o
  split at o
  · cases r with
    | cons r rr =>
      cases rr
      cases r with
      | ref hn =>
        split at o
        · rename_i xs hx
          split at o
          · rename_i nss hi
            obtain ⟨us, q1, q2⟩ := rdL_ok s hn hx
            obtain ⟨a, b⟩ := tsW_ok q2 hi
            refine ⟨_, us, rfl, q1, a, fun ys p h1 h2 hp => ?_⟩
            have hy : ∀ x ∈ ys, ∃ (t : Addr) (ns : List Int), x = V.ref t ∧ H t = some (.tup (ns.map V.int)) := fun x hx => a x (h1.mem_iff.mp hx)
            have e : ys.map (intsV H) = nss.mergeSort leL := sortL_is (by rw [← b]; exact h1.map _) h2
            have := vrs_back (K := X.K) (ρ := ρ) ys hy
            rw [e] at this
            exact out_lst o s this hp
          · exact o.elim
        · exact o.elim
  · exact o.elim
theorem e_sortL {G : Cells} {n : Nat} {nss : List (List Int)} (h : G[n]? = some (.lst (tupsW nss))) : sortedLW G [.ref n] = .ok (.ref G.length) (G ++ [.lst (tupsW (nss.mergeSort leL))]) := by
  unfold sortedLW
  simp only [rdL_lst h, tsW_map]
end
end PL
/- part PLJ -/
set_option maxHeartbeats 4000000
namespace PL
open PySem PySem.Spec PyProof.Rows L2
section
variable {X : Cx} {XP : Wish} {pos : Pos}
/-! ### comprehensions with two fors -/
def rdI (K : Fg) (XP : Wish) (m : MI) : TI := fun σ H R => ∃ ρ E G, ER K ρ H E σ ∧ SR K ρ G H ∧ Out K XP (ItR K) σ ρ H (m E G) R
theorem HI.rd {tg iter : Expr} {m : MI} (h : HI X XP tg iter m) : PI X tg iter (rdI X.K XP m) := by
  obtain ⟨wi, h1, h2⟩ := h.ex
  exact ⟨fun pins s σ H R I ⟨ρ, E, G, er, sr, q⟩ => h1.run pins s σ H R I (h2 ρ E G σ H R er sr q)⟩
def lcL2 (pit : PIt) (g : MG) (t : MT) (mi1 : MI) (g1 : MG) (t1 : MT) (m : ME) (vs1 : List Nat) (n : Nat) (E : PEnv) : Nat → Nat → Cells → Option Cells
  | fuel, i, G => match pit.at G i with
    | none => none
    | some none => some G
    | some (some w) => match fuel with
      | 0 => none
      | k + 1 => match g w E G with
        | .ok E1 G1 => (match t E1 G1 with
          | .ok true G2 => (match mi1 E1 G2 with
            | .ok pit1 G3 => (match lcL pit1 g1 t1 m n (wipeE E1 vs1) (pit1.len G3) 0 G3 with
              | some G4 => lcL2 pit g t mi1 g1 t1 m vs1 n E k (i + 1) G4
              | none => none)
            | _ => none)
          | .ok false G2 => lcL2 pit g t mi1 g1 t1 m vs1 n E k (i + 1) G2
          | _ => none)
        | _ => none
@[irreducible] def mLc2 (mi : MI) (g : MG) (t : MT) (mi1 : MI) (g1 : MG) (t1 : MT) (m : ME) (vs vs1 : List Nat) : ME := fun E G => (mi E G).bind fun pit G1 =>
  match lcL2 pit g t mi1 g1 t1 m vs1 G1.length (wipeE E vs) (pit.len G1) 0 (G1 ++ [.lst []]) with
  | some G2 => .ok (.ref G1.length) G2
  | none => .no
/-- the inner loop -/
theorem lc_inner {ρ0 : List Addr} {H0 : Hp} {pit1 : PIt} {J1 : It} {g1 : MG} {t1 : MT} {m : ME} {vs1 sl1 : List Nat} {E1 : PEnv} {σ2 : St} {n : Nat} {D : Addr} {Nx : Hp → Prop} {G4 : Cells} (hsl1 : ∀ i ∈ sl1, i ∈ vs1)
    (er : ER X.K ρ0 H0 E1 σ2) (r1 : ItR X.K ρ0 H0 pit1 J1) (hn : ρ0[n]? = some D)
    (hP : ∀ ρ' H', Ext X.K ρ0 H0 ρ' H' → SR X.K ρ' G4 H' → Nx H') {fuel : Nat} {G : Cells} (hl : lcL pit1 g1 t1 m n (wipeE E1 vs1) fuel 0 G = some G4) (s : SR X.K ρ0 G H0) :
    ∃ W1 : Nat → Nat → Hp → Prop, (∃ k, W1 0 k H0) ∧ ∀ j k H, W1 j k H →
      (J1.stop j H ∧ Nx H) ∨ (J1.go j H ∧ ∃ Nx1 : Hp → Prop, (∀ H', Nx1 H' → ∃ k', k' < k ∧ W1 (j + 1) k' H') ∧ ∀ x H', J1.yld j H x H' → rdG X.K noX sl1 g1 x (L2.wipe σ2 vs1) H' fun σ3 H5 => L2.wipe σ3 vs1 = L2.wipe σ2 vs1 ∧ rdT X.K noX t1 σ3 H5 fun b H6 =>
        if b = true then rdE X.K noX m σ3 H6 fun y H7 => ∃ acc, H7 D = some (.lst acc) ∧ acc.length < sizeLine ∧ Nx1 (upd H7 D (.lst (acc ++ [y]))) else Nx1 H6) := by
  refine ⟨fun j k H' => ∃ ρ' G', Ext X.K ρ0 H0 ρ' H' ∧ SR X.K ρ' G' H' ∧ lcL pit1 g1 t1 m n (wipeE E1 vs1) k j G' = some G4, ⟨fuel, ρ0, G, .refl, s, hl⟩, ?_⟩
  rintro i k H' ⟨ρ', G', ex, s', hl⟩
  obtain ⟨hstop, hgo⟩ := r1 ρ' G' H' ex s' i
  have hn' := ex.rho _ _ hn
  unfold lcL at hl
  split at hl
  · cases hl
  · rename_i ha
    cases hl
    exact .inl ⟨hstop ha, hP ρ' H' ex s'⟩
  · rename_i w ha
    obtain ⟨go, hy⟩ := hgo w ha
    split at hl
    · cases hl
    · rename_i k0
      refine .inr ⟨go, fun H2 => ∃ ρ2 G3, Ext X.K ρ0 H0 ρ2 H2 ∧ SR X.K ρ2 G3 H2 ∧ lcL pit1 g1 t1 m n (wipeE E1 vs1) k0 (i + 1) G3 = some G4, fun H2 h => ⟨k0, Nat.lt_succ_self _, h⟩, fun x H2 y => ?_⟩
      obtain ⟨y1, y2, y3⟩ := hy x H2 y
      have erw : ER X.K ρ' H2 (wipeE E1 vs1) (L2.wipe σ2 vs1) := ((er.mono (ex.trans y1)).wipe vs1)
      refine ⟨ρ', w, wipeE E1 vs1, G', y3, erw, y2, ?_⟩
      split at hl
      · rename_i E2 G3 hg
        rw [hg]
        intro ρ3 H3 σ3 e3 s3 r3
        refine ⟨wipe_again ?_ r3.2.2 hsl1, ρ3, E2, G3, r3.1, s3, ?_⟩
        · rw [r3.2.1, L2.wipe_length]
        · split at hl
          · rename_i G5 ht
            rw [ht]
            intro ρ4 H4 b e4 s4 hb
            cases hb
            rw [if_pos rfl]
            refine ⟨ρ4, E2, G5, r3.1.mono e4, s4, ?_⟩
            split at hl
            · rename_i yw G6 hm
              rw [hm]
              intro ρ5 H5 v e5 s5 r5
              have ext5 : Ext X.K ρ' H' ρ5 H5 := y1.trans (e3.trans (e4.trans e5))
              have hn5 := ext5.rho _ _ hn'
              split at hl
              · rename_i acc hc
                split at hl
                · rename_i hz
                  obtain ⟨us, q1, q2⟩ := cell_lst s5 hn5 hc
                  have exw : Ext X.K ρ5 H5 ρ5 (upd H5 D (.lst (us ++ [v]))) := s5.ext_write hc hn5 rfl
                  exact ⟨us, q1, by rw [← q2.length]; exact hz, ρ5, _, (ex.trans ext5).trans exw, s5.write (c' := .lst (acc ++ [yw])) hc hn5 rfl rfl ⟨us ++ [v], upd_same, (q2.mono exw).append (.cons (r5.mono exw) .nil)⟩, hl⟩
                · cases hl
              · cases hl
            · cases hl
          · rename_i G5 ht
            rw [ht]
            intro ρ4 H4 b e4 s4 hb
            cases hb
            rw [if_neg Bool.false_ne_true]
            exact ⟨ρ4, G5, ex.trans (y1.trans (e3.trans e4)), s4, hl⟩
          · cases hl
      · cases hl
theorem lc2_run {wi : TI} {mi mi1 : MI} {g g1 : MG} {t t1 : MT} {m : ME} {vs vs1 sl sl1 : List Nat} (hsl : ∀ i ∈ sl, i ∈ vs) (hsl1 : ∀ i ∈ sl1, i ∈ vs1)
    (i2 : ∀ ρ E G σ H R, ER X.K ρ H E σ → SR X.K ρ G H → Out X.K XP (ItR X.K) σ ρ H (mi E G) R → wi σ H R) :
    ∀ ρ E G σ H Q, ER X.K ρ H E σ → SR X.K ρ G H → Out X.K XP (VR X.K) σ ρ H (mLc2 mi g t mi1 g1 t1 m vs vs1 E G) Q → tLc2 wi (rdG X.K noX sl g) (rdT X.K noX t) (rdI X.K noX mi1) (rdG X.K noX sl1 g1) (rdT X.K noX t1) (rdE X.K noX m) vs vs1 σ H Q := by
  intro ρ E G σ H Q er sr q
  unfold mLc2 at q
  refine i2 ρ E G σ H _ er sr (q.bind fun pit G1 ρ1 H1 J e1 s1 r1 k1 => ?_)
  intro D hD
  have hcell : CR X.K (ρ1 ++ [D]) (upd H1 D (.lst [])) (.lst []) D := ⟨[], upd_same, .nil⟩
  have sA := s1.alloc hD hcell
  have eA : Ext X.K ρ1 H1 (ρ1 ++ [D]) (upd H1 D (.lst [])) := ext_alloc hD
  have hn : (ρ1 ++ [D])[G1.length]? = some D := by rw [← s1.len]; exact last_get _ _
  refine ⟨fun i k H' => ∃ ρ' G', Ext X.K (ρ1 ++ [D]) (upd H1 D (.lst [])) ρ' H' ∧ SR X.K ρ' G' H' ∧ ∃ G2, lcL2 pit g t mi1 g1 t1 m vs1 G1.length (wipeE E vs) k i G' = some G2 ∧ Out X.K XP (VR X.K) σ ρ' H' (.ok (.ref G1.length) G2) Q, ?_, ?_⟩
  · cases hr : lcL2 pit g t mi1 g1 t1 m vs1 G1.length (wipeE E vs) (pit.len G1) 0 (G1 ++ [.lst []]) with
    | none => rw [hr] at k1; exact k1.elim
    | some G2 => rw [hr] at k1; exact ⟨_, ρ1 ++ [D], G1 ++ [.lst []], .refl, sA, G2, hr, Out.mono k1 eA⟩
  · rintro i k H' ⟨ρ', G', ex, s', G2, hl, o⟩
    obtain ⟨hstop, hgo⟩ := r1 ρ' G' H' (eA.trans ex) s' i
    have hn' := ex.rho _ _ hn
    unfold lcL2 at hl
    split at hl
    · cases hl
    · rename_i ha
      cases hl
      exact .inl ⟨hstop ha, o.ok s' (.ref hn')⟩
    · rename_i w ha
      obtain ⟨go, hy⟩ := hgo w ha
      split at hl
      · cases hl
      · rename_i k0
        refine .inr ⟨go, fun H2 => ∃ ρ2 G3, Ext X.K (ρ1 ++ [D]) (upd H1 D (.lst [])) ρ2 H2 ∧ SR X.K ρ2 G3 H2 ∧ ∃ G2, lcL2 pit g t mi1 g1 t1 m vs1 G1.length (wipeE E vs) k0 (i + 1) G3 = some G2 ∧ Out X.K XP (VR X.K) σ ρ2 H2 (.ok (.ref G1.length) G2) Q, fun H2 h => ⟨k0, Nat.lt_succ_self _, h⟩, fun x H2 y => ?_⟩
        obtain ⟨y1, y2, y3⟩ := hy x H2 y
        have erw : ER X.K ρ' H2 (wipeE E vs) (L2.wipe σ vs) := ((er.mono (e1.trans (eA.trans (ex.trans y1)))).wipe vs)
        refine ⟨ρ', w, wipeE E vs, G', y3, erw, y2, ?_⟩
        split at hl
        · rename_i E1 G3 hg
          rw [hg]
          intro ρ3 H3 σ3 e3 s3 r3
          refine ⟨wipe_again ?_ r3.2.2 hsl, ρ3, E1, G3, r3.1, s3, ?_⟩
          · rw [r3.2.1, L2.wipe_length]
          · split at hl
            · rename_i G4 ht
              rw [ht]
              intro ρ4 H4 b e4 s4 hb
              cases hb
              rw [if_pos rfl]
              refine ⟨ρ4, E1, G4, r3.1.mono e4, s4, ?_⟩
              split at hl
              · rename_i pit1 G5 hm
                rw [hm]
                intro ρ5 H5 J1 e5 s5 r5
                have ext5 : Ext X.K ρ' H' ρ5 H5 := y1.trans (e3.trans (e4.trans e5))
                have hn5 := ext5.rho _ _ hn'
                split at hl
                · rename_i G6 hin
                  exact lc_inner hsl1 (r3.1.mono (e4.trans e5)) r5 hn5 (fun ρ6 H6 e6 s6 => ⟨ρ6, G6, (ex.trans ext5).trans e6, s6, G2, hl, Out.mono o (ext5.trans e6)⟩) hin s5
                · cases hl
              · cases hl
            · rename_i G4 ht
              rw [ht]
              intro ρ4 H4 b e4 s4 hb
              cases hb
              rw [if_neg Bool.false_ne_true]
              have ext4 : Ext X.K ρ' H' ρ4 H4 := y1.trans (e3.trans e4)
              exact ⟨ρ4, G4, ex.trans ext4, s4, G2, hl, Out.mono o ext4⟩
            · cases hl
        · cases hl
theorem he_lc2 {elt tg iter tg1 iter1 : Expr} {ifs ifs1 : List Expr} {scope : Scope} {own : List (Str × Nat)} {vs1 : List Nat} {mi mi1 : MI} {g g1 : MG} {t t1 : MT} {m : ME} {sl sl1 : List Nat} {k : Nat} (c : GC X XP k) (hi : HI X XP tg iter mi) (ok : blkC X.N X.env.scope scope own = true)
    (hg : ∀ (s : Shared) (H : Hp) (C : Addr) (cl : List (Str × Addr)) (fp : List Addr), HG (X.blk s H scope (compEnvC scope cl C X.env) fp) noX tg sl g)
    (ht : ∀ (s : Shared) (H : Hp) (C : Addr) (cl : List (Str × Addr)) (fp : List Addr), HTs (X.blk s H scope (compEnvC scope cl C X.env) fp) noX ifs t)
    (hi1 : ∀ (s : Shared) (H : Hp) (C : Addr) (cl : List (Str × Addr)) (fp : List Addr), HI (X.blk s H scope (compEnvC scope cl C X.env) fp) noX tg1 iter1 mi1)
    (hg1 : ∀ (s : Shared) (H : Hp) (C : Addr) (cl : List (Str × Addr)) (fp : List Addr), HG (X.blk s H scope (compEnvC scope cl C X.env) fp) noX tg1 sl1 g1)
    (ht1 : ∀ (s : Shared) (H : Hp) (C : Addr) (cl : List (Str × Addr)) (fp : List Addr), HTs (X.blk s H scope (compEnvC scope cl C X.env) fp) noX ifs1 t1)
    (he : ∀ (s : Shared) (H : Hp) (C : Addr) (cl : List (Str × Addr)) (fp : List Addr), HE (X.blk s H scope (compEnvC scope cl C X.env) fp) noX elt m)
    (hsl : (sl.all fun i => (own.map (·.2)).contains i) = true := by rfl) (hsl1 : (sl1.all fun i => vs1.contains i) = true := by rfl) (hv : (vs1.all fun i => (own.map (·.2)).contains i) = true := by rfl)
    (hs : ∀ x, foldedSetIterable iter X.env x = pure x := by intro _; rfl) (hs1 : ∀ env x, foldedSetIterable iter1 env x = pure x := by intro _ _; rfl) :
    HE X XP (.ListComp elt [⟨tg, iter, ifs, 0⟩, ⟨tg1, iter1, ifs1, 0⟩] scope pos) (mLc2 mi g t mi1 g1 t1 m (own.map (·.2)) vs1) := by
  obtain ⟨wi, i1, i2⟩ := hi.ex
  have hsl' : ∀ i ∈ sl, i ∈ own.map (·.2) := fun i h => by simpa using List.all_eq_true.mp hsl i h
  have hsl1' : ∀ i ∈ sl1, i ∈ vs1 := fun i h => by simpa using List.all_eq_true.mp hsl1 i h
  have hv' : ∀ i ∈ vs1, i ∈ own.map (·.2) := fun i h => by simpa using List.all_eq_true.mp hv i h
  exact ⟨_, pe_lc2 c.calm c.nd i1 (blkOk_by ok) hv' (fun s H C cl fp => (hg s H C cl fp).rd) (fun s H C cl fp => (ht s H C cl fp).rd) (fun s H C cl fp => (hi1 s H C cl fp).rd) (fun s H C cl fp => (hg1 s H C cl fp).rd) (fun s H C cl fp => (ht1 s H C cl fp).rd) (fun s H C cl fp => (he s H C cl fp).rd) hs hs1, lc2_run hsl' hsl1' i2⟩
end
end PL
/- part PLK -/
set_option maxHeartbeats 1000000
namespace PL
open PySem PySem.Spec PyProof.Rows L2
section
theorem take1 {α : Type} {xs : List α} {i : Nat} {w : α} (h : xs[i]? = some w) : xs.take (i + 1) = xs.take i ++ [w] := by rw [List.take_succ, h]; rfl
theorem lcL2_sat {pit : PIt} {g : MG} {t : MT} {mi1 : MI} {g1 : MG} {t1 : MT} {m : ME} {vs1 : List Nat} {n : Nat} {E : PEnv} {xs : List W} {J : Nat → List W → Cells → Prop}
    (hat : ∀ i acc G, J i acc G → G[n]? = some (.lst acc) → pit.at G i = some xs[i]?)
    (hstep : ∀ i w acc G, xs[i]? = some w → J i acc G → G[n]? = some (.lst acc) → (g w E G).sat fun E1 G1 => (t E1 G1).sat fun k G2 => if k = true then (mi1 E1 G2).sat fun pit1 G3 => ∃ G4 acc', lcL pit1 g1 t1 m n (wipeE E1 vs1) (pit1.len G3) 0 G3 = some G4 ∧ G4[n]? = some (.lst acc') ∧ J (i + 1) acc' G4 else G2[n]? = some (.lst acc) ∧ J (i + 1) acc G2) :
    ∀ k i acc G, J i acc G → G[n]? = some (.lst acc) → i + k = xs.length → ∃ G' acc', lcL2 pit g t mi1 g1 t1 m vs1 n E k i G = some G' ∧ G'[n]? = some (.lst acc') ∧ J xs.length acc' G' := by
  intro k
  induction k with
  | zero =>
    intro i acc G h hn e
    have q := hat i acc G h hn
    have hx : xs[i]? = none := List.getElem?_eq_none_iff.mpr (by omega)
    rw [hx] at q
    unfold lcL2
    rw [q]
    have : i = xs.length := by omega
    subst this
    exact ⟨G, acc, rfl, hn, h⟩
  | succ k ih =>
    intro i acc G h hn e
    have q := hat i acc G h hn
    have hi : i < xs.length := by omega
    have hx : xs[i]? = some xs[i] := List.getElem?_eq_getElem hi
    rw [hx] at q
    unfold lcL2
    rw [q]
    simp only
    obtain ⟨E1, G1, e1, h1⟩ := (hstep i _ acc G hx h hn).get
    rw [e1]
    obtain ⟨b, G2, e2, h2⟩ := h1.get
    simp only [e2]
    cases b with
    | true =>
      rw [if_pos rfl] at h2
      obtain ⟨pit1, G3, e3, G4, acc', h3, h4, h5⟩ := h2.get
      simp only [e3, h3]
      exact ih (i + 1) _ _ h5 h4 (by omega)
    | false =>
      simp only [Bool.false_eq_true, if_false] at h2
      exact ih (i + 1) _ _ h2.2 h2.1 (by omega)
/-- two fors that write only new cells -/
theorem lc2_pure {mi mi1 : MI} {g g1 : MG} {t t1 : MT} {m : ME} {vs vs1 : List Nat} {E : PEnv} {G : Cells} {Q : W → Cells → Prop} (xs : List W) (ys : W → List W) (f : W → W → Option W)
    (h : (mi E G).sat fun pit G1 => Fr [] G G1 ∧ ItOk [] pit G1 xs) (hb : xs.length ≤ 300) (hb2 : ∀ x, (ys x).length ≤ 300)
    (hs : ∀ (i n : Nat) w G', xs[i]? = some w → G.length ≤ n → n < G'.length → Fr [] G G' → (g w (wipeE E vs) G').sat fun E1 G2 => (t E1 G2).sat fun k G3 =>
      if k = true then (mi1 E1 G3).sat fun pit1 G4 => Fr [] G' G4 ∧ ItOk [n] pit1 G4 (ys w) ∧ ∀ (j : Nat) u G5, (ys w)[j]? = some u → Fr [n] G4 G5 → Fr [] G G5 → (g1 u (wipeE E1 vs1) G5).sat fun E2 G6 => (t1 E2 G6).sat fun k G7 => if k = true then (m E2 G7).sat fun y G8 => f w u = some y ∧ Fr [] G5 G8 else f w u = none ∧ Fr [] G5 G7
      else ys w = [] ∧ Fr [] G' G3)
    (hq : ∀ n G', Fr [] G G' → G.length ≤ n → G'[n]? = some (.lst (xs.flatMap fun x => (ys x).filterMap (f x))) → Q (.ref n) G') : (mLc2 mi g t mi1 g1 t1 m vs vs1 E G).sat Q := by
  unfold mLc2
  refine h.bind fun pit G1 q => ?_
  obtain ⟨f1, it⟩ := q
  have hl1 := f1.1
  have key : ∀ {G' : Cells}, Fr [G1.length] (G1 ++ [.lst []]) G' → Fr [] G G' := fun fr => (f1.trans Fr.push).fresh (n := G1.length) hl1 fr
  have hq2 : ∃ G' acc', lcL2 pit g t mi1 g1 t1 m vs1 G1.length (wipeE E vs) (pit.len G1) 0 (G1 ++ [.lst []]) = some G' ∧ G'[G1.length]? = some (.lst acc') ∧ acc' = (xs.take xs.length).flatMap (fun x => (ys x).filterMap (f x)) ∧ acc'.length ≤ 300 * xs.length ∧ Fr [G1.length] (G1 ++ [.lst []]) G' := ?main
  case main =>
   refine lcL2_sat (pit := pit) (g := g) (t := t) (mi1 := mi1) (g1 := g1) (t1 := t1) (m := m) (vs1 := vs1) (n := G1.length) (E := wipeE E vs) (xs := xs) (J := fun i acc G' => acc = (xs.take i).flatMap (fun x => (ys x).filterMap (f x)) ∧ acc.length ≤ 300 * i ∧ Fr [G1.length] (G1 ++ [.lst []]) G')
    (fun i acc G' q hn => it.at' _ _ ((Fr.push (S := [])).fresh (Nat.le_refl _) q.2.2))
    (fun i w acc G' hw q hn => ?_) (pit.len G1) 0 [] (G1 ++ [.lst []]) ⟨by simp, by simp, Fr.refl⟩ (push_get _ _) (by rw [it.len]; omega)
   obtain ⟨q1, q2, q3⟩ := q
   have hnl := lt_of_get hn
   refine (hs i G1.length w G' hw hl1 hnl (key q3)).mono fun E1 G2 r1 => r1.mono fun k G3 r2 => ?_
   have ht := take1 hw
   have hi : i < xs.length := (List.getElem?_eq_some_iff.mp hw).1
   cases k with
   | false =>
     simp only [Bool.false_eq_true, if_false] at r2 ⊢
     refine ⟨r2.2.get hn (by simp), ?_, by omega, q3.trans (r2.2.sub (by simp))⟩
     rw [ht, List.flatMap_append, ← q1]
     simp [r2.1]
   | true =>
     rw [if_pos rfl] at r2 ⊢
     refine r2.mono fun pit1 G4 r3 => ?_
     obtain ⟨f4, it1, hin⟩ := r3
     have hn4 := f4.get hn (by simp)
     have hyl := hb2 w
     obtain ⟨G5, acc5, l1, l2, l3, l4, l5⟩ := lcL_sat (pit := pit1) (g := g1) (t := t1) (m := m) (n := G1.length) (E := wipeE E1 vs1) (xs := ys w) (J := fun j acc5 G5 => acc5 = acc ++ ((ys w).take j).filterMap (f w) ∧ acc5.length ≤ 300 * i + j ∧ Fr [G1.length] G4 G5)
       (fun j acc5 G5 z hz => it1.at' _ _ z.2.2)
       (fun j u acc5 G5 hu z hz => by
         obtain ⟨z1, z2, z3⟩ := z
         have f5 : Fr [] G G5 := key (q3.trans ((f4.sub (by simp)).trans z3))
         have hj : j < (ys w).length := (List.getElem?_eq_some_iff.mp hu).1
         have htu := take1 hu
         refine (hin j u G5 hu z3 f5).mono fun E2 G6 s1 => s1.mono fun k G7 s2 => ?_
         cases k with
         | false =>
           simp only [Bool.false_eq_true, if_false] at s2 ⊢
           refine ⟨s2.2.get hz (by simp), ?_, by omega, z3.trans (s2.2.sub (by simp))⟩
           rw [htu, List.filterMap_append, z1]
           simp [s2.1]
         | true =>
           rw [if_pos rfl] at s2 ⊢
           refine s2.mono fun y G8 s3 => ?_
           have h8 := s3.2.get hz (by simp)
           refine ⟨h8, big_le (m := 100000) (by omega), ?_, by simp; omega, (z3.trans (s3.2.sub (by simp))).trans (Fr.set (by simp))⟩
           rw [htu, List.filterMap_append, z1]
           simp [s3.1])
       (pit1.len G4) 0 acc G4 ⟨by simp, by omega, Fr.refl⟩ hn4 (by rw [it1.len]; omega)
     refine ⟨G5, acc5, l1, l2, ?_, by omega, q3.trans ((f4.sub (by simp)).trans l5)⟩
     rw [List.take_length] at l3
     rw [ht, List.flatMap_append, ← q1, l3]
     simp
  obtain ⟨G', acc', e1, e2, e3⟩ := hq2
  rw [e1]
  rw [List.take_length] at e3
  exact hq _ _ (key e3.2.2) hl1 (by rw [e2, e3.1])
end
end PL
/- part PLL -/
set_option maxHeartbeats 1000000
namespace PL
open PySem PySem.Spec PyProof.Rows L2
/-! ### a tuple read backwards -/
section
variable {prog : Program} {w : World} {A : Around} {E : Value → Shared → Prop} {s : Shared}
theorem sliceApplied_rev {sl : Addr} {n : Nat} {vs : Value} {Q : Int × Int × Nat → Shared → Prop} (hs : s.heap.IsSliceOf sl .none .none vs) (ps : IsPart vs (some (-1)))
    (h : Q ((n : Int) - 1, -1, n) s) : wpAny (model prog w) A (Builtin.Slice.sliceApplied (.ref sl) (pure (n : Int))) Q E s := by
  obtain ⟨os, hos, hcs, hds⟩ := id hs
  unfold Builtin.Slice.sliceApplied Builtin.Slice.sliceFields
  refine wpAny_bind (wpAny_bind (wpAny_field hos hds (x := .none) rfl (wpAny_bind (wpAny_field hos hds (x := .none) rfl (wpAny_bind (wpAny_field hos hds (x := vs) rfl (wpAny_pure ?_)))))))
  refine wpAny_bind (HT.slicePart_ ps ?_)
  show wpAny _ _ (if ((-1 : Int) == 0) = true then _ else _) _ _ s
  rw [if_neg (by decide)]
  refine wpAny_bind (slicePart_none (wpAny_bind (slicePart_none (wpAny_bind (wpAny_pure ?_)))))
  have e1 : Builtin.Slice.sliceAdjust none none (-1) (n : Int) = ((n : Int) - 1, -1) := rfl
  have e2 : Builtin.Slice.slicePlaces ((n : Int) - 1) (-1) (-1) = n := by
    unfold Builtin.Slice.slicePlaces
    simp only [show ¬ ((-1 : Int) > 0) by decide, if_false]
    split
    · rw [show (- -1 : Int) = 1 from rfl, Int.ediv_one]; omega
    · omega
  show wpAny _ _ (match Builtin.Slice.sliceAdjust none none (-1) (n : Int) with | (lo, hi) => pure (lo, (-1 : Int), Builtin.Slice.slicePlaces lo hi (-1))) _ _ s
  rw [e1]
  show wpAny _ _ (pure ((n : Int) - 1, (-1 : Int), Builtin.Slice.slicePlaces ((n : Int) - 1) (-1) (-1))) _ _ s
  rw [e2]
  exact wpAny_pure h
theorem fm_congr {α β : Type} {f g : α → Option β} : ∀ {l : List α}, (∀ x ∈ l, f x = g x) → l.filterMap f = l.filterMap g
  | [], _ => rfl
  | x :: l, h => by rw [List.filterMap_cons, List.filterMap_cons, h x (by simp), fm_congr fun y hy => h y (by simp [hy])]
theorem range_all {α : Type} : ∀ l : List α, (List.range l.length).filterMap (fun k => l[k]?) = l
  | [] => rfl
  | x :: xs => by
    rw [List.length_cons, List.range_succ_eq_map, List.filterMap_cons]
    simp only [List.getElem?_cons_zero, List.filterMap_map]
    have := range_all xs
    congr 1
theorem rev_pick (xs : Array Value) : ((List.range xs.size).filterMap fun (k : Nat) => xs[((xs.size : Int) - 1 + (k : Int) * (-1)).toNat]?).toArray = xs.toList.reverse.toArray := by
  congr 1
  have e : ∀ k ∈ List.range xs.size, xs[((xs.size : Int) - 1 + (k : Int) * (-1)).toNat]? = xs.toList.reverse[k]? := by
    intro k hk
    have hk := List.mem_range.mp hk
    rw [List.getElem?_reverse (by simpa using hk)]
    rw [show ((xs.size : Int) - 1 + (k : Int) * (-1)).toNat = xs.size - 1 - k from by omega]
    simp
  rw [fm_congr e]
  have h := range_all xs.toList.reverse
  rw [show xs.toList.reverse.length = xs.size from by simp] at h
  exact h
theorem getItem_tuple_rev {sl t : Addr} {items : Array Value} {vs : Value} {Q : Value → Shared → Prop}
    (ht : IsTup s.heap t items) (hs : s.heap.IsSliceOf sl .none .none vs) (ps : IsPart vs (some (-1))) (hsz : items.size ≤ sizeLine)
    (h : Q (.ref s.heap.objs.size) { s with heap := s.heap.push { cls := .type "tuple", data := .seq items.toList.reverse.toArray } }) : wpAny (model prog w) A (getItem (.ref t) (.ref sl)) Q E s := by
  have htake : sizeOk (.seq items.toList.reverse.toArray) := by
    show items.toList.reverse.toArray.size ≤ sizeLine
    simpa using hsz
  obtain ⟨os, hos, hcs, hds⟩ := id hs
  have hTs : s.TypeIs (.ref sl) "slice" := ⟨os, hos, hcs⟩
  unfold getItem
  try with_reducible refine wpAny_holding ?_
  first | refine wpAny_bind (wpAny_pure ?_) | skip
  refine wpAny_bind (wpAny_sequenceKey ht.typeIs (by decide) ?_)
  refine wpAny_bind (wpAny_callSpecial?_slot (name := Str.ofString "__getitem__") ht.typeIs PyProof.Rows.slot_tuple_getitem
    (wpAny_call_entry PyProof.Rows.slot_tuple_getitem ht.typeIs entry_tuple_getitem ?_ (args_tuple_getitem _ _)))
  show wpAny _ _ (Builtin.Tuple.tupleItemsOf (.ref t) >>= _) _ _ s
  refine wpAny_bind (tupleItemsOf_ ht ?_)
  refine wpAny_bind (wpAny_typeOf hTs ?_)
  rw [if_pos (by decide)]
  refine wpAny_bind (sliceApplied_rev hs ps ?_)
  have hno : ¬ ((((items.size : Int) - 1) == 0 && (-1 : Int) == 1 && items.size == items.size) = true) := by
    intro q
    rw [Bool.and_eq_true, Bool.and_eq_true] at q
    exact absurd q.1.2 (by decide)
  show wpAny _ _ (if (((items.size : Int) - 1) == 0 && (-1 : Int) == 1 && items.size == items.size) = true then _ else _) _ _ s
  rw [if_neg hno, rev_pick]
  first
    | exact wpAny_bind (m := Builtin.Tuple.tupleExact _) (wpAny_newObj_type (wpAny_pure ⟨_, rfl, wpAny_pure h⟩) htake)
    | exact wpAny_bind (m := Builtin.Tuple.tupleExact _) (wpAny_newObj_type (wpAny_bind (wpAny_pure (wpAny_pure ⟨_, rfl, wpAny_pure h⟩))) htake)
    | exact wpAny_bind (wpAny_bind (m := Builtin.Tuple.tupleExact _) (wpAny_newObj_type (wpAny_pure (wpAny_pure ⟨_, rfl, wpAny_pure h⟩)) htake))
    | exact wpAny_bind (wpAny_bind (m := Builtin.Tuple.tupleExact _) (wpAny_newObj_type (wpAny_pure ⟨_, rfl, wpAny_pure h⟩) htake))
end
section
variable {X : Cx} {XP : Wish} {pos : Pos}
def tRevT (K : Fg) (te : TE) : TE := fun σ H Q => te σ H fun x H1 => ∃ a xs, x = .ref a ∧ SqT K H1 a xs ∧ ∀ p, H1 p = none → Q (.ref p) (upd H1 p (.tup xs.reverse))
theorem pe_revT {e : Expr} {te : TE} {k : Nat} {p1 p2 p3 pos : Pos} (he : PE X e te) : PE X (.Subscript e (.Slice none none (some (.UnaryOp .USub (.Constant (.int 1) k p1) p2)) p3) pos) (tRevT X.K te) := by
  refine ⟨fun pins s σ H Q I h => ?_⟩
  refine Subscript_ (thn (he.run pins s σ H _ I h) fun v s1 ⟨x, H1, I1, r1, q1⟩ => ?_)
  obtain ⟨a, xs, ex, hx, q⟩ := q1
  subst ex
  cases r1
  have hst : PO X (some (.UnaryOp .USub (.Constant (.int 1) k p1) p2)) (tPart (tUn (rU fun i => .int (-i)) (tC (.int 1)))) := po_some (pe_un un_neg pe_int)
  refine wpAny_Slice (thn (po_none.run pins s1 σ H1 (fun o H2 => o = none ∧ H2 = H1) I1 ⟨rfl, rfl⟩) fun vl s2 ⟨l, H2, I2, pl, el, e2⟩ => ?_)
  subst el e2
  refine thn (po_none.run pins s2 σ H2 (fun o H3 => o = none ∧ H3 = H2) I2 ⟨rfl, rfl⟩) fun vu s3 ⟨u, H3, I3, pu, eu, e3⟩ => ?_
  subst eu e3
  refine thn (hst.run pins s3 σ H3 (fun o H4 => o = some (-1) ∧ H4 = H3) I3 ⟨1, rfl, -1, rfl, rfl, rfl⟩) fun vs s4 ⟨o, H4, I4, ps, eo, e4⟩ => ?_
  subst eo e4
  cases pl
  cases pu
  have I5 : Inv X pins σ H4 { s4 with heap := s4.heap.push { cls := .type "slice", data := .fields #[.none, .none, vs] } } := I4.kept (t' := s4.toks) fun b ob q => Heap.get?_push_of_some _ q
  obtain ⟨its, r, ht, hz⟩ := I5.tuple hx
  have hlen := r.length
  show wpAny (model X.prog X.w) X.A (subscriptTail e (.Slice none none (some (.UnaryOp .USub (.Constant (.int 1) k p1) p2)) p3) (.ref a) (.ref s4.heap.objs.size)) (EP X pins σ Q) X.xe { s4 with heap := s4.heap.push { cls := .type "slice", data := .fields #[.none, .none, vs] } }
  refine tail_any (ops := [.ref a, .ref s4.heap.objs.size]) ht.typeIs (PyProof.Rows.slot_tuple_getitem.lookup) ?_ (by with_unfolding_all rfl)
  refine getItem_tuple_rev ht (Heap.IsSliceOf.new _ .none .none vs) ps (by rw [List.size_toArray]; omega) ?_
  refine ⟨.ref _, _, I5.laid (t' := s4.toks) (o := .tup xs.reverse) (fun b ob q => Heap.get?_push_of_some _ q) (Nat.le_refl _) ?_, rfl, q _ (I5.hok.fresh (Nat.le_refl _))⟩
  exact ⟨by rw [List.length_reverse]; exact hz, its.reverse, r.reverse, IsTup.new _ _⟩
def mRev (ma : ME) : ME := fun E G => (ma E G).bind fun x G1 => match x with | .tup ws => .ok (.tup ws.reverse) G1 | _ => .no
theorem he_rev {a : Expr} {ma : ME} {k : Nat} {p1 p2 p3 : Pos} (ha : HE X XP a ma) : HE X XP (.Subscript a (.Slice none none (some (.UnaryOp .USub (.Constant (.int 1) k p1) p2)) p3) pos) (mRev ma) := by
  obtain ⟨ta, a1, a2⟩ := ha.ex
  refine ⟨_, pe_revT a1, fun ρ E G σ H Q er sr q => a2 ρ E G σ H _ er sr (q.bind fun x G1 ρ1 H1 v e1 s1 r1 k1 => ?_)⟩
  split at k1
  · cases r1 with
    | tup b1 b2 => exact ⟨_, _, rfl, .of b1, fun p hp => out_tup k1 s1 b2.reverse hp⟩
  · exact k1.elim
theorem s_rev {E : PEnv} {G : Cells} {Q : W → Cells → Prop} (ma : ME) : (mRev ma E G).sat Q = (ma E G).sat fun w G1 => match w with | .tup ws => Q (.tup ws.reverse) G1 | _ => False := by
  unfold mRev; rw [sat_bind]; congr; funext w G1; cases w <;> rfl
end
end PL
/- part PLM -/
set_option maxHeartbeats 1000000
namespace PL
open PySem PySem.Spec PyProof.Rows L2
section
variable {X : Cx} {XP : Wish}
/-! ### bool(x) of an int or a bool -/
def boolW : GCall := fun G ws => match ws with
  | [.int i] => .ok (.bl (i != 0)) G
  | [.bl b] => .ok (.bl b) G
  | _ => .no
theorem cg_bool : CaG X XP (.type "bool") boolW := by
  refine ⟨_, call_bool1, fun ρ G σ H ws vs Q s r o => ?_⟩
  unfold boolW at o
  split at o
  · cases r with
    | cons r1 r2 => cases r2; cases r1; exact .inl ⟨_, rfl, o.ok s (.bl _)⟩
  · cases r with
    | cons r1 r2 => cases r2; cases r1; exact .inr ⟨_, rfl, o.ok s (.bl _)⟩
  · exact o.elim
end
end PL
/- part PLN -/
set_option maxHeartbeats 1000000
namespace PL
open PySem PySem.Spec PyProof.Rows L2
/-! ### sorts of values that hold on as cells that are not theirs change -/
theorem Fr.wid {S : List Nat} {n : Nat} {G G' : Cells} (h : G.length ≤ n) (f : Fr (n :: S) G G') : Fr S G G' :=
  ⟨f.1, fun m a b => f.2 m a (by simp only [List.mem_cons, not_or]; exact ⟨by omega, b⟩)⟩
structure Tp (α : Type) where
  P : List Nat → Cells → α → Prop
  mono : ∀ {S : List Nat} {G G' : Cells} {x : α}, Fr S G G' → P S G x → P S G' x
  sub : ∀ {S S' : List Nat} {G : Cells} {x : α}, (∀ n ∈ S, n ∈ S') → P S' G x → P S G x
  wid : ∀ {S : List Nat} {n : Nat} {G : Cells} {x : α}, G.length ≤ n → P S G x → P (n :: S) G x
section
variable {α β : Type}
theorem Tp.wids (T : Tp α) {S : List Nat} {G : Cells} {x : α} (h : T.P S G x) : ∀ {S' : List Nat}, (∀ n ∈ S', n ∈ S ∨ G.length ≤ n) → T.P S' G x := by
  have key : ∀ L : List Nat, (∀ n ∈ L, G.length ≤ n) → T.P (L ++ S) G x := by
    intro L
    induction L with
    | nil => intro _; exact h
    | cons n L ih => intro hL; exact T.wid (hL n (by simp)) (ih fun m hm => hL m (by simp [hm]))
  intro S' hS
  refine T.sub (S' := S'.filter (fun n => decide (G.length ≤ n)) ++ S) (fun n hn => ?_) (key _ fun n hn => by simpa using (List.mem_filter.mp hn).2)
  rcases hS n hn with q | q
  · exact List.mem_append_right _ q
  · exact List.mem_append_left _ (List.mem_filter.mpr ⟨hn, by simpa using q⟩)
def Tle (T U : Tp α) : Prop := ∀ S G x, T.P S G x → U.P S G x
theorem Tle.refl {T : Tp α} : Tle T T := fun _ _ _ h => h
theorem Tle.trans {T U V : Tp α} (h : Tle T U) (k : Tle U V) : Tle T V := fun S G x q => k S G x (h S G x q)
def tP (p : α → Prop) : Tp α := ⟨fun _ _ x => p x, fun _ h => h, fun _ h => h, fun _ h => h⟩
def tEq (a : α) : Tp α := tP fun x => x = a
def tAny : Tp α := tP fun _ => True
def tEx (A : β → Tp α) : Tp α := ⟨fun S G x => ∃ b, (A b).P S G x, fun f h => h.elim fun b q => ⟨b, (A b).mono f q⟩, fun f h => h.elim fun b q => ⟨b, (A b).sub f q⟩, fun f h => h.elim fun b q => ⟨b, (A b).wid f q⟩⟩
def tIf (p : Prop) (T : Tp α) : Tp α := ⟨fun S G x => p ∧ T.P S G x, fun f h => ⟨h.1, T.mono f h.2⟩, fun f h => ⟨h.1, T.sub f h.2⟩, fun f h => ⟨h.1, T.wid f h.2⟩⟩
def tXp (p : β → Prop) (A : β → Tp α) : Tp α := tEx fun b => tIf (p b) (A b)
def tAt (T : Tp α) (a : α) : Tp α := ⟨fun S G x => x = a ∧ T.P S G a, fun f h => ⟨h.1, T.mono f h.2⟩, fun f h => ⟨h.1, T.sub f h.2⟩, fun f h => ⟨h.1, T.wid f h.2⟩⟩
def tBth (T U : Tp α) : Tp α := ⟨fun S G x => T.P S G x ∧ U.P S G x, fun f h => ⟨T.mono f h.1, U.mono f h.2⟩, fun f h => ⟨T.sub f h.1, U.sub f h.2⟩, fun f h => ⟨T.wid f h.1, U.wid f h.2⟩⟩
def tOr (T U : Tp α) : Tp α := ⟨fun S G x => T.P S G x ∨ U.P S G x, fun f h => h.imp (T.mono f) (U.mono f), fun f h => h.imp (T.sub f) (U.sub f), fun f h => h.imp (T.wid f) (U.wid f)⟩
/-- what holds in all that may come -/
def tBx (Q : Cells → α → Prop) : Tp α := ⟨fun S G x => ∀ G', Fr S G G' → Q G' x, fun f h G' f' => h G' (f.trans f'), fun f h G' f' => h G' (f'.sub f), fun f h G' f' => h G' (f'.wid f)⟩
theorem tBx.now {Q : Cells → α → Prop} {S : List Nat} {G : Cells} {x : α} (h : (tBx Q).P S G x) : Q G x := h G Fr.refl
end
def tBl : Tp W := tEx fun b : Bool => tEq (.bl b)
def tTup (C : Tp (List W)) : Tp W := ⟨fun S G w => ∃ ws, w = .tup ws ∧ C.P S G ws, fun f ⟨ws, e, h⟩ => ⟨ws, e, C.mono f h⟩, fun f ⟨ws, e, h⟩ => ⟨ws, e, C.sub f h⟩, fun f ⟨ws, e, h⟩ => ⟨ws, e, C.wid f h⟩⟩
def tRef (D : Tp Cell) : Tp W where
  P S G w := ∃ n c, w = .ref n ∧ n ∉ S ∧ G[n]? = some c ∧ D.P S G c
  mono f := fun ⟨n, c, e, hn, hg, h⟩ => ⟨n, c, e, hn, f.get hg hn, D.mono f h⟩
  sub f := fun ⟨n, c, e, hn, hg, h⟩ => ⟨n, c, e, fun z => hn (f n z), hg, D.sub f h⟩
  wid f := fun ⟨n, c, e, hn, hg, h⟩ => ⟨n, c, e, by have := lt_of_get hg; simp only [List.mem_cons, not_or]; exact ⟨by omega, hn⟩, hg, D.wid f h⟩
def dL (C : Tp (List W)) : Tp Cell := ⟨fun S G c => ∃ ws, c = .lst ws ∧ C.P S G ws, fun f ⟨ws, e, h⟩ => ⟨ws, e, C.mono f h⟩, fun f ⟨ws, e, h⟩ => ⟨ws, e, C.sub f h⟩, fun f ⟨ws, e, h⟩ => ⟨ws, e, C.wid f h⟩⟩
def dD (C : Tp (List (Key × W))) : Tp Cell := ⟨fun S G c => ∃ ws, c = .dct ws ∧ C.P S G ws, fun f ⟨ws, e, h⟩ => ⟨ws, e, C.mono f h⟩, fun f ⟨ws, e, h⟩ => ⟨ws, e, C.sub f h⟩, fun f ⟨ws, e, h⟩ => ⟨ws, e, C.wid f h⟩⟩
abbrev tLs (C : Tp (List W)) : Tp W := tRef (dL C)
def cAll (T : Tp W) (lo hi : Nat) : Tp (List W) := ⟨fun S G ws => lo ≤ ws.length ∧ ws.length ≤ hi ∧ ∀ w ∈ ws, T.P S G w, fun f h => ⟨h.1, h.2.1, fun w q => T.mono f (h.2.2 w q)⟩, fun f h => ⟨h.1, h.2.1, fun w q => T.sub f (h.2.2 w q)⟩, fun f h => ⟨h.1, h.2.1, fun w q => T.wid f (h.2.2 w q)⟩⟩
def All2 (S : List Nat) (G : Cells) : List (Tp W) → List W → Prop
  | [], [] => True
  | T :: Ts, w :: ws => T.P S G w ∧ All2 S G Ts ws
  | _, _ => False
theorem All2.map {S S' : List Nat} {G G' : Cells} (k : ∀ (T : Tp W) w, T.P S G w → T.P S' G' w) : ∀ {Ts : List (Tp W)} {ws : List W}, All2 S G Ts ws → All2 S' G' Ts ws
  | [], [], _ => trivial
  | T :: Ts, w :: ws, h => ⟨k T w h.1, All2.map k h.2⟩
  | [], _ :: _, h => h.elim
  | _ :: _, [], h => h.elim
def cN (Ts : List (Tp W)) : Tp (List W) := ⟨fun S G ws => All2 S G Ts ws, fun f h => h.map fun T w => T.mono f, fun f h => h.map fun T w => T.sub f, fun f h => h.map fun T w => T.wid f⟩
theorem All2.len {S : List Nat} {G : Cells} : ∀ {Ts : List (Tp W)} {ws : List W}, All2 S G Ts ws → ws.length = Ts.length
  | [], [], _ => rfl
  | T :: Ts, w :: ws, h => by simp only [List.length_cons, h.2.len]
  | [], _ :: _, h => h.elim
  | _ :: _, [], h => h.elim
def tGv (ns : List Nat) : Tp W where
  P S G w := gv S G ns w
  mono f h := gv.mono f h
  sub {S S' G x} f h := by
    have key : ∀ (ns : List Nat) (w : W), gv S' G ns w → gv S G ns w := by
      intro ns
      induction ns with
      | nil => intro w h; cases w <;> exact h
      | cons n ns ih =>
        intro w h
        cases w with
        | tup ws => exact ⟨h.1, fun w hw => ih w (h.2 w hw)⟩
        | ref m =>
          obtain ⟨hs, h⟩ := h
          exact ⟨fun z => hs (f m z), h.imp id fun ⟨ws, q, h1, h2⟩ => ⟨ws, q, h1, fun w hw => ih w (h2 w hw)⟩⟩
        | _ => exact h
    exact key ns x h
  wid {S m G x} f h := by
    have key : ∀ (ns : List Nat) (w : W), gv S G ns w → gv (m :: S) G ns w := by
      intro ns
      induction ns with
      | nil => intro w h; cases w <;> exact h
      | cons n ns ih =>
        intro w h
        cases w with
        | tup ws => exact ⟨h.1, fun w hw => ih w (h.2 w hw)⟩
        | ref k =>
          obtain ⟨hs, h⟩ := h
          refine ⟨?_, h.imp id fun ⟨ws, q, h1, h2⟩ => ⟨ws, q, h1, fun w hw => ih w (h2 w hw)⟩⟩
          have : k < G.length := h.elim (fun q => lt_of_get q) fun ⟨ws, q, _⟩ => lt_of_get q
          simp only [List.mem_cons, not_or]
          exact ⟨by omega, hs⟩
        | _ => exact h
    exact key ns x h
/-! ### what an expression tells: a value, or a new cell that nothing else stands for -/
inductive RT where
  | val (T : Tp W)
  | new (D : Tp Cell)
def RT.P : RT → List Nat → Cells → Cells → W → Prop
  | .val T, S, _, G', w => T.P S G' w
  | .new D, S, G, G', w => ∃ n c, w = .ref n ∧ G.length ≤ n ∧ G'[n]? = some c ∧ D.P (n :: S) G' c
/-- what holds of the cells of a sampler; the number is how often it was asked at most -/
structure Inv where
  P : Nat → Cells → Prop
  dom : List Nat
  keep : ∀ {n : Nat} {G G' : Cells}, G.length ≤ G'.length → (∀ k ∈ dom, G'[k]? = G[k]?) → P n G → P n G'
  lt : ∀ {n : Nat} {G : Cells}, P n G → ∀ k ∈ dom, k < G.length
  up : ∀ {n m : Nat} {G : Cells}, n ≤ m → P n G → P m G
def iNil : Inv := ⟨fun _ _ => True, [], fun _ _ h => h, fun _ k h => by simp at h, fun _ h => h⟩
/-- lim: how often the sampler may be asked in all; c: how often it is asked here -/
structure Smp where
  I : Inv
  S0 : List Nat
  lim : Nat
abbrev sNil : Smp := ⟨iNil, [], 0⟩
def Fn (s : Smp) (F : PF) (C : Tp (List W)) (R : RT) (c : Nat) : Prop :=
  ∀ n Sp G ws, n + c ≤ s.lim → (∀ n ∈ s.S0, n ∈ Sp) → (∀ n ∈ Sp, n < G.length) → s.I.P n G → C.P Sp G ws → (F ws G).sat fun w G' => s.I.P (n + c) G' ∧ Fr s.S0 G G' ∧ R.P Sp G G' w
theorem Inv.nil {I : Inv} {n : Nat} {G G' : Cells} (f : Fr [] G G') (h : I.P n G) : I.P n G' := I.keep f.1 (fun k hk => f.2 k (I.lt h k hk) (by simp)) h
theorem Fn.lift {s : Smp} {F : PF} {C : Tp (List W)} {R : RT} (h : Fn sNil F C R 0) : Fn s F C R 0 :=
  fun n Sp G ws _ a b i c => (h 0 Sp G ws (Nat.le_refl _) (by simp) b trivial c).mono fun w G' q => ⟨s.I.nil q.2.1 i, q.2.1.of_nil, q.2.2⟩
theorem Fn.le {s : Smp} {F : PF} {C C' : Tp (List W)} {R : RT} {c : Nat} (h : Fn s F C R c) (k : Tle C' C) : Fn s F C' R c :=
  fun n Sp G ws hc a b i q => h n Sp G ws hc a b i (k _ _ _ q)
theorem Fn.up {s : Smp} {F : PF} {C : Tp (List W)} {R : RT} {c c' : Nat} (h : Fn s F C R c) (k : c ≤ c') : Fn s F C R c' :=
  fun n Sp G ws hc a b i q => (h n Sp G ws (by omega) a b i q).mono fun w G' z => ⟨s.I.up (by omega) z.1, z.2⟩
structure Bs extends Smp where
  Sp : List Nat
  G0 : Cells
  gh : Tp Unit
/-! ### the slots -/
inductive Sl where
  | no
  | ty (T : Tp W)
  | own (D : Tp Cell)
abbrev TEnv := List Sl
def RT.sl : RT → Sl
  | .val T => .ty T
  | .new D => .own D
def SlOk (S : List Nat) (G : Cells) : Sl → Option (Option W) → Prop
  | .no, o => ∃ w, o = some w
  | .ty T, o => ∃ w, o = some (some w) ∧ T.P S G w
  | .own D, o => ∃ n c, o = some (some (.ref n)) ∧ G[n]? = some c ∧ D.P S G c
structure EOk (b : Bs) (k : Nat) (S : List Nat) (Γ : TEnv) (E : PEnv) (G : Cells) : Prop where
  inv : b.I.P k G
  fr : Fr b.S0 b.G0 G
  s0p : ∀ n ∈ b.S0, n ∈ b.Sp
  sp : ∀ n ∈ b.Sp, n ∈ S ∧ n < b.G0.length
  sb : ∀ n ∈ S, n ∈ b.Sp ∨ (b.G0.length ≤ n ∧ n < G.length)
  dm : ∀ k ∈ b.I.dom, k < b.G0.length
  gh : b.gh.P S G ()
  sl : ∀ (i : Nat) (s : Sl), Γ[i]? = some s → SlOk S G s E[i]?
  own : ∀ (i : Nat) (D : Tp Cell) (n : Nat), Γ[i]? = some (.own D) → E[i]? = some (some (.ref n)) → n ∈ S ∧ b.G0.length ≤ n
  dist : ∀ (i j : Nat) (D D' : Tp Cell) (n : Nat), Γ[i]? = some (.own D) → Γ[j]? = some (.own D') → E[i]? = some (some (.ref n)) → E[j]? = some (some (.ref n)) → i = j
section
variable {b : Bs} {k0 k1 : Nat} {S : List Nat} {Γ : TEnv} {E : PEnv} {G G' : Cells}
theorem EOk.s0 (h : EOk b k0 S Γ E G) : ∀ n ∈ b.S0, n ∈ S := fun n hn => (h.sp n (h.s0p n hn)).1
theorem EOk.slt (h : EOk b k0 S Γ E G) : ∀ n ∈ S, n < G.length := fun n hn => by
  rcases h.sb n hn with q | q
  · have := (h.sp n q).2; have := h.fr.1; omega
  · exact q.2
theorem EOk.n0 (h : EOk b k0 S Γ E G) {n : Nat} (hn : b.G0.length ≤ n) : n ∉ b.S0 := fun z => by
  have := (h.sp n (h.s0p n z)).2; omega
theorem SlOk.mv {s : Sl} {o : Option (Option W)} (h : SlOk S G s o) (f : Fr S G G') (k : ∀ D n, s = .own D → o = some (some (.ref n)) → G'[n]? = G[n]?) : SlOk S G' s o := by
  cases s with
  | no => exact h
  | ty T => obtain ⟨w, e, q⟩ := h; exact ⟨w, e, T.mono f q⟩
  | own D => obtain ⟨n, c, e, g, q⟩ := h; exact ⟨n, c, e, (k D n rfl e).trans g, D.mono f q⟩
theorem EOk.mv (h : EOk b k0 S Γ E G) (hi : b.I.P k1 G') (f : Fr b.S0 G G') : EOk b k1 S Γ E G' := by
  have fS : Fr S G G' := f.sub h.s0
  refine ⟨hi, h.fr.trans f, h.s0p, h.sp, fun n hn => (h.sb n hn).imp id fun q => ⟨q.1, Nat.lt_of_lt_of_le q.2 f.1⟩, h.dm, b.gh.mono fS h.gh, fun i s hs => (h.sl i s hs).mv fS fun D n e1 e2 => ?_, h.own, h.dist⟩
  subst e1
  have := h.own i D n hs e2
  exact f.2 n (h.slt n this.1) (h.n0 this.2)
theorem EOk.lt (h : EOk b k0 S Γ E G) {i : Nat} (hi : i < Γ.length) : i < E.length := by
  have := h.sl i _ (List.getElem?_eq_getElem hi)
  cases hs : Γ[i] with
  | no => rw [hs] at this; obtain ⟨w, e⟩ := this; exact (List.getElem?_eq_some_iff.mp e).1
  | ty T => rw [hs] at this; obtain ⟨w, e, _⟩ := this; exact (List.getElem?_eq_some_iff.mp e).1
  | own D => rw [hs] at this; obtain ⟨n, c, e, _⟩ := this; exact (List.getElem?_eq_some_iff.mp e).1
theorem set_cases {α : Type} {l : List α} {i j : Nat} {x y : α} (h : (l.set i x)[j]? = some y) : (j = i ∧ y = x) ∨ (j ≠ i ∧ l[j]? = some y) := by
  by_cases e : j = i
  · subst e
    have hl : j < l.length := by simpa using (List.getElem?_eq_some_iff.mp h).1
    rw [List.getElem?_set_self hl] at h
    exact .inl ⟨rfl, (Option.some.inj h).symm⟩
  · rw [List.getElem?_set_ne (Ne.symm e)] at h; exact .inr ⟨e, h⟩
/-- a slot is set to a value -/
theorem EOk.setTy (h : EOk b k0 S Γ E G) {i : Nat} {T : Tp W} {w : W} (hi : i < Γ.length) (hw : T.P S G w) : EOk b k0 S (Γ.set i (.ty T)) (E.set i (some w)) G := by
  have hE := h.lt hi
  refine ⟨h.inv, h.fr, h.s0p, h.sp, h.sb, h.dm, h.gh, fun j s hs => ?_, fun j D n hs hj => ?_, fun j k D D' n hs hk hj hk' => ?_⟩
  · rcases set_cases hs with ⟨rfl, rfl⟩ | ⟨ne, hs⟩
    · exact ⟨w, List.getElem?_set_self hE, hw⟩
    · rw [List.getElem?_set_ne (Ne.symm ne)]; exact h.sl j s hs
  · rcases set_cases hs with ⟨rfl, z⟩ | ⟨ne, hs⟩
    · cases z
    · rw [List.getElem?_set_ne (Ne.symm ne)] at hj; exact h.own j D n hs hj
  · rcases set_cases hs with ⟨rfl, z⟩ | ⟨ne, hs⟩
    · cases z
    · rcases set_cases hk with ⟨rfl, z⟩ | ⟨ne', hk⟩
      · cases z
      · rw [List.getElem?_set_ne (Ne.symm ne)] at hj
        rw [List.getElem?_set_ne (Ne.symm ne')] at hk'
        exact h.dist j k D D' n hs hk hj hk'
theorem EOk.wid (h : EOk b k0 S Γ E G) {n : Nat} (hn : G.length ≤ n) (hi : b.I.P k1 G') (f : Fr b.S0 G G') (hl : n < G'.length) : EOk b k1 (n :: S) Γ E G' := by
  have fS : Fr (n :: S) G G' := f.sub fun k hk => List.mem_cons_of_mem _ (h.s0 k hk)
  refine ⟨hi, h.fr.trans f, h.s0p, fun k hk => ⟨List.mem_cons_of_mem _ (h.sp k hk).1, (h.sp k hk).2⟩, fun k hk => ?_, h.dm, b.gh.mono fS (b.gh.wid hn h.gh), fun i s hs => ?_, fun i D k hs hk => ⟨List.mem_cons_of_mem _ (h.own i D k hs hk).1, (h.own i D k hs hk).2⟩, h.dist⟩
  · rcases List.mem_cons.mp hk with rfl | hk
    · have := h.fr.1; exact .inr ⟨by omega, hl⟩
    · exact (h.sb k hk).imp id fun q => ⟨q.1, Nat.lt_of_lt_of_le q.2 f.1⟩
  · have := h.sl i s hs
    cases s with
    | no => exact this
    | ty T => obtain ⟨w, e, q⟩ := this; exact ⟨w, e, T.mono fS (T.wid hn q)⟩
    | own D =>
      obtain ⟨m, c, e, g, q⟩ := this
      have z := h.own i D m hs e
      exact ⟨m, c, e, (f.2 m (h.slt m z.1) (h.n0 z.2)).trans g, D.mono fS (D.wid hn q)⟩
/-- a slot is set to a new cell -/
theorem EOk.setOwn (h : EOk b k0 S Γ E G) {i n : Nat} {D : Tp Cell} {c : Cell} (hi : i < Γ.length) (hn : G.length ≤ n) (hI : b.I.P k1 G') (f : Fr b.S0 G G') (hc : G'[n]? = some c) (hD : D.P (n :: S) G' c) : EOk b k1 (n :: S) (Γ.set i (.own D)) (E.set i (some (.ref n))) G' := by
  have hE := h.lt hi
  have hl := lt_of_get hc
  have k := h.wid hn hI f hl
  have new : ∀ (j : Nat) (D' : Tp Cell), Γ[j]? = some (.own D') → E[j]? = some (some (.ref n)) → False := fun j D' a c => by
    have := h.slt n (h.own j D' n a c).1; omega
  refine ⟨k.inv, k.fr, k.s0p, k.sp, k.sb, k.dm, k.gh, fun j s hs => ?_, fun j D' m hs hj => ?_, fun j l D1 D2 m hs hk hj hk' => ?_⟩
  · rcases set_cases hs with ⟨rfl, rfl⟩ | ⟨ne, hs⟩
    · exact ⟨n, c, List.getElem?_set_self hE, hc, hD⟩
    · rw [List.getElem?_set_ne (Ne.symm ne)]; exact k.sl j s hs
  · rcases set_cases hs with ⟨rfl, z⟩ | ⟨ne, hs⟩
    · rw [List.getElem?_set_self hE] at hj
      cases hj
      have := h.fr.1
      exact ⟨by simp, by omega⟩
    · rw [List.getElem?_set_ne (Ne.symm ne)] at hj; exact k.own j D' m hs hj
  · rcases set_cases hs with ⟨rfl, z⟩ | ⟨ne, hs2⟩
    · rw [List.getElem?_set_self hE] at hj
      cases hj
      rcases set_cases hk with ⟨rfl, z'⟩ | ⟨ne', hk⟩
      · rfl
      · rw [List.getElem?_set_ne (Ne.symm ne')] at hk'
        exact (new l D2 hk hk').elim
    · rw [List.getElem?_set_ne (Ne.symm ne)] at hj
      rcases set_cases hk with ⟨e3, z'⟩ | ⟨ne', hk2⟩
      · rw [e3, List.getElem?_set_self hE] at hk'
        cases hk'
        exact (new j D1 hs2 hj).elim
      · rw [List.getElem?_set_ne (Ne.symm ne')] at hk'
        exact k.dist j l D1 D2 m hs2 hk2 hj hk'
theorem EOk.setR (h : EOk b k0 S Γ E G) {i : Nat} {R : RT} {w : W} (hi : i < Γ.length) (hI : b.I.P k1 G') (f : Fr b.S0 G G') (hR : R.P S G G' w) : ∃ S', EOk b k1 S' (Γ.set i R.sl) (E.set i (some w)) G' := by
  cases R with
  | val T => exact ⟨S, (h.mv hI f).setTy hi hR⟩
  | new D => obtain ⟨n, c, rfl, hn, hc, hD⟩ := hR; exact ⟨n :: S, h.setOwn hi hn hI f hc hD⟩
/-- the cell of a slot is written -/
theorem EOk.write (h : EOk b k0 S Γ E G) {i n : Nat} {D D' : Tp Cell} {c : Cell} (hs : Γ[i]? = some (.own D)) (he : E[i]? = some (some (.ref n))) (hD : D'.P S G c) : EOk b k0 S (Γ.set i (.own D')) E (G.set n c) := by
  have z := h.own i D n hs he
  have hl := h.slt n z.1
  have hiE := (List.getElem?_eq_some_iff.mp he).1
  have hiΓ := (List.getElem?_eq_some_iff.mp hs).1
  have f : Fr S G (G.set n c) := Fr.set z.1
  have f0 : Fr b.S0 b.G0 (G.set n c) := h.fr.fresh (n := n) z.2 (Fr.set (by simp))
  have hI : b.I.P k0 (G.set n c) := b.I.keep (by simp) (fun k hk => get_set_ne (by have := h.dm k hk; omega)) h.inv
  refine ⟨hI, f0, h.s0p, h.sp, fun k hk => (h.sb k hk).imp id fun q => ⟨q.1, by simpa using q.2⟩, h.dm, b.gh.mono f h.gh, fun j s hj => ?_, fun j D1 m hj hm => ?_, fun j l D1 D2 m hj hl' hm hm' => ?_⟩
  · rcases set_cases hj with ⟨rfl, rfl⟩ | ⟨ne, hj⟩
    · exact ⟨n, c, he, get_set hl, D'.mono f hD⟩
    · refine (h.sl j s hj).mv f fun D1 m e1 e2 => ?_
      subst e1
      have : m ≠ n := fun e => ne (h.dist j i D1 D m hj hs e2 (e ▸ he))
      exact get_set_ne (Ne.symm this)
  · rcases set_cases hj with ⟨rfl, z1⟩ | ⟨ne, hj⟩
    · rw [he] at hm; cases hm; exact z
    · exact h.own j D1 m hj hm
  · rcases set_cases hj with ⟨rfl, z1⟩ | ⟨ne, hj2⟩
    · rcases set_cases hl' with ⟨rfl, z2⟩ | ⟨ne', hl'⟩
      · rfl
      · exact h.dist j l D D2 m hs hl' hm hm'
    · rcases set_cases hl' with ⟨e3, z2⟩ | ⟨ne', hl2⟩
      · rw [e3] at hm' ⊢; exact h.dist j i D1 D m hj2 hs hm hm'
      · exact h.dist j l D1 D2 m hj2 hl2 hm hm'
/-- a slot's cell is given away: from now on it is not written -/
theorem EOk.rel (h : EOk b k0 S Γ E G) {i : Nat} {D : Tp Cell} (hs : Γ[i]? = some (.own D)) : ∃ S', (∀ n ∈ S', n ∈ S) ∧ EOk b k0 S' (Γ.set i (.ty (tRef D))) E G := by
  obtain ⟨n, c, he, hc, hD⟩ := h.sl i _ hs
  have z := h.own i D n hs he
  have hiΓ := (List.getElem?_eq_some_iff.mp hs).1
  have hsub : ∀ k ∈ S.filter (fun k => decide (k ≠ n)), k ∈ S := fun k hk => (List.mem_filter.mp hk).1
  have hnot : n ∉ S.filter (fun k => decide (k ≠ n)) := fun k => by simpa using (List.mem_filter.mp k).2
  refine ⟨S.filter fun k => decide (k ≠ n), hsub, ⟨h.inv, h.fr, h.s0p, fun k hk => ⟨List.mem_filter.mpr ⟨(h.sp k hk).1, ?_⟩, (h.sp k hk).2⟩, fun k hk => h.sb k (hsub k hk), h.dm, b.gh.sub hsub h.gh, fun j s hj => ?_, fun j D1 m hj hm => ?_, fun j l D1 D2 m hj hl' hm hm' => ?_⟩⟩
  · have := (h.sp k hk).2
    simp only [decide_eq_true_eq]; omega
  · rcases set_cases hj with ⟨rfl, rfl⟩ | ⟨ne, hj⟩
    · exact ⟨_, he, n, c, rfl, hnot, hc, D.sub hsub hD⟩
    · have := h.sl j s hj
      cases s with
      | no => exact this
      | ty T => obtain ⟨w, e, q⟩ := this; exact ⟨w, e, T.sub hsub q⟩
      | own D => obtain ⟨m, c, e, g, q⟩ := this; exact ⟨m, c, e, g, D.sub hsub q⟩
  · rcases set_cases hj with ⟨rfl, z1⟩ | ⟨ne, hj⟩
    · cases z1
    · have q := h.own j D1 m hj hm
      refine ⟨List.mem_filter.mpr ⟨q.1, ?_⟩, q.2⟩
      simp only [decide_eq_true_eq]
      exact fun e => ne (h.dist j i D1 D m hj hs hm (e ▸ he))
  · rcases set_cases hj with ⟨rfl, z1⟩ | ⟨ne, hj⟩
    · cases z1
    · rcases set_cases hl' with ⟨rfl, z2⟩ | ⟨ne', hl'⟩
      · cases z2
      · exact h.dist j l D1 D2 m hj hl' hm hm'
theorem getElem?_set_self' {α : Type} {l : List α} {i : Nat} {x y : α} (h : l[i]? = some y) (e : x = y) : l.set i x = l := by
  subst e
  apply List.ext_getElem?
  intro j
  by_cases hj : j = i
  · subst hj; rw [List.getElem?_set_self (List.getElem?_eq_some_iff.mp h).1, h]
  · rw [List.getElem?_set_ne (Ne.symm hj)]
end
end PL
/- part PLO -/
set_option maxHeartbeats 1000000
namespace PL
open PySem PySem.Spec PyProof.Rows L2
/-! ### judgements -/
abbrev Bs.add (b : Bs) (g : Tp Unit) : Bs := ⟨b.toSmp, b.Sp, b.G0, tBth b.gh g⟩
def Ev (b : Bs) (Γ : TEnv) (m : ME) (R : RT) (c : Nat) : Prop := ∀ n S E G, n + c ≤ b.lim → EOk b n S Γ E G → (m E G).sat fun w G' => b.I.P (n + c) G' ∧ Fr b.S0 G G' ∧ R.P S G G' w
def Ea (b : Bs) (Γ : TEnv) (m : MA) (C : Tp (List W)) (c : Nat) : Prop := ∀ n S E G, n + c ≤ b.lim → EOk b n S Γ E G → (m E G).sat fun ws G' => b.I.P (n + c) G' ∧ Fr b.S0 G G' ∧ C.P S G' ws
def Et (b : Bs) (Γ : TEnv) (t : MT) (p q : Prop) (c : Nat) : Prop := ∀ n S E G, n + c ≤ b.lim → EOk b n S Γ E G → (t E G).sat fun k G' => b.I.P (n + c) G' ∧ Fr b.S0 G G' ∧ (k = true → p) ∧ (k = false → q)
/-- an expression that tells a cell that may be read -/
def Er (b : Bs) (Γ : TEnv) (m : ME) (D : Tp Cell) (c : Nat) : Prop := ∀ n S E G, n + c ≤ b.lim → EOk b n S Γ E G → (m E G).sat fun w G' => b.I.P (n + c) G' ∧ Fr b.S0 G G' ∧ ∃ k x, w = .ref k ∧ G'[k]? = some x ∧ D.P S G' x ∧ k ∉ b.S0
def Ei (b : Bs) (Γ : TEnv) (m : MI) (C : Tp (List W)) (c : Nat) : Prop := ∀ n S E G, n + c ≤ b.lim → EOk b n S Γ E G → (m E G).sat fun pit G' => b.I.P (n + c) G' ∧ Fr b.S0 G G' ∧ ∃ xs, ItOk S pit G' xs ∧ C.P S G' xs
def Eg (b : Bs) (Γ : TEnv) (g : MG) (T : Tp W) (Γ' : TEnv) : Prop := ∀ n S E G w, EOk b n S Γ E G → T.P S G w → (g w E G).sat fun E' G' => G' = G ∧ EOk b n S Γ' E' G
def Es (b : Bs) (Γ : TEnv) (m : MS) (N : Nat → PEnv → Cells → Prop) (R : RT) (c : Nat) : Prop := ∀ n S E G, n + c ≤ b.lim → EOk b n S Γ E G → (m E G).sat (fun E' G' => ∃ k, k ≤ n + c ∧ N k E' G') fun w G' => b.I.P (n + c) G' ∧ Fr b.S0 b.G0 G' ∧ R.P b.Sp b.G0 G' w
def EE (b : Bs) (Γ : TEnv) : Nat → PEnv → Cells → Prop := fun n E G => ∃ S, EOk b n S Γ E G
def EX {α : Type} (b : Bs) (A : α → Prop) (Γ : α → TEnv) : Nat → PEnv → Cells → Prop := fun n E G => ∃ x, A x ∧ ∃ S, EOk b n S (Γ x) E G
section
variable {b : Bs} {S : List Nat} {Γ Γ' Γ1 : TEnv} {E : PEnv} {G G1 G2 G' : Cells} {R R' : RT} {N N' : Nat → PEnv → Cells → Prop} {c c' c1 c2 : Nat} {T T' U V : Tp W} {D D' : Tp Cell} {C C' : Tp (List W)}
theorem RT.P.from {w : W} (h : R.P S G1 G2 w) (hl : G.length ≤ G1.length) : R.P S G G2 w := by
  cases R with
  | val T => exact h
  | new D => obtain ⟨n, c, e, hn, q⟩ := h; exact ⟨n, c, e, by omega, q⟩
theorem RT.P.base {w : W} {Sp : List Nat} {G0 : Cells} (h : R.P S G G' w) (hs : ∀ n ∈ Sp, n ∈ S) (hl : G0.length ≤ G.length) : R.P Sp G0 G' w := by
  cases R with
  | val T => exact T.sub hs h
  | new D =>
    obtain ⟨n, c, e, hn, hc, q⟩ := h
    refine ⟨n, c, e, by omega, hc, D.sub (fun k hk => ?_) q⟩
    rcases List.mem_cons.mp hk with rfl | hk
    · exact List.mem_cons_self
    · exact List.mem_cons_of_mem _ (hs k hk)
/-! ### expressions -/
theorem EOk.up {n k : Nat} (h : EOk b n S Γ E G) (hk : n ≤ k) : EOk b k S Γ E G := ⟨b.I.up hk h.inv, h.fr, h.s0p, h.sp, h.sb, h.dm, h.gh, h.sl, h.own, h.dist⟩
theorem ev_wk {m : ME} (h : Ev b Γ m R c) (k : c ≤ c') : Ev b Γ m R c' := fun n S E G hn e => (h n S E G (by omega) e).mono fun w G' q => ⟨b.I.up (by omega) q.1, q.2⟩
theorem ev_var {i : Nat} (hs : Γ[i]? = some (.ty T)) : Ev b Γ (mVar i) (.val T) 0 := fun n S E G hn h => by
  obtain ⟨w, e, q⟩ := h.sl i _ hs
  rw [s_var]; exact ⟨w, e, h.inv, Fr.refl, q⟩
theorem ev_c (w : W) : Ev b Γ (mC w) (.val (tEq w)) 0 := fun n S E G hn h => ⟨h.inv, Fr.refl, rfl⟩
theorem ev_le {m : ME} (h : Ev b Γ m (.val T) c) (k : Tle T U) : Ev b Γ m (.val U) c := fun n S E G hn e => (h n S E G hn e).mono fun w G' q => ⟨q.1, q.2.1, k _ _ _ q.2.2⟩
theorem ev_nle {m : ME} (h : Ev b Γ m (.new D) c) (k : Tle D D') : Ev b Γ m (.new D') c := fun n S E G hn e => (h n S E G hn e).mono fun w G' q => by
  obtain ⟨a, f, n, x, e, hn, hc, q⟩ := q
  exact ⟨a, f, n, x, e, hn, hc, k _ _ _ q⟩
theorem ev_nv {m : ME} (h : Ev b Γ m (.new D) c) : Ev b Γ m (.val (tRef D)) c := fun n S E G hn e => (h n S E G hn e).mono fun w G' q => by
  obtain ⟨a, f, n, x, e', hn, hc, q⟩ := q
  exact ⟨a, f, n, x, e', fun z => by have := e.slt n z; omega, hc, D.sub (fun k hk => List.mem_cons_of_mem _ hk) q⟩
theorem ev_binT {g : GOp} {m m' : ME} (ha : Ev b Γ m (.val T) c1) (hb : Ev b Γ m' (.val U) c2) (hg : ∀ S G x y, T.P S G x → U.P S G y → (g G x y).sat fun z G' => Fr [] G G' ∧ R.P S G G' z) : Ev b Γ (mBin g m m') R (c1 + c2) := fun n S E G hn e => by
  rw [s_bin]
  refine (ha n S E G (by omega) e).mono fun w G1 q => ?_
  obtain ⟨i1, f1, q1⟩ := q
  refine (hb _ S E G1 (by omega) (e.mv i1 f1)).mono fun w' G2 q => ?_
  obtain ⟨i2, f2, q2⟩ := q
  refine (hg S G2 w w' (T.mono (f2.sub e.s0) q1) q2).mono fun z G3 q => ?_
  exact ⟨b.I.up (by omega) (b.I.nil q.1 i2), (f1.trans f2).trans q.1.of_nil, q.2.from (by have := f1.1; have := f2.1; omega)⟩
theorem ev_bin {g : GOp} {m m' : ME} {x y z : W} (ha : Ev b Γ m (.val (tEq x)) c1) (hb : Ev b Γ m' (.val (tEq y)) c2) (hg : ∀ G, g G x y = .ok z G) : Ev b Γ (mBin g m m') (.val (tEq z)) (c1 + c2) :=
  ev_binT ha hb fun S G x' y' hx hy => by
    obtain rfl : x' = x := hx
    obtain rfl : y' = y := hy
    rw [hg]; exact ⟨Fr.refl, rfl⟩
def tI (p : Int → Prop) : Tp W := tXp p fun i => tEq (.int i)
theorem tI_c {p : Int → Prop} {i : Int} (h : p i) : Tle (tEq (.int i)) (tI p) := fun _ _ _ e => ⟨i, h, e⟩
theorem tI_le {p q : Int → Prop} (h : ∀ i, p i → q i) : Tle (tI p) (tI q) := fun _ _ _ ⟨i, a, e⟩ => ⟨i, h i a, e⟩
theorem ev_binI {g : GOp} {m m' : ME} {p q r : Int → Prop} (ha : Ev b Γ m (.val (tI p)) c1) (hb : Ev b Γ m' (.val (tI q)) c2) (hg : ∀ G i j, p i → q j → ∃ k, g G (.int i) (.int j) = .ok (.int k) G ∧ r k) : Ev b Γ (mBin g m m') (.val (tI r)) (c1 + c2) :=
  ev_binT ha hb fun S G x y hx hy => by
    obtain ⟨i, hi, rfl⟩ := hx
    obtain ⟨j, hj, rfl⟩ := hy
    obtain ⟨k, e, hk⟩ := hg G i j hi hj
    rw [e]; exact ⟨Fr.refl, k, hk, rfl⟩
theorem ea_consG {m : ME} {r : MA} {C1 : Tp (List W)} (h : Ev b Γ m (.val T) c1) (k : Ea b Γ r C c2) (hC : ∀ S G w ws, T.P S G w → C.P S G ws → C1.P S G (w :: ws)) : Ea b Γ (mCons m r) C1 (c1 + c2) := fun n S E G hn e => by
  rw [s_cons]
  refine (h n S E G (by omega) e).mono fun w G1 q => ?_
  refine (k _ S E G1 (by omega) (e.mv q.1 q.2.1)).mono fun ws G2 q2 => ?_
  exact ⟨b.I.up (by omega) q2.1, q.2.1.trans q2.2.1, hC _ _ _ _ (T.mono (q2.2.1.sub e.s0) q.2.2) q2.2.2⟩
theorem ea_nil : Ea b Γ mNil (cN []) 0 := fun n S E G hn e => ⟨e.inv, Fr.refl, trivial⟩
theorem ea_cons {m : ME} {r : MA} {Ts : List (Tp W)} (h : Ev b Γ m (.val T) c1) (k : Ea b Γ r (cN Ts) c2) : Ea b Γ (mCons m r) (cN (T :: Ts)) (c1 + c2) := ea_consG h k fun _ _ _ _ a b => ⟨a, b⟩
theorem eq_nil : Ea b Γ mNil (tEq []) 0 := fun n S E G hn e => ⟨e.inv, Fr.refl, rfl⟩
theorem eq_cons {m : ME} {r : MA} {w : W} {ws : List W} (h : Ev b Γ m (.val (tEq w)) c1) (k : Ea b Γ r (tEq ws) c2) : Ea b Γ (mCons m r) (tEq (w :: ws)) (c1 + c2) := ea_consG h k fun _ _ x xs a b => by
  obtain rfl : x = w := a
  obtain rfl : xs = ws := b
  rfl
theorem al_nil : Ea b Γ mNil (cAll T 0 0) 0 := fun n S E G hn e => ⟨e.inv, Fr.refl, Nat.le_refl _, Nat.le_refl _, by simp⟩
theorem al_cons {m : ME} {r : MA} {n : Nat} (h : Ev b Γ m (.val T) c1) (k : Ea b Γ r (cAll T n n) c2) : Ea b Γ (mCons m r) (cAll T (n + 1) (n + 1)) (c1 + c2) := ea_consG h k fun _ _ x xs a q => by
  obtain ⟨l1, l2, q3⟩ := q
  refine ⟨by simp; omega, by simp; omega, fun y hy => ?_⟩
  rcases List.mem_cons.mp hy with rfl | hy
  · exact a
  · exact q3 y hy
theorem ea_le {m : MA} (h : Ea b Γ m C c) (k : Tle C C') : Ea b Γ m C' c := fun n S E G hn e => (h n S E G hn e).mono fun w G' q => ⟨q.1, q.2.1, k _ _ _ q.2.2⟩
theorem ev_tup {m : MA} (h : Ea b Γ m C c) (hl : ∀ S G ws, C.P S G ws → ws.length ≤ 100000) : Ev b Γ (mTup m) (.val (tTup C)) c := fun n S E G hn e => by
  rw [s_tup]
  exact (h n S E G hn e).mono fun ws G' q => ⟨Nat.le_of_lt (big_le (hl _ _ _ q.2.2)), q.1, q.2.1, ws, rfl, q.2.2⟩
theorem ev_tupE {m : MA} {ws : List W} (h : Ea b Γ m (tEq ws) c) (hl : ws.length ≤ 100000 := by simp) : Ev b Γ (mTup m) (.val (tEq (.tup ws))) c := fun n S E G hn e => by
  rw [s_tup]
  refine (h n S E G hn e).mono fun ws' G' q => ?_
  obtain ⟨i, f, rfl⟩ := q
  exact ⟨Nat.le_of_lt (big_le hl), i, f, rfl⟩
theorem ev_lst {m : MA} (h : Ea b Γ m C c) (hl : ∀ S G ws, C.P S G ws → ws.length ≤ 100000) : Ev b Γ (mLst m) (.new (dL C)) c := fun n S E G hn e => by
  rw [s_lst]
  refine (h n S E G hn e).mono fun ws G' q => ⟨Nat.le_of_lt (big_le (hl _ _ _ q.2.2)), b.I.nil Fr.push q.1, q.2.1.trans Fr.push, G'.length, .lst ws, rfl, q.2.1.1, push_get _ _, ws, rfl, ?_⟩
  exact C.mono Fr.push (C.wid (Nat.le_refl _) q.2.2)
theorem ev_callT {g : GCall} {m : MA} (h : Ea b Γ m C c) (hg : ∀ S G ws, C.P S G ws → (g G ws).sat fun z G' => Fr [] G G' ∧ R.P S G G' z) : Ev b Γ (mCall g m) R c := fun n S E G hn e => by
  rw [s_call]
  refine (h n S E G hn e).mono fun ws G1 q => ?_
  refine (hg S G1 ws q.2.2).mono fun z G2 q2 => ?_
  exact ⟨b.I.nil q2.1 q.1, q.2.1.trans q2.1.of_nil, q2.2.from q.2.1.1⟩
theorem ev_call {g : GCall} {m : MA} {ws : List W} {z : W} (h : Ea b Γ m (tEq ws) c) (hg : ∀ G, g G ws = .ok z G) : Ev b Γ (mCall g m) (.val (tEq z)) c :=
  ev_callT h fun S G xs hx => by
    obtain rfl : xs = ws := hx
    rw [hg]; exact ⟨Fr.refl, rfl⟩
theorem ev_def {F : PF} {m : MA} (hF : Fn b.toSmp F C R c2) (h : Ea b Γ m C c1) : Ev b Γ (mDef F m) R (c1 + c2) := fun n S E G hn e => by
  rw [s_def]
  refine (h n S E G (by omega) e).mono fun ws G1 q => ?_
  have e1 := e.mv q.1 q.2.1
  refine (hF _ S G1 ws (by omega) e1.s0 e1.slt q.1 q.2.2).mono fun z G2 q2 => ?_
  exact ⟨b.I.up (by omega) q2.1, q.2.1.trans q2.2.1, q2.2.2.from q.2.1.1⟩
theorem ev_defK {F : PF} {perm : List Nat} {np nk : Nat} {m mk : MA} {Ts Us : List (Tp W)} {c3 : Nat} (hF : Fn b.toSmp F C R c3) (h : Ea b Γ m (cN Ts) c1) (hk : Ea b Γ mk (cN Us) c2) (h1 : Ts.length = np) (h2 : Us.length = nk) (hp : ∀ S G ws us, (cN Ts).P S G ws → (cN Us).P S G us → C.P S G (pick perm (ws ++ us))) : Ev b Γ (mDefK F perm np nk m mk) R (c1 + c2 + c3) := fun n S E G hn e => by
  rw [s_defK]
  refine (h n S E G (by omega) e).mono fun ws G1 q => ?_
  have e1 := e.mv q.1 q.2.1
  refine (hk _ S E G1 (by omega) e1).mono fun us G2 q2 => ?_
  have e2 := e1.mv q2.1 q2.2.1
  have w1 := (cN Ts).mono (q2.2.1.sub e.s0) q.2.2
  refine ⟨by rw [All2.len w1, h1], by rw [All2.len q2.2.2, h2], ?_⟩
  refine (hF _ S G2 _ (by omega) e2.s0 e2.slt q2.1 (hp S G2 ws us w1 q2.2.2)).mono fun z G3 q3 => ?_
  exact ⟨b.I.up (by omega) q3.1, (q.2.1.trans q2.2.1).trans q3.2.1, q3.2.2.from (by have := q.2.1.1; have := q2.2.1.1; omega)⟩
theorem ev_ifC {t : MT} {m m' : ME} {p q : Prop} {c3 : Nat} (h : Et b Γ t p q c1) (k : p → Ev b Γ m R c2) (k' : q → Ev b Γ m' R c3) (h2 : c2 ≤ c) (h3 : c3 ≤ c) : Ev b Γ (mIf t m m') R (c1 + c) := fun n S E G hn e => by
  rw [s_if]
  refine (h n S E G (by omega) e).mono fun x G1 z => ?_
  obtain ⟨i1, f1, z1, z2⟩ := z
  have e1 := e.mv i1 f1
  cases x with
  | true => rw [if_pos rfl]; exact (k (z1 rfl) _ S E G1 (by omega) e1).mono fun w G2 y => ⟨b.I.up (by omega) y.1, f1.trans y.2.1, y.2.2.from f1.1⟩
  | false => rw [if_neg (by decide)]; exact (k' (z2 rfl) _ S E G1 (by omega) e1).mono fun w G2 y => ⟨b.I.up (by omega) y.1, f1.trans y.2.1, y.2.2.from f1.1⟩
theorem ev_if {t : MT} {m m' : ME} {p q : Prop} {c3 : Nat} (h : Et b Γ t p q c1) (k : p → Ev b Γ m R c2) (k' : q → Ev b Γ m' R c3) : Ev b Γ (mIf t m m') R (c1 + (c2 + c3)) := ev_ifC h k k' (by omega) (by omega)
/-! ### tests -/
theorem et_wk {t : MT} {p q : Prop} (h : Et b Γ t p q c) (k : c ≤ c') : Et b Γ t p q c' := fun n S E G hn e => (h n S E G (by omega) e).mono fun w G' q => ⟨b.I.up (by omega) q.1, q.2⟩
theorem et_test {m : ME} {x : Bool} (h : Ev b Γ m (.val (tEq (.bl x))) c) : Et b Γ (mTest m) (x = true) (x = false) c := fun n S E G hn e => by
  rw [s_test]
  refine (h n S E G hn e).mono fun w G' q => ?_
  obtain ⟨i, f, rfl⟩ := q
  exact ⟨x, rfl, i, f, id, id⟩
theorem et_any {m : ME} (h : Ev b Γ m (.val tBl) c) : Et b Γ (mTest m) True True c := fun n S E G hn e => by
  rw [s_test]
  refine (h n S E G hn e).mono fun w G' q => ?_
  obtain ⟨i, f, x, rfl⟩ := q
  exact ⟨x, rfl, i, f, fun _ => trivial, fun _ => trivial⟩
/-- a test of ints that are known by a bound alone -/
theorem et_int {g : GOp} {m m' : ME} {p q : Int → Prop} (ha : Ev b Γ m (.val (tI p)) c1) (hb : Ev b Γ m' (.val (tI q)) c2) (hg : ∀ G i j, ∃ x, g G (.int i) (.int j) = .ok (.bl x) G) : Et b Γ (mTest (mBin g m m')) True True (c1 + c2) :=
  et_any (ev_binT ha hb fun S G x y hx hy => by
    obtain ⟨i, hi, rfl⟩ := hx
    obtain ⟨j, hj, rfl⟩ := hy
    obtain ⟨k, e⟩ := hg G i j
    rw [e]; exact ⟨Fr.refl, k, rfl⟩)
theorem et_tru {m : ME} {w : W} {x : Bool} (h : Ev b Γ m (.val (tEq w)) c) (hx : ∀ G, truW G w = some x) : Et b Γ (mTru m) (x = true) (x = false) c := fun n S E G hn e => by
  rw [s_tru]
  refine (h n S E G hn e).mono fun w' G' q => ?_
  obtain ⟨i, f, rfl⟩ := q
  exact ⟨x, hx G', i, f, id, id⟩
theorem et_not {t : MT} {p q : Prop} (h : Et b Γ t p q c) : Et b Γ (mNotT t) q p c := fun n S E G hn e => by
  rw [s_notT]
  refine (h n S E G hn e).mono fun x G1 z => ⟨z.1, z.2.1, fun y => z.2.2.2 (by simpa using y), fun y => z.2.2.1 (by simpa using y)⟩
theorem et_and {t t' : MT} {p q p' q' : Prop} (h : Et b Γ t p q c1) (k : p → Et b Γ t' p' q' c2) : Et b Γ (mAndT t t') (p ∧ p') (q ∨ (p ∧ q')) (c1 + c2) := fun n S E G hn e => by
  rw [s_andT]
  refine (h n S E G (by omega) e).mono fun x G1 z => ?_
  obtain ⟨i1, f1, z1, z2⟩ := z
  cases x with
  | true => rw [if_pos rfl]; exact (k (z1 rfl) _ S E G1 (by omega) (e.mv i1 f1)).mono fun w G2 y => ⟨b.I.up (by omega) y.1, f1.trans y.2.1, fun u => ⟨z1 rfl, y.2.2.1 u⟩, fun u => .inr ⟨z1 rfl, y.2.2.2 u⟩⟩
  | false => rw [if_neg (by decide)]; exact ⟨b.I.up (by omega) i1, f1, fun u => (by cases u), fun _ => .inl (z2 rfl)⟩
theorem et_or {t t' : MT} {p q p' q' : Prop} (h : Et b Γ t p q c1) (k : q → Et b Γ t' p' q' c2) : Et b Γ (mOrT t t') (p ∨ (q ∧ p')) (q ∧ q') (c1 + c2) := fun n S E G hn e => by
  rw [s_orT]
  refine (h n S E G (by omega) e).mono fun x G1 z => ?_
  obtain ⟨i1, f1, z1, z2⟩ := z
  cases x with
  | true => rw [if_pos rfl]; exact ⟨b.I.up (by omega) i1, f1, fun _ => .inl (z1 rfl), fun u => (by cases u)⟩
  | false => rw [if_neg (by decide)]; exact (k (z2 rfl) _ S E G1 (by omega) (e.mv i1 f1)).mono fun w G2 y => ⟨b.I.up (by omega) y.1, f1.trans y.2.1, fun u => .inr ⟨z2 rfl, y.2.2.1 u⟩, fun u => ⟨z2 rfl, y.2.2.2 u⟩⟩
theorem et_le {t : MT} {p q p' q' : Prop} (h : Et b Γ t p q c) (k : p → p') (k' : q → q') : Et b Γ t p' q' c := fun n S E G hn e => (h n S E G hn e).mono fun x G1 z => ⟨z.1, z.2.1, fun u => k (z.2.2.1 u), fun u => k' (z.2.2.2 u)⟩
theorem et_yes : Et b Γ mYes True False 0 := fun n S E G hn e => ⟨e.inv, Fr.refl, fun _ => trivial, fun u => by cases u⟩
/-! ### cells that are read -/
theorem er_own {i : Nat} (hs : Γ[i]? = some (.own D)) : Er b Γ (mVar i) D 0 := fun n S E G hn h => by
  obtain ⟨n, x, e, g, q⟩ := h.sl i _ hs
  rw [s_var]; exact ⟨_, e, h.inv, Fr.refl, n, x, rfl, g, q, h.n0 (h.own i D n hs e).2⟩
theorem er_val {m : ME} (h : Ev b Γ m (.val (tRef D)) c) : Er b Γ m D c := fun n S E G hn e => (h n S E G hn e).mono fun w G' q => by
  obtain ⟨i, f, n, x, rfl, hn, hc, q⟩ := q
  exact ⟨i, f, n, x, rfl, hc, q, fun z => hn (e.s0 n z)⟩
theorem er_new {m : ME} (h : Ev b Γ m (.new D) c) : Er b Γ m D c := er_val (ev_nv h)
theorem er_le {m : ME} (h : Er b Γ m D c) (k : Tle D D') : Er b Γ m D' c := fun n S E G hn e => (h n S E G hn e).mono fun w G' q => by
  obtain ⟨i, f, n, x, e, hc, q, z⟩ := q
  exact ⟨i, f, n, x, e, hc, k _ _ _ q, z⟩
/-- any reading of one cell -/
theorem ev_read {g : GCall} {m : ME} (h : Er b Γ m D c) (hg : ∀ S G n x, G[n]? = some x → D.P S G x → (g G [.ref n]).sat fun z G' => Fr [] G G' ∧ R.P S G G' z) : Ev b Γ (mCall g (mCons m mNil)) R c := fun n S E G hn e => by
  rw [s_call, s_cons]
  refine (h n S E G hn e).mono fun w G1 q => ?_
  obtain ⟨i1, f1, n, x, rfl, hc, q, _⟩ := q
  rw [s_nil]
  refine (hg S G1 n x hc q).mono fun z G2 q2 => ?_
  exact ⟨b.I.nil q2.1 i1, f1.trans q2.1.of_nil, q2.2.from f1.1⟩
theorem ev_len {m : ME} {p : Int → Prop} (h : Er b Γ m (dL C) c) (hp : ∀ S G ws, C.P S G ws → p (ws.length : Int)) : Ev b Γ (mCall lenW (mCons m mNil)) (.val (tI p)) c :=
  ev_read h fun S G n x hc q => by
    obtain ⟨ws, rfl, q⟩ := q
    rw [e_lenL hc]; exact ⟨Fr.refl, _, hp _ _ _ q, rfl⟩
theorem ev_lenE {m : ME} {k : Int} (h : Er b Γ m (dL C) c) (hp : ∀ S G ws, C.P S G ws → (ws.length : Int) = k) : Ev b Γ (mCall lenW (mCons m mNil)) (.val (tEq (.int k))) c :=
  ev_read h fun S G n x hc q => by
    obtain ⟨ws, rfl, q⟩ := q
    rw [e_lenL hc]; exact ⟨Fr.refl, by rw [hp _ _ _ q]; rfl⟩
theorem ev_tupOf {m : ME} (h : Er b Γ m (dL C) c) : Ev b Γ (mCall tupleW (mCons m mNil)) (.val (tTup C)) c :=
  ev_read h fun S G n x hc q => by
    obtain ⟨ws, rfl, q⟩ := q
    rw [e_tupL hc]; exact ⟨Fr.refl, ws, rfl, q⟩
theorem ev_binR {g : GOp} {m m' : ME} (h : Er b Γ m D c1) (hk : Ev b Γ m' (.val U) c2) (hg : ∀ S G n x y, G[n]? = some x → D.P S G x → U.P S G y → (g G (.ref n) y).sat fun z G' => Fr [] G G' ∧ R.P S G G' z) : Ev b Γ (mBin g m m') R (c1 + c2) := fun n S E G hn e => by
  rw [s_bin]
  refine (h n S E G (by omega) e).mono fun w G1 q => ?_
  obtain ⟨i1, f1, k, x, rfl, hc, q, n0⟩ := q
  refine (hk _ S E G1 (by omega) (e.mv i1 f1)).mono fun y G2 q2 => ?_
  obtain ⟨i2, f2, q2⟩ := q2
  refine (hg S G2 k x y (f2.get hc n0) (D.mono (f2.sub e.s0) q) q2).mono fun z G3 q3 => ?_
  exact ⟨b.I.up (by omega) (b.I.nil q3.1 i2), (f1.trans f2).trans q3.1.of_nil, q3.2.from (by have := f1.1; have := f2.1; omega)⟩
theorem ev_get {m m' : ME} {p : Int → Prop} (h : Er b Γ m (dL C) c1) (hk : Ev b Γ m' (.val (tI p)) c2) (hp : ∀ S G ws i, C.P S G ws → p i → 0 ≤ i ∧ ∃ w, ws[i.toNat]? = some w ∧ T.P S G w) : Ev b Γ (mBin getW m m') (.val T) (c1 + c2) :=
  ev_binR h hk fun S G n x y hc q hy => by
    obtain ⟨ws, rfl, q⟩ := q
    obtain ⟨i, hi, rfl⟩ := hy
    obtain ⟨h0, w, e, hw⟩ := hp _ _ _ _ q hi
    rw [e_getL hc e h0]; exact ⟨Fr.refl, hw⟩
theorem ev_getT {m m' : ME} {p : Int → Prop} (h : Ev b Γ m (.val (tTup C)) c1) (hk : Ev b Γ m' (.val (tI p)) c2) (hp : ∀ S G ws i, C.P S G ws → p i → 0 ≤ i ∧ ∃ w, ws[i.toNat]? = some w ∧ T.P S G w) : Ev b Γ (mBin getW m m') (.val T) (c1 + c2) :=
  ev_binT h hk fun S G x y hx hy => by
    obtain ⟨ws, rfl, q⟩ := hx
    obtain ⟨i, hi, rfl⟩ := hy
    obtain ⟨h0, w, e, hw⟩ := hp _ _ _ _ q hi
    rw [e_getT e h0]; exact ⟨Fr.refl, hw⟩
/-- a list of two lists -/
theorem ev_addL {m m' : ME} (h : Er b Γ m (dL C) c1) (hk : Er b Γ m' (dL C') c2) (hl : ∀ S G ws us, C.P S G ws → C'.P S G us → ws.length + us.length ≤ 100000) {B : Tp (List W)} (hB : ∀ S G ws us, C.P S G ws → C'.P S G us → B.P S G (ws ++ us)) : Ev b Γ (mBin addW m m') (.new (dL B)) (c1 + c2) := fun n S E G hn e => by
  rw [s_bin]
  refine (h n S E G (by omega) e).mono fun w G1 q => ?_
  obtain ⟨i1, f1, k, x, rfl, hc, ⟨ws, rfl, q⟩, n0⟩ := q
  refine (hk _ S E G1 (by omega) (e.mv i1 f1)).mono fun y G2 q2 => ?_
  obtain ⟨i2, f2, k', x', rfl, hc', ⟨us, rfl, q'⟩, _⟩ := q2
  have q := C.mono (f2.sub e.s0) q
  rw [e_addL (f2.get hc n0) hc' (hl _ _ _ _ q q')]
  have b1 := hB _ _ _ _ q q'
  exact ⟨b.I.up (by omega) (b.I.nil Fr.push i2), (f1.trans f2).trans Fr.push, G2.length, _, rfl, by have := f1.1; have := f2.1; omega, push_get _ _, _, rfl, B.mono Fr.push (B.wid (Nat.le_refl _) b1)⟩
end
end PL
/- part PLP -/
set_option maxHeartbeats 1000000
namespace PL
open PySem PySem.Spec PyProof.Rows L2
section
variable {b : Bs} {S : List Nat} {Γ Γ' Γ1 : TEnv} {E : PEnv} {G G1 G2 G' : Cells} {R R' : RT} {N N' : Nat → PEnv → Cells → Prop} {c c' c1 c2 : Nat} {k0 k1 : Nat} {T T' U V : Tp W} {D D' : Tp Cell} {C C' : Tp (List W)}
/-! ### slots may be forgotten -/
inductive SlLe : Sl → Sl → Prop
  | no (s : Sl) : SlLe s .no
  | ty {T U : Tp W} : Tle T U → SlLe (.ty T) (.ty U)
  | own {D D' : Tp Cell} : Tle D D' → SlLe (.own D) (.own D')
theorem SlLe.refl (s : Sl) : SlLe s s := by cases s <;> first | exact .no _ | exact .ty Tle.refl | exact .own Tle.refl
inductive EnvLe : TEnv → TEnv → Prop
  | nil : EnvLe [] []
  | cons {s s' : Sl} {Γ Γ' : TEnv} : SlLe s s' → EnvLe Γ Γ' → EnvLe (s :: Γ) (s' :: Γ')
theorem EnvLe.refl : ∀ Γ : TEnv, EnvLe Γ Γ
  | [] => .nil
  | s :: Γ => .cons (SlLe.refl s) (EnvLe.refl Γ)
theorem EnvLe.get {Γ Γ' : TEnv} (h : EnvLe Γ Γ') : ∀ {i : Nat} {s' : Sl}, Γ'[i]? = some s' → ∃ s, Γ[i]? = some s ∧ SlLe s s' := by
  induction h with
  | nil => intro i s' h; simp at h
  | cons a _ ih =>
    intro i s' h
    cases i with
    | zero => simp at h; subst h; exact ⟨_, rfl, a⟩
    | succ i => exact ih (by simpa using h)
theorem SlOk.le {s s' : Sl} {o : Option (Option W)} (k : SlLe s s') (h : SlOk S G s o) : SlOk S G s' o := by
  cases k with
  | no s =>
    cases s with
    | no => exact h
    | ty T => obtain ⟨w, e, _⟩ := h; exact ⟨_, e⟩
    | own D => obtain ⟨n, c, e, _⟩ := h; exact ⟨_, e⟩
  | ty t => obtain ⟨w, e, q⟩ := h; exact ⟨w, e, t _ _ _ q⟩
  | own t => obtain ⟨n, c, e, g, q⟩ := h; exact ⟨n, c, e, g, t _ _ _ q⟩
theorem EOk.le (k : EnvLe Γ Γ') (h : EOk b k0 S Γ E G) : EOk b k0 S Γ' E G := by
  refine ⟨h.inv, h.fr, h.s0p, h.sp, h.sb, h.dm, h.gh, fun i s hs => ?_, fun i D n hs he => ?_, fun i j D D' n hs hs' he he' => ?_⟩
  · obtain ⟨s0, h0, l⟩ := k.get hs
    exact (h.sl i s0 h0).le l
  · obtain ⟨s0, h0, l⟩ := k.get hs
    cases l; exact h.own i _ n h0 he
  · obtain ⟨s0, h0, l⟩ := k.get hs
    obtain ⟨s1, h1, l1⟩ := k.get hs'
    cases l; cases l1; exact h.dist i j _ _ n h0 h1 he he'
theorem EOk.addG {g : Tp Unit} (h : EOk b k0 S Γ E G) (hg : g.P S G ()) : EOk (b.add g) k0 S Γ E G := ⟨h.inv, h.fr, h.s0p, h.sp, h.sb, h.dm, ⟨h.gh, hg⟩, h.sl, h.own, h.dist⟩
theorem EOk.dropG {g : Tp Unit} (h : EOk (b.add g) k0 S Γ E G) : EOk b k0 S Γ E G ∧ g.P S G () := ⟨⟨h.inv, h.fr, h.s0p, h.sp, h.sb, h.dm, h.gh.1, h.sl, h.own, h.dist⟩, h.gh.2⟩
/-! ### targets -/
theorem eg_set {i : Nat} (hi : i < Γ.length) : Eg b Γ (gSet i) T (Γ.set i (.ty T)) := fun n S E G w h q => ⟨rfl, h.setTy hi q⟩
theorem eg_tup2 {i j : Nat} (hi : i < Γ.length) (hj : j < Γ.length) : Eg b Γ (gTupW 2 (gsCons i (gsCons j gsNil))) (tTup (cN [T, U])) ((Γ.set i (.ty T)).set j (.ty U)) := fun n S E G w h q => by
  obtain ⟨ws, rfl, q⟩ := q
  match ws, q with
  | [x, y], q => exact ⟨rfl, (h.setTy hi q.1).setTy (by simpa using hj) q.2.1⟩
theorem eg_tup3 {i j k : Nat} (hi : i < Γ.length) (hj : j < Γ.length) (hk : k < Γ.length) : Eg b Γ (gTupW 3 (gsCons i (gsCons j (gsCons k gsNil)))) (tTup (cN [T, U, V])) (((Γ.set i (.ty T)).set j (.ty U)).set k (.ty V)) := fun n S E G w h q => by
  obtain ⟨ws, rfl, q⟩ := q
  match ws, q with
  | [x, y, z], q => exact ⟨rfl, ((h.setTy hi q.1).setTy (by simpa using hj) q.2.1).setTy (by simpa using hk) q.2.2.1⟩
theorem eg_le {g : MG} (h : Eg b Γ g T Γ') (k : Tle U T) : Eg b Γ g U Γ' := fun n S E G w e q => h n S E G w e (k _ _ _ q)
/-! ### statements -/
theorem es_wk {m : MS} (h : Es b Γ m N R c) (k : c ≤ c') : Es b Γ m N R c' := fun n S E G hn e => (h n S E G (by omega) e).mono (fun E1 G1 ⟨k, q⟩ => ⟨k, by omega, q.2⟩) fun w G' q => ⟨b.I.up (by omega) q.1, q.2⟩
theorem es_nx : Es b Γ sNext (EE b Γ) R 0 := fun n S E G hn h => ⟨n, Nat.le_refl _, S, h⟩
theorem es_nxX {α : Type} {A : α → Prop} {Γf : α → TEnv} (x : α) (hx : A x) (hl : EnvLe Γ (Γf x)) : Es b Γ sNext (EX b A Γf) R 0 := fun n S E G hn h => ⟨n, Nat.le_refl _, x, hx, S, h.le hl⟩
theorem es_nxL (hl : EnvLe Γ Γ') : Es b Γ sNext (EE b Γ') R 0 := fun n S E G hn h => ⟨n, Nat.le_refl _, S, h.le hl⟩
theorem es_pre {m : MS} (hl : EnvLe Γ Γ') (h : Es b Γ' m N R c) : Es b Γ m N R c := fun n S E G hn e => h n S E G hn (e.le hl)
theorem es_post {m : MS} (h : Es b Γ m N R c) (k : ∀ n E G, N n E G → N' n E G) : Es b Γ m N' R c := fun n S E G hn e => (h n S E G hn e).mono (fun E1 G1 ⟨j, q⟩ => ⟨j, q.1, k _ _ _ q.2⟩) fun _ _ q => q
theorem es_seqG {m m' : MS} (h : Es b Γ m N' R c1) (k : ∀ n E G, n + c2 ≤ b.lim → N' n E G → ∃ Γ1 S1, EOk b n S1 Γ1 E G ∧ Es b Γ1 m' N R c2) : Es b Γ (sSeq m m') N R (c1 + c2) := fun n S E G hn e => by
  refine so_seq ((h n S E G (by omega) e).mono (fun E1 G1 q => ?_) fun _ _ q => ⟨b.I.up (by omega) q.1, q.2⟩)
  obtain ⟨j, hj, q⟩ := q
  obtain ⟨Γ1, S1, e1, k1⟩ := k j E1 G1 (by omega) q
  exact (k1 j S1 E1 G1 (by omega) e1).mono (fun E2 G2 ⟨i, q⟩ => ⟨i, by omega, q.2⟩) fun _ _ q => ⟨b.I.up (by omega) q.1, q.2⟩
theorem es_seq {m m' : MS} (h : Es b Γ m (EE b Γ1) R c1) (k : Es b Γ1 m' N R c2) : Es b Γ (sSeq m m') N R (c1 + c2) := es_seqG h fun n E G _ ⟨S1, e1⟩ => ⟨Γ1, S1, e1, k⟩
theorem es_seqX {α : Type} {A : α → Prop} {Γf : α → TEnv} {m m' : MS} (h : Es b Γ m (EX b A Γf) R c1) (k : ∀ x, A x → Es b (Γf x) m' N R c2) : Es b Γ (sSeq m m') N R (c1 + c2) := es_seqG h fun n E G _ ⟨x, hx, S1, e1⟩ => ⟨Γf x, S1, e1, k x hx⟩
theorem es_end {m : MS} (h : Es b Γ (sSeq m sNext) N R c) : Es b Γ m N R c := fun n S E G hn e => by
  have := h n S E G hn e
  rw [t_seq] at this
  exact this.mono (fun E1 G1 q => q) fun _ _ q => q
theorem es_asg {m : ME} {i : Nat} {m' : MS} {R0 : RT} (h : Ev b Γ m R0 c1) (hi : i < Γ.length) (k : Es b (Γ.set i R0.sl) m' N R c2) : Es b Γ (sSeq (sAsg m (gSet i)) m') N R (c1 + c2) := fun n S E G hn e => by
  refine so_seq ?_
  rw [t_asg]
  refine (h n S E G (by omega) e).mono fun w G1 q => ?_
  obtain ⟨S', e'⟩ := e.setR hi q.1 q.2.1 q.2.2
  exact (k _ S' _ _ (by omega) e').mono (fun E2 G2 ⟨i, q⟩ => ⟨i, by omega, q.2⟩) fun _ _ q => ⟨b.I.up (by omega) q.1, q.2⟩
theorem es_asgX {α : Type} {p : α → Prop} {A : α → Tp W} {m : ME} {i : Nat} {m' : MS} (h : Ev b Γ m (.val (tXp p A)) c1) (hi : i < Γ.length) (k : ∀ x, p x → Es b (Γ.set i (.ty (A x))) m' N R c2) : Es b Γ (sSeq (sAsg m (gSet i)) m') N R (c1 + c2) := fun n S E G hn e => by
  refine so_seq ?_
  rw [t_asg]
  refine (h n S E G (by omega) e).mono fun w G1 q => ?_
  obtain ⟨i1, f1, x, hx, q⟩ := q
  exact (k x hx _ _ _ _ (by omega) ((e.mv i1 f1).setTy hi q)).mono (fun E2 G2 ⟨i, q⟩ => ⟨i, by omega, q.2⟩) fun _ _ q => ⟨b.I.up (by omega) q.1, q.2⟩
theorem es_asgG {m : ME} {g : MG} {m' : MS} (h : Ev b Γ m (.val T) c1) (hg : Eg b Γ g T Γ') (k : Es b Γ' m' N R c2) : Es b Γ (sSeq (sAsg m g) m') N R (c1 + c2) := fun n S E G hn e => by
  refine so_seq ?_
  rw [t_asg]
  refine (h n S E G (by omega) e).mono fun w G1 q => ?_
  refine (hg _ _ _ _ w (e.mv q.1 q.2.1) q.2.2).mono fun E1 G2 q2 => ?_
  obtain ⟨rfl, e2⟩ := q2
  exact (k _ _ _ _ (by omega) e2).mono (fun E2 G2 ⟨i, q⟩ => ⟨i, by omega, q.2⟩) fun _ _ q => ⟨b.I.up (by omega) q.1, q.2⟩
theorem es_par {i j : Nat} {m m1 : ME} {m' : MS} {R0 R1 : RT} {c3 : Nat} (h : Ev b Γ m R0 c1) (h1 : Ev b Γ m1 R1 c2) (hi : i < Γ.length) (hj : j < Γ.length) (k : Es b ((Γ.set i R0.sl).set j R1.sl) m' N R c3) : Es b Γ (sSeq (sPar i j (mCons m (mCons m1 mNil))) m') N R (c1 + c2 + c3) := fun n S E G hn e => by
  refine so_seq ?_
  rw [t_par, s_cons]
  refine (h n S E G (by omega) e).mono fun w G1 q => ?_
  obtain ⟨i1, f1, q⟩ := q
  rw [s_cons]
  cases R0 with
  | val T =>
    have e1 := e.mv i1 f1
    refine (h1 _ S E G1 (by omega) e1).mono fun w' G2 q2 => ?_
    rw [s_nil, p2_c]
    obtain ⟨i2, f2, q2⟩ := q2
    have e2 := e1.setTy (i := i) (T := T) hi q
    obtain ⟨S', e'⟩ := e2.setR (i := j) (by simpa using hj) i2 f2 q2
    exact (k _ S' _ _ (by omega) e').mono (fun E2 G2 ⟨i, q⟩ => ⟨i, by omega, q.2⟩) fun _ _ q => ⟨b.I.up (by omega) q.1, q.2⟩
  | new D =>
    obtain ⟨n', x, rfl, hn', hc, q⟩ := q
    have e0 := e.wid hn' i1 f1 (lt_of_get hc)
    refine (h1 _ (n' :: S) E G1 (by omega) e0).mono fun w' G2 q2 => ?_
    rw [s_nil, p2_c]
    obtain ⟨i2, f2, q2⟩ := q2
    have e2 := e.setOwn (i := i) hi hn' i1 f1 hc q
    obtain ⟨S', e'⟩ := e2.setR (i := j) (by simpa using hj) i2 f2 q2
    exact (k _ S' _ _ (by omega) e').mono (fun E2 G2 ⟨i, q⟩ => ⟨i, by omega, q.2⟩) fun _ _ q => ⟨b.I.up (by omega) q.1, q.2⟩
theorem es_par3 {i j l : Nat} {m m1 m2 : ME} {m' : MS} {T0 T1 : Tp W} {R2 : RT} {c3 c4 : Nat} (h : Ev b Γ m (.val T0) c1) (h1 : Ev b Γ m1 (.val T1) c2) (h2 : Ev b Γ m2 R2 c3) (hi : i < Γ.length) (hj : j < Γ.length) (hl : l < Γ.length) (k : Es b (((Γ.set i (.ty T0)).set j (.ty T1)).set l R2.sl) m' N R c4) : Es b Γ (sSeq (sPar3 i j l (mCons m (mCons m1 (mCons m2 mNil)))) m') N R (c1 + c2 + c3 + c4) := fun n S E G hn e => by
  refine so_seq ?_
  rw [t_par3, s_cons]
  refine (h n S E G (by omega) e).mono fun w G1 q => ?_
  obtain ⟨i1, f1, q⟩ := q
  rw [s_cons]
  have e1 := e.mv i1 f1
  refine (h1 _ S E G1 (by omega) e1).mono fun w' G2 q2 => ?_
  rw [s_cons]
  obtain ⟨i2, f2, q2⟩ := q2
  have e2 := e1.mv i2 f2
  refine (h2 _ S E G2 (by omega) e2).mono fun w2 G3 q3 => ?_
  rw [s_nil, p3_c]
  obtain ⟨i3, f3, q3⟩ := q3
  have e4 := (e2.setTy (i := i) (T := T0) hi (T0.mono (f2.sub e1.s0) q)).setTy (i := j) (T := T1) (by simpa using hj) q2
  obtain ⟨S', e'⟩ := e4.setR (i := l) (by simpa using hl) i3 f3 q3
  exact (k _ S' _ _ (by omega) e').mono (fun E2 G2 ⟨i, q⟩ => ⟨i, by omega, q.2⟩) fun _ _ q => ⟨b.I.up (by omega) q.1, q.2⟩
theorem es_ret {m : ME} (h : Ev b Γ m R c) : Es b Γ (sRet m) N R c := fun n S E G hn e => by
  rw [t_ret]
  exact (h n S E G hn e).mono fun w G1 q => ⟨q.1, e.fr.trans q.2.1, q.2.2.base (fun n hn => (e.sp n hn).1) e.fr.1⟩
/-- a slot's own cell is given back -/
theorem es_retO {i : Nat} (hs : Γ[i]? = some (.own D)) (k : Tle D D') : Es b Γ (sRet (mVar i)) N (.new D') 0 := fun n S E G hn e => by
  obtain ⟨n, x, he, hc, q⟩ := e.sl i _ hs
  have z := e.own i D n hs he
  rw [t_ret, s_var]
  refine ⟨_, he, e.inv, e.fr, n, x, rfl, z.2, hc, k _ _ _ (D.sub (fun k hk => ?_) q)⟩
  rcases List.mem_cons.mp hk with rfl | hk
  · exact z.1
  · exact (e.sp k hk).1
theorem es_ifC {t : MT} {m m' : MS} {p q : Prop} {c3 : Nat} (h : Et b Γ t p q c1) (k : p → Es b Γ m N R c2) (k' : q → Es b Γ m' N R c3) (h2 : c2 ≤ c) (h3 : c3 ≤ c) : Es b Γ (sIf t m m') N R (c1 + c) := fun n S E G hn e => by
  rw [t_if]
  refine (h n S E G (by omega) e).mono fun x G1 z => ?_
  obtain ⟨i1, f1, z1, z2⟩ := z
  have e1 := e.mv i1 f1
  cases x with
  | true => rw [if_pos rfl]; exact (k (z1 rfl) _ S E G1 (by omega) e1).mono (fun E2 G2 ⟨i, q⟩ => ⟨i, by omega, q.2⟩) fun _ _ q => ⟨b.I.up (by omega) q.1, q.2⟩
  | false => rw [if_neg (by decide)]; exact (k' (z2 rfl) _ S E G1 (by omega) e1).mono (fun E2 G2 ⟨i, q⟩ => ⟨i, by omega, q.2⟩) fun _ _ q => ⟨b.I.up (by omega) q.1, q.2⟩
theorem es_if {t : MT} {m m' : MS} {p q : Prop} {c3 : Nat} (h : Et b Γ t p q c1) (k : p → Es b Γ m N R c2) (k' : q → Es b Γ m' N R c3) : Es b Γ (sIf t m m') N R (c1 + (c2 + c3)) := es_ifC h k k' (by omega) (by omega)
/-- an if in a row: what follows is shown once -/
theorem es_ifX {α : Type} {A : α → Prop} {Γf : α → TEnv} {t : MT} {m m' m2 : MS} {p q : Prop} {c3 c4 : Nat} (h : Et b Γ t p q c1) (k : p → Es b Γ m (EX b A Γf) R c2) (k' : q → Es b Γ m' (EX b A Γf) R c3) (z : ∀ x, A x → Es b (Γf x) m2 N R c4) : Es b Γ (sSeq (sIf t m m') m2) N R (c1 + (c2 + c3) + c4) := es_seqX (es_if h k k') z
theorem es_ifE {t : MT} {m m' m2 : MS} {p q : Prop} {c3 c4 : Nat} (Γ1 : TEnv) (h : Et b Γ t p q c1) (k : p → Es b Γ m (EE b Γ1) R c2) (k' : q → Es b Γ m' (EE b Γ1) R c3) (z : Es b Γ1 m2 N R c4) : Es b Γ (sSeq (sIf t m m') m2) N R (c1 + (c2 + c3) + c4) := es_seq (es_if h k k') z
/-- an if whose first branch ends the call -/
theorem es_ifR {t : MT} {m m2 : MS} {p q : Prop} {c3 : Nat} (h : Et b Γ t p q c1) (k : p → Es b Γ m (fun _ _ _ => False) R c2) (z : q → Es b Γ m2 N R c3) : Es b Γ (sSeq (sIf t m sNext) m2) N R (c1 + (c2 + c3)) := fun n S E G hn e => by
  refine so_seq ?_
  rw [t_if]
  refine (h n S E G (by omega) e).mono fun x G1 y => ?_
  obtain ⟨i1, f1, z1, z2⟩ := y
  have e1 := e.mv i1 f1
  cases x with
  | true => rw [if_pos rfl]; exact (k (z1 rfl) _ S E G1 (by omega) e1).mono (fun _ _ ⟨_, _, u⟩ => u.elim) fun _ _ q => ⟨b.I.up (by omega) q.1, q.2⟩
  | false => rw [if_neg (by decide), t_nx]; exact (z (z2 rfl) _ S E G1 (by omega) e1).mono (fun E2 G2 ⟨i, q⟩ => ⟨i, by omega, q.2⟩) fun _ _ q => ⟨b.I.up (by omega) q.1, q.2⟩
theorem es_rel {i : Nat} {m : MS} (hs : Γ[i]? = some (.own D)) (k : Es b (Γ.set i (.ty (tRef D))) m N R c) : Es b Γ m N R c := fun n S E G hn e => by
  obtain ⟨S', hsub, e'⟩ := e.rel hs
  exact k n S' E G hn e'
theorem es_ex {α : Type} {i : Nat} {p : α → Prop} {A : α → Tp W} {m : MS} (hs : Γ[i]? = some (.ty (tXp p A))) (k : ∀ x, p x → Es b (Γ.set i (.ty (A x))) m N R c) : Es b Γ m N R c := fun n S E G hn e => by
  obtain ⟨w, he, x, hx, q⟩ := e.sl i _ hs
  have := e.setTy (i := i) (T := A x) (w := w) (List.getElem?_eq_some_iff.mp hs).1 q
  rw [getElem?_set_self' he rfl] at this
  exact k x hx n S E G hn this
/-- the value of a slot by name -/
theorem es_at {i : Nat} {m : MS} {p : W → Prop} (hs : Γ[i]? = some (.ty T)) (hp : ∀ S G w, T.P S G w → p w) (k : ∀ w, p w → Es b (Γ.set i (.ty (tAt T w))) m N R c) : Es b Γ m N R c := fun n S E G hn e => by
  obtain ⟨w, he, q⟩ := e.sl i _ hs
  have := e.setTy (i := i) (T := tAt T w) (w := w) (List.getElem?_eq_some_iff.mp hs).1 ⟨rfl, q⟩
  rw [getElem?_set_self' he rfl] at this
  exact k w (hp _ _ _ q) n S E G hn this
/-- what a slot's cell holds, by name -/
theorem es_own {i : Nat} {m : MS} {p : Cell → Prop} (hs : Γ[i]? = some (.own D)) (hp : ∀ S G c, D.P S G c → p c) (k : ∀ x, p x → Es b (Γ.set i (.own (tAt D x))) m N R c) : Es b Γ m N R c := fun n S E G hn e => by
  obtain ⟨j, x, he, hc, q⟩ := e.sl i _ hs
  refine k x (hp _ _ _ q) n S E G hn ?_
  have := e.write (D' := tAt D x) hs he ⟨rfl, q⟩
  rwa [getElem?_set_self' hc rfl] at this
/-- one of what a slot's cell is said to be -/
theorem es_ownX {α : Type} {i : Nat} {m : MS} {p : α → Prop} {A : α → Tp Cell} (hs : Γ[i]? = some (.own (tXp p A))) (k : ∀ x, p x → Es b (Γ.set i (.own (A x))) m N R c) : Es b Γ m N R c := fun n S E G hn e => by
  obtain ⟨j, y, he, hc, x, hx, q⟩ := e.sl i _ hs
  refine k x hx n S E G hn ?_
  have := e.write (D' := A x) hs he q
  rwa [getElem?_set_self' hc rfl] at this
theorem es_app {i : Nat} {m : ME} {m' : MS} (hs : Γ[i]? = some (.own (dL C))) (h : Ev b Γ m (.val T) c1) (hC : ∀ S G ws w, C.P S G ws → T.P S G w → C'.P S G (ws ++ [w]) ∧ ws.length ≤ 100000) (k : Es b (Γ.set i (.own (dL C'))) m' N R c2) : Es b Γ (sSeq (sExpr (mMeth "list" appendW (mVar i) (mCons m mNil))) m') N R (c1 + c2) := fun n S E G hn e => by
  obtain ⟨j, x, he, hc, ws, rfl, q⟩ := e.sl i _ hs
  refine so_seq ?_
  rw [t_expr, s_meth, s_var]
  refine ⟨_, he, e_isL hc, ?_⟩
  rw [s_cons]
  refine (h n S E G (by omega) e).mono fun w G1 q1 => ?_
  obtain ⟨i1, f1, q1⟩ := q1
  have e1 := e.mv i1 f1
  obtain ⟨j', x', he', hc', ws', rfl, q'⟩ := e1.sl i _ hs
  rw [he] at he'; cases he'
  have z := hC _ _ _ _ q' q1
  rw [s_nil, e_app hc' z.2]
  exact (k _ _ _ _ (by omega) (e1.write hs he ⟨_, rfl, z.1⟩)).mono (fun E2 G2 ⟨i, q⟩ => ⟨i, by omega, q.2⟩) fun _ _ q => ⟨b.I.up (by omega) q.1, q.2⟩
theorem es_put {i : Nat} {m mk : ME} {m' : MS} {p : Int → Prop} {c3 : Nat} (hs : Γ[i]? = some (.own (dL C))) (h : Ev b Γ m (.val T) c1) (hk : Ev b Γ mk (.val (tI p)) c2) (hC : ∀ S G ws j w, C.P S G ws → p j → T.P S G w → 0 ≤ j ∧ j < ws.length ∧ C'.P S G (ws.set j.toNat w)) (k : Es b (Γ.set i (.own (dL C'))) m' N R c3) : Es b Γ (sSeq (sAsg m (gPut (mVar i) mk)) m') N R (c1 + c2 + c3) := fun n S E G hn e => by
  refine so_seq ?_
  rw [t_asg]
  refine (h n S E G (by omega) e).mono fun w G1 q1 => ?_
  obtain ⟨i1, f1, q1⟩ := q1
  have e1 := e.mv i1 f1
  obtain ⟨j, x, he, hc, ws, rfl, q⟩ := e1.sl i _ hs
  rw [g_put, s_var]
  refine ⟨_, he, ?_⟩
  refine (hk _ S E G1 (by omega) e1).mono fun y G2 q2 => ?_
  obtain ⟨i2, f2, j2, hj, rfl⟩ := q2
  have e2 := e1.mv i2 f2
  obtain ⟨n', x', he', hc', ws', rfl, q'⟩ := e2.sl i _ hs
  rw [he] at he'; cases he'
  obtain ⟨j0, j1, z⟩ := hC _ _ _ _ _ q' hj (T.mono (f2.sub e1.s0) q1)
  refine ⟨_, rfl, _, e_put hc' j0 j1, ?_⟩
  exact (k _ _ _ _ (by omega) (e2.write hs he ⟨_, rfl, z⟩)).mono (fun E2 G2 ⟨i, q⟩ => ⟨i, by omega, q.2⟩) fun _ _ q => ⟨b.I.up (by omega) q.1, q.2⟩
/-! ### iterators -/
theorem ei_tup {m : ME} (h : Ev b Γ m (.val (tTup C)) c) : Ei b Γ (mSeq m) C c := fun n S E G hn e => by
  rw [s_seq]
  refine (h n S E G hn e).mono fun w G1 q => ?_
  obtain ⟨i, f, ws, rfl, q⟩ := q
  rw [i_tup]; exact ⟨i, f, ws, it_tup _ _ _, q⟩
theorem ei_lst {m : ME} (h : Ev b Γ m (.val (tLs C)) c) : Ei b Γ (mSeq m) C c := fun n S E G hn e => by
  rw [s_seq]
  refine (h n S E G hn e).mono fun w G1 q => ?_
  obtain ⟨i, f, k, x, rfl, hk, hc, ws, rfl, q⟩ := q
  rw [i_lst hc]; exact ⟨i, f, ws, it_lst hc hk, q⟩
theorem ei_new {m : ME} (h : Ev b Γ m (.new (dL C)) c) : Ei b Γ (mSeq m) C c := ei_lst (ev_nv h)
theorem ei_rng1 {m : ME} {k : Nat} (h : Ev b Γ m (.val (tEq (.int (k : Int)))) c) (hk : k ≤ 100000) : Ei b Γ (mRng1 (mCons m mNil)) (tEq (rnW 0 k)) c := fun n S E G hn e => by
  rw [s_rng1]
  refine (h n S E G hn e).mono fun w G1 q => ?_
  obtain ⟨i, f, rfl⟩ := q
  refine ⟨_, rfl, by unfold rngOk; simp; omega, i, f, _, ?_, rfl⟩
  rw [Int.toNat_natCast]; exact it_rng _ _ _ _
/-- a range to what is known by a bound alone -/
theorem ei_rngT {m : ME} {p : Int → Prop} (h : Ev b Γ m (.val (tI p)) c) (hp : ∀ i, p i → 0 ≤ i ∧ i ≤ 100000) : Ei b Γ (mRng1 (mCons m mNil)) (tXp (fun k : Nat => p (k : Int)) fun k => tEq (rnW 0 k)) c := fun n S E G hn e => by
  rw [s_rng1]
  refine (h n S E G hn e).mono fun w G1 q => ?_
  obtain ⟨i, f, j, hj, rfl⟩ := q
  have := hp j hj
  refine ⟨_, rfl, by unfold rngOk; simp; omega, i, f, _, it_rng _ _ _ _, j.toNat, ?_, rfl⟩
  show p ((j.toNat : Nat) : Int)
  rw [Int.toNat_of_nonneg this.1]; exact hj
theorem ei_rng2 {m m' : ME} {a k : Int} (h : Ev b Γ m (.val (tEq (.int a))) c1) (h' : Ev b Γ m' (.val (tEq (.int k))) c2) (ha : rngOk a = true) (hk : rngOk k = true) : Ei b Γ (mRng2 (mCons m (mCons m' mNil))) (tEq (rnW a (k - a).toNat)) (c1 + c2) := fun n S E G hn e => by
  rw [s_rng2]
  refine (h n S E G (by omega) e).mono fun w G1 q => ?_
  obtain ⟨i, f, rfl⟩ := q
  refine (h' _ S E G1 (by omega) (e.mv i f)).mono fun w G2 q => ?_
  obtain ⟨i2, f2, rfl⟩ := q
  refine ⟨_, _, rfl, rfl, by simp [ha, hk], b.I.up (by omega) i2, f.trans f2, _, it_rng _ _ _ _, rfl⟩
def cEn (C : Tp (List W)) : Tp (List W) := tEx fun ys => ⟨fun S G xs => xs = enW ys ∧ C.P S G ys, fun f h => ⟨h.1, C.mono f h.2⟩, fun f h => ⟨h.1, C.sub f h.2⟩, fun f h => ⟨h.1, C.wid f h.2⟩⟩
theorem ei_enT {m : ME} (h : Ev b Γ m (.val (tTup C)) c) : Ei b Γ (mEnum (mCons m mNil)) (cEn C) c := fun n S E G hn e => by
  rw [s_enum]
  refine (h n S E G hn e).mono fun w G1 q => ?_
  obtain ⟨i, f, us, rfl, q⟩ := q
  exact .inr ⟨us, rfl, i, f, _, it_enT _ _ _, us, rfl, q⟩
theorem ei_enL {m : ME} (h : Ev b Γ m (.val (tLs C)) c) : Ei b Γ (mEnum (mCons m mNil)) (cEn C) c := fun n S E G hn e => by
  rw [s_enum]
  refine (h n S E G hn e).mono fun w G1 q => ?_
  obtain ⟨i, f, k, x, rfl, hk, hc, ws, rfl, q⟩ := q
  exact .inl ⟨k, rfl, by rw [rdL_lst hc]; rfl, i, f, _, it_enL hc hk, ws, rfl, q⟩
theorem ei_le {m : MI} (h : Ei b Γ m C c) (k : Tle C C') : Ei b Γ m C' c := fun n S E G hn e => (h n S E G hn e).mono fun w G1 q => by
  obtain ⟨i, f, xs, it, q⟩ := q
  exact ⟨i, f, xs, it, k _ _ _ q⟩
/-! ### loops -/
def gIt (pit : PIt) (xs : List W) (C : Tp (List W)) : Tp Unit := tBth (tBx fun G _ => ∀ i, pit.at G i = some xs[i]?) ⟨fun S G _ => C.P S G xs, fun f h => C.mono f h, fun f h => C.sub f h, fun f h => C.wid f h⟩
/-- M: how many turns at most; each asks c at most -/
theorem es_for {α : Type} {mi : MI} {g : MG} {body m' : MS} {p : List W → Prop} {c3 : Nat} (M : Nat) (A : List W → Nat → α → Prop) (Γf : List W → Nat → α → TEnv) (Te : List W → Nat → W → Tp W)
    (hi : Ei b Γ mi C c1) (hp : ∀ S G xs, C.P S G xs → p xs ∧ xs.length ≤ M) (he : ∀ S G xs i w, C.P S G xs → xs[i]? = some w → (Te xs i w).P S G w)
    (h0 : ∀ xs, p xs → ∃ x, A xs 0 x ∧ EnvLe Γ (Γf xs 0 x))
    (hs : ∀ xs i w x pit, p xs → xs[i]? = some w → A xs i x → ∃ Γ1, Eg (b.add (gIt pit xs C)) (Γf xs i x) g (Te xs i w) Γ1 ∧ Es (b.add (gIt pit xs C)) Γ1 body (EX (b.add (gIt pit xs C)) (A xs (i + 1)) (Γf xs (i + 1))) R c2)
    (hd : ∀ xs x, p xs → A xs xs.length x → Es b (Γf xs xs.length x) m' N R c3) : Es b Γ (sSeq (sForI mi g body) m') N R (c1 + M * c2 + c3) := fun n S E G hn e => by
  refine so_seq (so_forG (P := fun pit G1 => b.I.P (n + c1) G1 ∧ Fr b.S0 G G1 ∧ ∃ xs, ItOk S pit G1 xs ∧ C.P S G1 xs) (hi n S E G (by omega) e) ?_)
  rintro pit G1 em ⟨i1, f1, xs, it, q⟩
  obtain ⟨hx, hM⟩ := hp _ _ _ q
  have e1 := e.mv i1 f1
  have mul : ∀ i, i < xs.length → i * c2 + c2 ≤ M * c2 := fun i hi => by
    rw [← Nat.succ_mul]; exact Nat.mul_le_mul_right _ (by omega)
  have mulE : xs.length * c2 ≤ M * c2 := Nat.mul_le_mul_right _ hM
  refine so_forI xs (fun i E' G' => ∃ k, k ≤ n + c1 + i * c2 ∧ ∃ x, A xs i x ∧ ∃ S', EOk (b.add (gIt pit xs C)) k S' (Γf xs i x) E' G') (em.mono ?_) ?_ ?_
  · rintro pp gg ⟨rfl, rfl⟩
    obtain ⟨x, hA, hl⟩ := h0 xs hx
    refine ⟨it.len, ⟨n + c1, by omega, x, hA, S, (e1.addG (g := gIt pp xs C) ⟨fun G' f i => it.at' G' i f, q⟩).le hl⟩, fun i E' G' z => ?_⟩
    obtain ⟨k, _, x', _, S', e'⟩ := z
    exact (tBx.now e'.gh.2.1) i
  · rintro i w E' G' hw ⟨k, hk, x, hA, S', e'⟩
    have hi' := mul i (List.getElem?_eq_some_iff.mp hw).1
    obtain ⟨Γ1, hg, hb⟩ := hs xs i w x pit hx hw hA
    refine (hg k S' E' G' w e' (he _ _ _ _ _ e'.gh.2.2 hw)).mono fun E2 G2 z => ?_
    obtain ⟨rfl, e2⟩ := z
    refine (hb k S' E2 G2 (by show k + c2 ≤ b.lim; omega) e2).mono (fun E3 G3 ⟨j, hj, y⟩ => ⟨j, by rw [Nat.succ_mul]; omega, y⟩) fun w G3 y => ⟨b.I.up (by omega) y.1, y.2⟩
  · rintro E' G' ⟨k, hk, x, hA, S', e'⟩
    exact (hd xs x hx hA k S' E' G' (by omega) e'.dropG.1).mono (fun E2 G2 ⟨i, q⟩ => ⟨i, by omega, q.2⟩) fun _ _ q => ⟨b.I.up (by omega) q.1, q.2⟩
/-! ### comprehensions -/
def wipeG (Γ : TEnv) : List Nat → TEnv
  | [] => Γ
  | v :: vs => (wipeG Γ vs).set v .no
theorem EOk.setNo (h : EOk b k0 S Γ E G) {i : Nat} : EOk b k0 S (Γ.set i .no) (E.set i none) G := by
  refine ⟨h.inv, h.fr, h.s0p, h.sp, h.sb, h.dm, h.gh, fun j s hs => ?_, fun j D n hs hj => ?_, fun j k D D' n hs hk hj hk' => ?_⟩
  · rcases set_cases hs with ⟨rfl, rfl⟩ | ⟨ne, hs⟩
    · have hl : j < Γ.length := by simpa using (List.getElem?_eq_some_iff.mp hs).1
      exact ⟨none, List.getElem?_set_self (h.lt hl)⟩
    · rw [List.getElem?_set_ne (Ne.symm ne)]; exact h.sl j s hs
  · rcases set_cases hs with ⟨rfl, z⟩ | ⟨ne, hs⟩
    · cases z
    · rw [List.getElem?_set_ne (Ne.symm ne)] at hj; exact h.own j D n hs hj
  · rcases set_cases hs with ⟨rfl, z⟩ | ⟨ne, hs⟩
    · cases z
    · rcases set_cases hk with ⟨rfl, z⟩ | ⟨ne', hk⟩
      · cases z
      · rw [List.getElem?_set_ne (Ne.symm ne)] at hj
        rw [List.getElem?_set_ne (Ne.symm ne')] at hk'
        exact h.dist j k D D' n hs hk hj hk'
theorem EOk.wipe (h : EOk b k0 S Γ E G) : ∀ vs : List Nat, EOk b k0 S (wipeG Γ vs) (wipeE E vs) G
  | [] => h
  | v :: vs => (h.wipe vs).setNo
theorem lc_get' {mi : MI} {E : PEnv} {G : Cells} {Q : W → Cells → Prop} {g : MG} {t : MT} {m : ME} {vs : List Nat} {P : PIt → Cells → Prop} (h : (mi E G).sat P)
    (k : ∀ pit G1, (mi E G).sat (fun p g => p = pit ∧ g = G1) → P pit G1 → (mLc mi g t m vs E G).sat Q) : (mLc mi g t m vs E G).sat Q := by
  obtain ⟨pit, G1, e, q⟩ := h.get
  exact k pit G1 (by rw [e]; exact ⟨rfl, rfl⟩) q
theorem ev_lc {mi : MI} {g : MG} {t : MT} {m : ME} {vs : List Nat} {p : List W → Prop} {B : Tp (List W)} (M : Nat) (A : List W → Nat → Tp (List W)) (Te : List W → Nat → W → Tp W) (Uy : List W → Nat → W → Tp W)
    (hi : Ei b Γ mi C c1) (hp : ∀ S G xs, C.P S G xs → p xs ∧ xs.length ≤ M) (hM : M ≤ 100000) (he : ∀ S G xs i w, C.P S G xs → xs[i]? = some w → (Te xs i w).P S G w)
    (h0 : ∀ S G xs, p xs → (A xs 0).P S G [])
    (hs : ∀ xs i w, p xs → xs[i]? = some w → ∃ Γ1 tp tq, Eg b (wipeG Γ vs) g (Te xs i w) Γ1 ∧ Et b Γ1 t tp tq c2 ∧ (tp → Ev b Γ1 m (.val (Uy xs i w)) c ∧ ∀ S G acc y, (A xs i).P S G acc → (Uy xs i w).P S G y → (A xs (i + 1)).P S G (acc ++ [y])) ∧ (tq → ∀ S G acc, (A xs i).P S G acc → (A xs (i + 1)).P S G acc))
    (hd : ∀ S G xs acc, p xs → acc.length ≤ xs.length → (A xs xs.length).P S G acc → B.P S G acc) : Ev b Γ (mLcI mi g t m vs) (.new (dL B)) (c1 + M * (c2 + c)) := fun n S E G hn e => by
  rw [mLcI_eq]
  refine lc_get' (hi n S E G (by omega) e) ?_
  rintro pit G1 em ⟨i1, f1, xs, it, q⟩
  have e1 := e.mv i1 f1
  obtain ⟨hx, hlen⟩ := hp _ _ _ q
  have mul : ∀ i, i < xs.length → i * (c2 + c) + (c2 + c) ≤ M * (c2 + c) := fun i hi => by
    rw [← Nat.succ_mul]; exact Nat.mul_le_mul_right _ (by omega)
  have mulE : xs.length * (c2 + c) ≤ M * (c2 + c) := Nat.mul_le_mul_right _ hlen
  refine lc_sat xs (fun _ i acc G' => acc.length ≤ i ∧ b.I.P (n + c1 + i * (c2 + c)) G' ∧ Fr b.S0 G1 G' ∧ G1.length < G'.length ∧ (A xs i).P (G1.length :: S) G' acc) (em.mono ?_)
  rintro pp gg ⟨rfl, rfl⟩
  have n0 : gg.length ∉ b.S0 := fun z => by have := e1.slt _ (e1.s0 _ z); omega
  refine ⟨it.len, ⟨Nat.le_refl _, b.I.up (by omega) (b.I.nil Fr.push i1), Fr.push, by simp, h0 _ _ xs hx⟩, fun i acc G' z _ => it.at' G' i (z.2.2.1.sub e1.s0), fun i w acc G' hw z hk => ?_, fun acc G' hk z => ?_⟩
  · obtain ⟨z1, z2, z3, z4, z5⟩ := z
    have hi' : i < xs.length := (List.getElem?_eq_some_iff.mp hw).1
    have hmu := mul i hi'
    obtain ⟨Γ1, tp, tq, hg, ht, hm, hq⟩ := hs xs i w hx hw
    have e2 := e1.wid (n := gg.length) (Nat.le_refl _) z2 z3 z4
    have wq := he _ _ _ _ _ (C.mono (z3.sub (fun k hk => List.mem_cons_of_mem _ (e1.s0 k hk))) (C.wid (Nat.le_refl gg.length) q)) hw
    refine (hg _ _ _ _ w (e2.wipe vs) wq).mono fun E2 G2 y => ?_
    obtain ⟨rfl, e3⟩ := y
    refine (ht _ _ _ _ (by omega) e3).mono fun k G3 y => ?_
    obtain ⟨i3, f3, y1, y2⟩ := y
    have e4 := e3.mv i3 f3
    have fS3 : Fr (gg.length :: S) G2 G3 := f3.sub e3.s0
    have eM : n + c1 + (i + 1) * (c2 + c) = n + c1 + i * (c2 + c) + (c2 + c) := by rw [Nat.succ_mul]; omega
    cases k with
    | true =>
      rw [if_pos rfl]
      obtain ⟨hm1, hm2⟩ := hm (y1 rfl)
      refine (hm1 _ _ _ _ (by omega) e4).mono fun y G4 u => ?_
      obtain ⟨i4, f4, u⟩ := u
      have fS4 : Fr (gg.length :: S) G3 G4 := f4.sub e4.s0
      have a4 := hm2 _ _ _ _ ((A xs i).mono fS4 ((A xs i).mono fS3 z5)) u
      have fs : Fr (gg.length :: S) G4 (G4.set gg.length (.lst (acc ++ [y]))) := Fr.set (by simp)
      have l4 : gg.length < G4.length := by have := f3.1; have := f4.1; omega
      refine ⟨f4.get (f3.get hk n0) n0, big_le (m := 100000) (by omega), by simp; omega, ?_, ?_, by simpa using l4, (A xs (i + 1)).mono fs a4⟩
      · exact b.I.up (by omega) (b.I.keep (by simp) (fun k hk => get_set_ne (by have := b.I.lt i1 k hk; omega)) i4)
      · exact ((z3.trans f3).trans f4).fresh (n := gg.length) (Nat.le_refl _) (Fr.set (by simp))
    | false =>
      simp only [Bool.false_eq_true, if_false]
      exact ⟨f3.get hk n0, by omega, b.I.up (by omega) i3, z3.trans f3, Nat.lt_of_lt_of_le z4 f3.1, hq (y2 rfl) _ _ _ ((A xs i).mono fS3 z5)⟩
  · obtain ⟨z1, z2, z3, z4, z5⟩ := z
    exact ⟨b.I.up (by omega) z2, f1.trans z3, gg.length, _, rfl, f1.1, hk, acc, rfl, hd _ _ xs acc hx z1 z5⟩
/-! ### functions -/
theorem fn_of {s : Smp} {np nn : Nat} {body : MS} {Ts : List (Tp W)} (hl : Ts.length = np) (h : ∀ Sp G0, Es ⟨s, Sp, G0, tAny⟩ (Ts.map Sl.ty ++ List.replicate (nn - np) .no) body (fun _ _ _ => False) R c) (hc : c ≤ c') : Fn s (mFun np nn body) (cN Ts) R c' := fun n Sp G ws hn hS hlt hI hw => by
  have hlw := All2.len hw
  refine fun_sat (by omega) ?_
  refine (h Sp G n Sp _ G (by show n + c ≤ s.lim; omega) ?_).mono (fun _ _ ⟨_, _, z⟩ => z.elim) fun w G' z => ⟨s.I.up (by omega) z.1, z.2⟩
  refine ⟨hI, Fr.refl, hS, fun n hn => ⟨hn, hlt n hn⟩, fun n hn => .inl hn, s.I.lt hI, trivial, fun i s hs => ?_, fun i D n hs _ => ?_, fun i j D D' n hs _ _ _ => ?_⟩
  · by_cases hi : i < Ts.length
    · rw [List.getElem?_append_left (by simpa using hi), List.getElem?_map] at hs
      obtain ⟨T, hT, rfl⟩ := Option.map_eq_some_iff.mp hs
      have key : ∀ (Ts : List (Tp W)) (ws : List W) (i : Nat) (T : Tp W), All2 Sp G Ts ws → Ts[i]? = some T → ∃ w, ws[i]? = some w ∧ T.P Sp G w := by
        intro Ts
        induction Ts with
        | nil => intro ws i T _ h; simp at h
        | cons T0 Ts ih =>
          intro ws i T ha h
          cases ws with
          | nil => exact ha.elim
          | cons w ws =>
            cases i with
            | zero => simp at h; subst h; exact ⟨w, rfl, ha.1⟩
            | succ i => obtain ⟨v, e, q⟩ := ih ws i T ha.2 (by simpa using h); exact ⟨v, by simpa using e, q⟩
      obtain ⟨w, e, q⟩ := key Ts ws i T hw hT
      refine ⟨w, ?_, q⟩
      rw [List.getElem?_append_left (by rw [List.length_map]; omega), List.getElem?_map, e]; rfl
    · rw [List.getElem?_append_right (by simpa using hi)] at hs
      have hr := (List.getElem?_eq_some_iff.mp hs).1
      simp only [List.length_replicate, List.length_map] at hr
      have : s = .no := by
        have := List.mem_of_getElem? hs
        exact List.eq_of_mem_replicate this
      subst this
      refine ⟨none, ?_⟩
      rw [List.getElem?_append_right (by rw [List.length_map]; omega), List.getElem?_replicate, if_pos (by rw [List.length_map]; omega)]
  · exfalso
    have := List.mem_of_getElem? hs
    rcases List.mem_append.mp this with h | h
    · obtain ⟨T, _, h⟩ := List.mem_map.mp h; cases h
    · have := List.eq_of_mem_replicate h; cases this
  · exfalso
    have := List.mem_of_getElem? hs
    rcases List.mem_append.mp this with h | h
    · obtain ⟨T, _, h⟩ := List.mem_map.mp h; cases h
    · have := List.eq_of_mem_replicate h; cases this
end
end PL
/- part PLQ -/
set_option maxHeartbeats 1000000
namespace PL
open PySem PySem.Spec PyProof.Rows L2
/-! ### str(x) of data -/
def strOfD (d : PyData) : Str := match d with
  | .str x => x
  | d => d.shown
def strDW : GCall := fun G ws => match ws with
  | [w] => (match dat G 60 w with | some d => if showOk d = true then .ok (.str (strOfD d)) G else .no | none => .no)
  | _ => .no
section
variable {X : Cx} {XP : Wish} {k : Nat}
theorem cg_strD (c : GC X XP k) : CaG X XP (.type "str") strDW := by
  refine ⟨fun vs H Q => ∃ ρ G σ ws, SR X.K ρ G H ∧ VRs X.K ρ H ws vs ∧ Out X.K XP (VR X.K) σ ρ H (strDW G ws) Q, fun pins s σ H xs us Q I r h => ?_, fun ρ G σ H ws vs Q sr r o => ⟨ρ, G, σ, ws, sr, r, o⟩⟩
  obtain ⟨ρ, G, σ', ws, sr, rw', o⟩ := h
  unfold strDW at o
  split at o
  · rename_i w
    split at o
    · rename_i d hd
      split at o
      · rename_i hs
        cases rw' with
        | cons r1 r2 =>
          cases r2
          obtain ⟨u, rfl, ru⟩ := vals1 r
          obtain ⟨as, a1, a2, a3⟩ := dat_reads c.sys I sr 60 _ _ _ _ r1 ru hd
          simp only [showOk, Bool.and_eq_true, decide_eq_true_eq] at hs
          obtain ⟨h1, h3⟩ := hs
          have fin : ∀ {h' : Heap} {tk : Nat} {t : Tok}, (∀ b o, s.heap.get? b = some o → h'.get? b = some o) → EP X pins σ Q (.str (strOfD d) t) { s with heap := h', toks := tk } := fun hk => ⟨.str (strOfD d), H, I.kept hk, ⟨_, rfl⟩, o.ok sr (.str _)⟩
          have hu := c.room.room.units
          cases a1 with
          | none => simp only [strOfD, PyData.shown] at fin; exact PySem.P.str_of_none (fin (h' := s.heap) fun _ _ e => e)
          | bool b => simp only [strOfD, PyData.shown] at fin; exact PySem.P.str_of_bool (fin (h' := s.heap) fun _ _ e => e)
          | int i t => simp only [strOfD, PyData.shown] at fin; exact PySem.P.str_of_int (by simpa [PyData.showable] using h1) (fin (h' := s.heap) fun _ _ e => e)
          | str x t => simp only [strOfD] at fin; exact PySem.P.str_of_str (fin (h' := s.heap) fun _ _ e => e)
          | list b1 b2 b3 b4 => exact str_of_reads (.list b1 b2 b3 b4) h1 (fun _ => a2) c.room.grd (by omega) (fun _ _ e => e) (fun h' u tk hk => fin hk) h3
          | tuple b1 b2 b3 b4 => exact str_of_reads (.tuple b1 b2 b3 b4) h1 (fun _ => a2) c.room.grd (by omega) (fun _ _ e => e) (fun h' u tk hk => fin hk) h3
          | dict b1 b2 b3 b4 b5 => exact str_of_reads (.dict b1 b2 b3 b4 b5) h1 (fun _ => a2) c.room.grd (by omega) (fun _ _ e => e) (fun h' u tk hk => fin hk) h3
      · exact o.elim
    · exact o.elim
  · exact o.elim
end
end PL
namespace PL
open PySem PySem.Spec PyProof.Rows L2
/-! ### lists of data beside an empty one -/
def Dt (w : W) : Prop := ∃ d, (∀ G, dat G 59 w = some d) ∧ PyData.canLay0 d = true ∧ PyData.depth d ≤ 8
theorem dt_all : ∀ {ws : List W}, (∀ w ∈ ws, Dt w) → ∃ ds, (∀ G, mapO (dat G 59) ws = some ds) ∧ ds.length = ws.length ∧ PyData.canLayAll0 ds = true ∧ PyData.depthAll ds ≤ 8
  | [], _ => ⟨[], fun _ => rfl, rfl, rfl, Nat.zero_le _⟩
  | w :: ws, h => by
    obtain ⟨d, h1, h2, h3⟩ := h w (by simp)
    obtain ⟨ds, k1, k2, k3, k4⟩ := dt_all (ws := ws) fun x hx => h x (by simp [hx])
    refine ⟨d :: ds, fun G => by simp only [mapO, h1 G, k1 G], by simp [k2], by simp only [PyData.canLayAll0, h2, k3, Bool.and_self], ?_⟩
    simp only [PyData.depthAll]; omega
theorem ne_data {G : Cells} {n m : Nat} {ws : List W} (h : G[n]? = some (.lst ws)) (h' : G[m]? = some (.lst [])) (hd : ∀ w ∈ ws, Dt w) : neOp G (.ref n) (.ref m) = .ok (.bl (!ws.isEmpty)) G := by
  obtain ⟨ds, k1, k2, k3, k4⟩ := dt_all hd
  have e1 : dat G 60 (.ref n) = some (.list ds) := da_lst h (k1 G)
  have e2 : dat G 60 (.ref m) = some (.list []) := da_lst h' rfl
  have q : neOp G (.ref n) (.ref m) = (match dat G 60 (.ref n), dat G 60 (.ref m) with
    | some d, some e => if SeqAt.shaped d && SeqAt.shaped e then .ok (.bl (!PyData.eqv d e)) G else .no
    | _, _ => .no) := rfl
  rw [q, e1, e2]
  have s1 : SeqAt.shaped (.list ds) = true := by
    simp only [SeqAt.shaped, PyData.canLay0, PyData.depth, k3, Bool.true_and, decide_eq_true_eq]; exact decide_eq_true (by omega)
  have s2 : SeqAt.shaped (.list []) = true := by decide
  simp only [s1, s2, Bool.and_self, if_true]
  cases ws with
  | nil => obtain rfl : ds = [] := List.length_eq_zero_iff.mp k2; simp [PyData.eqv, PyData.eqvAll]
  | cons w ws =>
    cases ds with
    | nil => simp at k2
    | cons d ds => simp [PyData.eqv, PyData.eqvAll]
theorem dt_int (i : Int) : Dt (.int i) := ⟨.int i, fun _ => rfl, rfl, Nat.zero_le _⟩
theorem er_perm' {l : List W} : ∀ {k : Nat} (h : k < l.length), (l[k] :: l.eraseIdx k).Perm l := by
  induction l with
  | nil => intro k h; simp at h
  | cons y l ih =>
    intro k h
    cases k with
    | zero => exact List.Perm.refl _
    | succ k =>
      rw [List.getElem_cons_succ, List.eraseIdx_cons_succ]
      exact (List.Perm.swap ..).trans ((ih (by simpa using h)).cons y)
theorem pop_at {G : Cells} {n k : Nat} {xs : List W} (h : G[n]? = some (.lst xs)) (hk : k < xs.length) (hl : xs.length ≤ 100000) : popW G (.ref n) [.int (k : Int)] = .ok xs[k] (G.set n (.lst (xs.eraseIdx k))) := by
  have hs : seqIndex? (k : Int) xs.length = some k := by
    unfold seqIndex?
    simp only [show ¬ ((k : Int) < 0) from by omega, if_false]
    rw [if_pos (by simp; omega)]; simp
  unfold popW
  simp only [h]
  rw [if_pos ⟨by omega, by omega⟩]
  simp only [hs, List.getElem?_eq_getElem hk]
theorem list_of {G : Cells} {n : Nat} {xs : List W} (h : G[n]? = some (.lst xs)) : listW G [.ref n] = .ok (.ref G.length) (G ++ [.lst xs]) := by unfold listW rdS; simp only [rdL_lst h]
end PL
namespace PL
open PySem PySem.Spec PyProof.Rows L2
section
variable {b : Bs} {S : List Nat} {Γ Γ' Γ1 : TEnv} {R R' : RT} {N N' : Nat → PEnv → Cells → Prop} {c c' c1 c2 : Nat} {T T' U V : Tp W} {D D' : Tp Cell} {C C' : Tp (List W)}
/-! ### handy forms -/
abbrev tInt (lo hi : Int) : Tp W := tI fun i => lo ≤ i ∧ i ≤ hi
theorem tI_in {i lo hi : Int} (h : lo ≤ i) (k : i ≤ hi) : Tle (tEq (.int i)) (tInt lo hi) := tI_c ⟨h, k⟩
theorem tRef_le (h : Tle D D') : Tle (tRef D) (tRef D') := fun S G w ⟨n, x, e, hn, hg, q⟩ => ⟨n, x, e, hn, hg, h _ _ _ q⟩
theorem dL_le (h : Tle C C') : Tle (dL C) (dL C') := fun S G w ⟨n, e, q⟩ => ⟨n, e, h _ _ _ q⟩
theorem tTup_le (h : Tle C C') : Tle (tTup C) (tTup C') := fun S G w ⟨n, e, q⟩ => ⟨n, e, h _ _ _ q⟩
theorem cAll_le {a z a' z' : Nat} (h : Tle T U) (h1 : a' ≤ a) (h2 : z ≤ z') : Tle (cAll T a z) (cAll U a' z') := fun S G ws q => ⟨Nat.le_trans h1 q.1, Nat.le_trans q.2.1 h2, fun w hw => h _ _ _ (q.2.2 w hw)⟩
theorem cAll_ex {α : Type} {p : α → Prop} {f : α → W} {a z : Nat} : Tle (cAll (tXp p fun x => tEq (f x)) a z) (tXp (fun xs : List α => (∀ x ∈ xs, p x) ∧ a ≤ xs.length ∧ xs.length ≤ z) fun xs => tEq (xs.map f)) := fun S G ws q => by
  obtain ⟨q1, q2, q3⟩ := q
  have key : ∀ ws : List W, (∀ w ∈ ws, (tXp p fun x => tEq (f x)).P S G w) → ∃ xs : List α, (∀ x ∈ xs, p x) ∧ ws = xs.map f := by
    intro ws
    induction ws with
    | nil => intro _; exact ⟨[], by simp, rfl⟩
    | cons w ws ih =>
      intro h
      obtain ⟨xs, h1, rfl⟩ := ih fun y hy => h y (by simp [hy])
      obtain ⟨x, hx, rfl⟩ := h w (by simp)
      exact ⟨x :: xs, by simp [hx]; exact h1, rfl⟩
  obtain ⟨xs, h1, rfl⟩ := key ws q3
  exact ⟨xs, ⟨h1, by simpa using q1, by simpa using q2⟩, rfl⟩
/-- what a slot's list is, by name -/
theorem es_openL {α : Type} {i : Nat} {p : α → Prop} {A : α → Tp (List W)} {m : MS} (hs : Γ[i]? = some (.own (dL (tXp p A)))) (k : ∀ x, p x → Es b (Γ.set i (.own (dL (A x)))) m N R c) : Es b Γ m N R c := fun n S E G hn e => by
  obtain ⟨j, y, he, hc, ws, rfl, x, hx, q⟩ := e.sl i _ hs
  refine k x hx n S E G hn ?_
  have := e.write (D' := dL (A x)) hs he ⟨ws, rfl, q⟩
  rwa [getElem?_set_self' hc rfl] at this
theorem es_openT {α : Type} {i : Nat} {p : α → Prop} {A : α → Tp (List W)} {m : MS} (hs : Γ[i]? = some (.ty (tLs (tXp p A)))) (k : ∀ x, p x → Es b (Γ.set i (.ty (tLs (A x)))) m N R c) : Es b Γ m N R c := fun n S E G hn e => by
  obtain ⟨w, he, j, y, e1, hj, hg, ws, e2, x, hx, q⟩ := e.sl i _ hs
  have := e.setTy (i := i) (T := tLs (A x)) (w := w) (List.getElem?_eq_some_iff.mp hs).1 ⟨j, y, e1, hj, hg, ws, e2, q⟩
  rw [getElem?_set_self' he rfl] at this
  exact k x hx n S E G hn this
/-- a comprehension whose items are all of a sort -/
theorem ev_lcU {mi : MI} {g : MG} {m : ME} {vs : List Nat} {lo M : Nat} (hi : Ei b Γ mi C c1) (hp : ∀ S G xs, C.P S G xs → lo ≤ xs.length ∧ xs.length ≤ M) (hM : M ≤ 100000) (he : ∀ S G xs w, C.P S G xs → w ∈ xs → T.P S G w)
    (hg : Eg b (wipeG Γ vs) g T Γ1) (hm : Ev b Γ1 m (.val U) c2) : Ev b Γ (mLcI mi g mYes m vs) (.new (dL (cAll U lo M))) (c1 + M * (0 + c2)) :=
  ev_lc (p := fun xs => lo ≤ xs.length ∧ xs.length ≤ M) M (fun _ i => ⟨fun S G acc => acc.length = i ∧ ∀ w ∈ acc, U.P S G w, fun f h => ⟨h.1, fun w q => U.mono f (h.2 w q)⟩, fun f h => ⟨h.1, fun w q => U.sub f (h.2 w q)⟩, fun f h => ⟨h.1, fun w q => U.wid f (h.2 w q)⟩⟩)
    (fun _ _ _ => T) (fun _ _ _ => U) hi (fun S G xs q => ⟨hp S G xs q, (hp S G xs q).2⟩) hM (fun S G xs i w q hw => he S G xs w q (List.mem_of_getElem? hw)) (fun S G xs _ => ⟨rfl, by simp⟩)
    (fun xs i w _ hw => ⟨Γ1, True, False, hg, et_yes, fun _ => ⟨hm, fun S G acc y h1 h2 => ⟨by simp [h1.1], fun x hx => by
      rcases List.mem_append.mp hx with hx | hx
      · exact h1.2 x hx
      · rw [List.mem_singleton.mp hx]; exact h2⟩⟩, fun h => h.elim⟩)
    (fun S G xs acc h1 h2 h3 => ⟨by rw [h3.1]; exact h1.1, by rw [h3.1]; exact h1.2, h3.2⟩)
/-- the same with a test of any outcome -/
theorem ev_lcF {mi : MI} {g : MG} {t : MT} {m : ME} {vs : List Nat} {M : Nat} {p q : Prop} (hi : Ei b Γ mi C c1) (hp : ∀ S G xs, C.P S G xs → xs.length ≤ M) (hM : M ≤ 100000) (he : ∀ S G xs w, C.P S G xs → w ∈ xs → T.P S G w)
    (hg : Eg b (wipeG Γ vs) g T Γ1) (ht : Et b Γ1 t p q c') (hm : p → Ev b Γ1 m (.val U) c2) : Ev b Γ (mLcI mi g t m vs) (.new (dL (cAll U 0 M))) (c1 + M * (c' + c2)) :=
  ev_lc (p := fun xs => xs.length ≤ M) M (fun _ i => ⟨fun S G acc => ∀ w ∈ acc, U.P S G w, fun f h w q => U.mono f (h w q), fun f h w q => U.sub f (h w q), fun f h w q => U.wid f (h w q)⟩)
    (fun _ _ _ => T) (fun _ _ _ => U) hi (fun S G xs q => ⟨hp S G xs q, hp S G xs q⟩) hM (fun S G xs i w q hw => he S G xs w q (List.mem_of_getElem? hw)) (fun S G xs _ => by simp [tBx])
    (fun xs i w _ hw => ⟨Γ1, p, q, hg, ht, fun z => ⟨hm z, fun S G acc y h1 h2 x hx => by
      rcases List.mem_append.mp hx with hx | hx
      · exact h1 x hx
      · rw [List.mem_singleton.mp hx]; exact h2⟩, fun _ _ _ _ h => h⟩)
    (fun S G xs acc h1 h2 h3 => ⟨Nat.zero_le _, Nat.le_trans h2 h1, h3⟩)
end
end PL
namespace PL
open PySem PySem.Spec PyProof.Rows L2
section
variable {b : Bs} {Γ Γ' Γ1 : TEnv} {R R' : RT} {N N' : Nat → PEnv → Cells → Prop} {c c' c1 c2 : Nat} {T T' U V : Tp W} {C C' : Tp (List W)}
theorem ev_tupN {m : MA} {Ts : List (Tp W)} (h : Ea b Γ m (cN Ts) c) (hl : Ts.length ≤ 100000 := by simp) : Ev b Γ (mTup m) (.val (tTup (cN Ts))) c := ev_tup h fun S G ws q => by rw [All2.len q]; exact hl
/-- the enumeration of an exact list -/
theorem cEn_eq {ys : List W} : Tle (cEn (tEq ys)) (tEq (enW ys)) := fun S G xs ⟨zs, e, q⟩ => by
  obtain rfl : zs = ys := q
  exact e
/-- a pair that is known -/
theorem tPair {x y : W} : Tle (tEq (.tup [x, y])) (tTup (cN [tEq x, tEq y])) := fun S G w e => ⟨[x, y], e, rfl, rfl, trivial⟩
theorem es_ifN {t : MT} {m m2 : MS} {p q : Prop} {c3 : Nat} (Γ1 : TEnv) (h : Et b Γ t p q c1) (k : p → Es b Γ m (EE b Γ1) R c2) (l : q → EnvLe Γ Γ1) (z : Es b Γ1 m2 N R c3) : Es b Γ (sSeq (sIf t m sNext) m2) N R (c1 + (c2 + 0) + c3) := es_ifE Γ1 h k (fun y => es_nxL (l y)) z
end
end PL
namespace PL
open PySem PySem.Spec PyProof.Rows L2
section
variable {b : Bs} {Γ Γ' Γ1 : TEnv} {R R' : RT} {N N' : Nat → PEnv → Cells → Prop} {c c' c1 c2 : Nat} {T T' U V : Tp W} {C C' : Tp (List W)}
/-! ### lists, put together -/
/-- a list that is written on the spot -/
theorem ev_one {m : MA} {ws : List W} (h : Ea b Γ m (tEq ws) c) (hl : ws.length ≤ 1000 := by simp) : Ev b Γ (mLst m) (.new (dL (tEq ws))) c := ev_lst h fun S G xs q => by rw [show xs = _ from q]; omega
theorem ev_addE {m m' : ME} {xs ys : List W} (h : Er b Γ m (dL (tEq xs)) c1) (hk : Er b Γ m' (dL (tEq ys)) c2) (hl : xs.length + ys.length ≤ 100000) : Ev b Γ (mBin addW m m') (.new (dL (tEq (xs ++ ys)))) (c1 + c2) :=
  ev_addL h hk (fun S G ws us e1 e2 => by rw [show ws = _ from e1, show us = _ from e2]; exact hl) fun S G ws us e1 e2 => by rw [show ws = _ from e1, show us = _ from e2]; rfl
theorem ev_addA {m m' : ME} {n1 m1 n2 m2 : Nat} (h : Er b Γ m (dL (cAll T n1 m1)) c1) (hk : Er b Γ m' (dL (cAll T n2 m2)) c2) (hl : m1 + m2 ≤ 100000 := by decide) : Ev b Γ (mBin addW m m') (.new (dL (cAll T (n1 + n2) (m1 + m2)))) (c1 + c2) :=
  ev_addL h hk (fun S G ws us e1 e2 => by have := e1.2.1; have := e2.2.1; omega) fun S G ws us e1 e2 => ⟨by have := e1.1; have := e2.1; simp; omega, by have := e1.2.1; have := e2.2.1; simp; omega, fun w hw => by
    rcases List.mem_append.mp hw with hw | hw
    · exact e1.2.2 w hw
    · exact e2.2.2 w hw⟩
/-- a list so many times -/
theorem ev_rep {m m' : ME} {n : Nat} {k : Int} (h : Er b Γ m (dL (cAll T n n)) c1) (hk : Ev b Γ m' (.val (tI fun i => 0 ≤ i ∧ i ≤ k)) c2) (hl : n * k.toNat ≤ 100000 := by decide) (hk2 : k ≤ 1000 := by decide) : Ev b Γ (mBin mulW m m') (.new (dL (cAll T 0 (n * k.toNat)))) (c1 + c2) :=
  ev_binR h hk fun S G j x y hg ⟨ws, e, q1, q2, q3⟩ ⟨i, hi, e'⟩ => by
    subst e e'
    have hlen : ws.length = n := by omega
    have hi2 : ws.length * i.toNat ≤ n * k.toNat := by rw [hlen]; exact Nat.mul_le_mul_left _ (by omega)
    have em : mulW G (.ref j) (.int i) = .ok (.ref G.length) (G ++ [.lst (List.replicate i.toNat ws).flatten]) := by
      unfold mulW
      simp only [hg]
      rw [if_pos]
      simp only [Bool.and_eq_true, decide_eq_true_eq]
      exact ⟨⟨by omega, by omega⟩, Nat.le_of_lt (big_le (Nat.le_trans hi2 hl))⟩
    rw [em]
    refine ⟨Fr.push, G.length, _, rfl, Nat.le_refl _, push_get _ _, _, rfl, Nat.zero_le _, ?_, fun w hw => ?_⟩
    · have : (List.replicate i.toNat ws).flatten.length = i.toNat * ws.length := by simp
      rw [this, Nat.mul_comm]; exact hi2
    · obtain ⟨l, hl', hw'⟩ := List.mem_flatten.mp hw
      have hl2 := List.eq_of_mem_replicate hl'
      rw [hl2] at hw'
      exact T.mono Fr.push (T.wid (Nat.le_refl _) (q3 w hw'))
theorem ev_intB {m : ME} (h : Ev b Γ m (.val tBl) c) : Ev b Γ (mCall intW (mCons m mNil)) (.val (tI fun i => 0 ≤ i ∧ i ≤ 1)) (c + 0) :=
  ev_callT (C := cN [tBl]) (ea_cons h ea_nil) fun S G ws q => by
    match ws, q with
    | [x], q =>
      obtain ⟨⟨y, rfl⟩, _⟩ := q
      cases y <;> exact ⟨Fr.refl, _, by decide, rfl⟩
theorem ev_eqB {m m' : ME} {p q : Int → Prop} (h : Ev b Γ m (.val (tI p)) c1) (h' : Ev b Γ m' (.val (tI q)) c2) : Ev b Γ (mBin eqOp m m') (.val tBl) (c1 + c2) :=
  ev_binT h h' fun S G x y hx hy => by
    obtain ⟨i, hi, rfl⟩ := hx
    obtain ⟨j, hj, rfl⟩ := hy
    rw [eqOp_int]; exact ⟨Fr.refl, _, rfl⟩
/-- the first so many of a list -/
theorem ev_cutTo {m m' : ME} {n1 n2 : Nat} (h : Er b Γ m (dL (cAll T n1 n2)) c1) (hk : Ev b Γ m' (.val (tI fun i => 0 ≤ i)) c2) : Ev b Γ (mCut m mNoPart (mPart m')) (.new (dL (cAll T 0 n2))) (c1 + c2) := fun n S E G hn e => by
  rw [s_cut]
  refine (h n S E G (by omega) e).mono fun w G1 q => ?_
  obtain ⟨i1, f1, k, x, rfl, hc, ⟨ws, rfl, q1, q2, q3⟩, n0⟩ := q
  rw [s_nopart, s_part]
  refine (hk _ S E G1 (by omega) (e.mv i1 f1)).mono fun y G2 q => ?_
  obtain ⟨i2, f2, i, hi, rfl⟩ := q
  obtain ⟨i, rfl⟩ := Int.eq_ofNat_of_zero_le hi
  have hc2 := f2.get hc n0
  refine ⟨_, rfl, ?_⟩
  rw [e_cutL hc2, cut_to]
  refine ⟨b.I.up (by omega) (b.I.nil Fr.push i2), (f1.trans f2).trans Fr.push, G2.length, _, rfl, by have := f1.1; have := f2.1; omega, push_get _ _, _, rfl, Nat.zero_le _, by rw [List.length_take]; omega, fun w hw => ?_⟩
  exact T.mono Fr.push (T.wid (Nat.le_refl _) (T.mono (f2.sub e.s0) (q3 w (List.mem_of_mem_take hw))))
theorem et_gtI {m m' : ME} {i j : Int} (h : Ev b Γ m (.val (tEq (.int i))) c1) (h' : Ev b Γ m' (.val (tEq (.int j))) c2) : Et b Γ (mTest (mBin gtW m m')) (j < i) (¬ j < i) (c1 + c2) := et_le (et_test (ev_bin h h' fun G => e_gt G i j)) of_decide_eq_true of_decide_eq_false
theorem et_ltI {m m' : ME} {i j : Int} (h : Ev b Γ m (.val (tEq (.int i))) c1) (h' : Ev b Γ m' (.val (tEq (.int j))) c2) : Et b Γ (mTest (mBin ltW m m')) (i < j) (¬ i < j) (c1 + c2) := et_le (et_test (ev_bin h h' fun G => e_lt G i j)) of_decide_eq_true of_decide_eq_false
theorem et_eqI {m m' : ME} {i j : Int} (h : Ev b Γ m (.val (tEq (.int i))) c1) (h' : Ev b Γ m' (.val (tEq (.int j))) c2) : Et b Γ (mTest (mBin eqOp m m')) (i = j) (¬ i = j) (c1 + c2) := et_le (et_test (ev_bin h h' fun G => eqOp_int i j)) of_decide_eq_true of_decide_eq_false
end
end PL
namespace PL
open PySem PySem.Spec PyProof.Rows L2
section
variable {b : Bs} {k0 : Nat} {S : List Nat} {Γ : TEnv} {E : PEnv} {G : Cells}
/-- a cell that is kept from others, and no slot's own, is written -/
theorem EOk.writeFree (h : EOk b k0 S Γ E G) {n : Nat} {c : Cell} (hn : n ∈ S) (h0 : b.G0.length ≤ n) (hne : ∀ (i : Nat) (D : Tp Cell), Γ[i]? = some (.own D) → E[i]? ≠ some (some (.ref n))) : EOk b k0 S Γ E (G.set n c) := by
  have f : Fr S G (G.set n c) := Fr.set hn
  refine ⟨b.I.keep (by simp) (fun k hk => get_set_ne (by have := h.dm k hk; omega)) h.inv, h.fr.fresh (n := n) h0 (Fr.set (by simp)), h.s0p, h.sp, fun k hk => (h.sb k hk).imp id fun q => ⟨q.1, by simpa using q.2⟩, h.dm, b.gh.mono f h.gh, fun j s hj => (h.sl j s hj).mv f fun D m e1 e2 => ?_, h.own, h.dist⟩
  subst e1
  refine get_set_ne fun e => ?_
  subst e
  exact hne j D hj e2
/-- such a cell changes, and the sampler's -/
theorem EOk.frame {k1 : Nat} {G' : Cells} (h : EOk b k0 S Γ E G) {n : Nat} (hn : n ∈ S) (h0 : b.G0.length ≤ n) (hne : ∀ (i : Nat) (D : Tp Cell), Γ[i]? = some (.own D) → E[i]? ≠ some (some (.ref n))) (hi : b.I.P k1 G') (f : Fr (n :: b.S0) G G') : EOk b k1 S Γ E G' := by
  have fS : Fr S G G' := f.sub fun j hj => by
    rcases List.mem_cons.mp hj with rfl | hj
    · exact hn
    · exact h.s0 j hj
  refine ⟨hi, ⟨Nat.le_trans h.fr.1 f.1, fun m hm hm0 => ?_⟩, h.s0p, h.sp, fun m hm => (h.sb m hm).imp id fun q => ⟨q.1, Nat.lt_of_lt_of_le q.2 f.1⟩, h.dm, b.gh.mono fS h.gh, fun j s hj => (h.sl j s hj).mv fS fun D m e1 e2 => ?_, h.own, h.dist⟩
  · rw [f.2 m (Nat.lt_of_lt_of_le hm h.fr.1) (by simp only [List.mem_cons, not_or]; exact ⟨by omega, hm0⟩)]
    exact h.fr.2 m hm hm0
  · subst e1
    have q := h.own j D m hj e2
    refine f.2 m (h.slt m q.1) ?_
    simp only [List.mem_cons, not_or]
    exact ⟨fun e => hne j D hj (e ▸ e2), h.n0 q.2⟩
/-- it is kept no longer -/
theorem EOk.free (h : EOk b k0 S Γ E G) {n : Nat} (h0 : b.G0.length ≤ n) (hne : ∀ (i : Nat) (D : Tp Cell), Γ[i]? = some (.own D) → E[i]? ≠ some (some (.ref n))) : EOk b k0 (S.filter fun k => decide (k ≠ n)) Γ E G := by
  have hsub : ∀ k ∈ S.filter (fun k => decide (k ≠ n)), k ∈ S := fun k hk => (List.mem_filter.mp hk).1
  refine ⟨h.inv, h.fr, h.s0p, fun k hk => ⟨List.mem_filter.mpr ⟨(h.sp k hk).1, ?_⟩, (h.sp k hk).2⟩, fun k hk => h.sb k (hsub k hk), h.dm, b.gh.sub hsub h.gh, fun j s hj => ?_, fun j D1 m hj hm => ?_, h.dist⟩
  · have := (h.sp k hk).2
    simp only [decide_eq_true_eq]; omega
  · have := h.sl j s hj
    cases s with
    | no => exact this
    | ty T => obtain ⟨w, e, q⟩ := this; exact ⟨w, e, T.sub hsub q⟩
    | own D => obtain ⟨m, c, e, g, q⟩ := this; exact ⟨m, c, e, g, D.sub hsub q⟩
  · have q := h.own j D1 m hj hm
    refine ⟨List.mem_filter.mpr ⟨q.1, ?_⟩, q.2⟩
    simp only [decide_eq_true_eq]
    intro e; subst e
    exact hne j D1 hj hm
end
end PL
namespace PL
open PySem PySem.Spec PyProof.Rows L2
/-! ### functions that ask no sampler: by what they tell -/
abbrev nilB (Sp : List Nat) (G0 : Cells) (gh : Tp Unit) : Bs := ⟨sNil, Sp, G0, gh⟩
theorem fn_sat1 {F : PF} {a z : W} (h : ∀ G, (F [a] G).sat fun w G' => w = z ∧ Fr [] G G') : Fn sNil F (cN [tEq a]) (.val (tEq z)) 0 := fun n Sp G ws _ _ _ _ hw => by
  match ws, hw with
  | [x], hw => obtain rfl : x = a := hw.1; exact (h G).mono fun w G' q => ⟨trivial, q.2, q.1⟩
theorem fn_sat2 {F : PF} {a b z : W} (h : ∀ G, (F [a, b] G).sat fun w G' => w = z ∧ Fr [] G G') : Fn sNil F (cN [tEq a, tEq b]) (.val (tEq z)) 0 := fun n Sp G ws _ _ _ _ hw => by
  match ws, hw with
  | [x, y], hw => obtain rfl : x = a := hw.1; obtain rfl : y = b := hw.2.1; exact (h G).mono fun w G' q => ⟨trivial, q.2, q.1⟩
theorem fn_sat3 {F : PF} {a b c z : W} (h : ∀ G, (F [a, b, c] G).sat fun w G' => w = z ∧ Fr [] G G') : Fn sNil F (cN [tEq a, tEq b, tEq c]) (.val (tEq z)) 0 := fun n Sp G ws _ _ _ _ hw => by
  match ws, hw with
  | [x, y, u], hw => obtain rfl : x = a := hw.1; obtain rfl : y = b := hw.2.1; obtain rfl : u = c := hw.2.2.1; exact (h G).mono fun w G' q => ⟨trivial, q.2, q.1⟩
/-- one that tells a new list -/
theorem fn_new1 {F : PF} {a : W} {xs : List W} (h : ∀ G, (F [a] G).sat fun w G' => ∃ n, w = .ref n ∧ G.length ≤ n ∧ G'[n]? = some (.lst xs) ∧ Fr [] G G') : Fn sNil F (cN [tEq a]) (.new (dL (tEq xs))) 0 := fun n Sp G ws _ _ _ _ hw => by
  match ws, hw with
  | [x], hw =>
    obtain rfl : x = a := hw.1
    refine (h G).mono fun w G' q => ?_
    obtain ⟨k, e, hk, hg, f⟩ := q
    exact ⟨trivial, f, k, _, e, hk, hg, _, rfl, rfl⟩
theorem ev_lc2 {Sp : List Nat} {G0 : Cells} {gh : Tp Unit} {Γ : TEnv} {mi mi1 : MI} {g g1 : MG} {t t1 : MT} {m : ME} {vs vs1 : List Nat} (xs : List W) (ys : W → List W) (f : W → W → Option W)
    (hi : Ei (nilB Sp G0 gh) Γ mi (tEq xs) 0) (hx : xs.length ≤ 300) (hy : ∀ x, (ys x).length ≤ 300)
    (hs : ∀ w ∈ xs, ∃ Γ1, (∀ (i : Nat) (D : Tp Cell), Γ1[i]? ≠ some (.own D)) ∧ Eg (nilB Sp G0 gh) (wipeG Γ vs) g (tEq w) Γ1 ∧ ((Et (nilB Sp G0 gh) Γ1 t True False 0 ∧ Ei (nilB Sp G0 gh) Γ1 mi1 (tEq (ys w)) 0 ∧ ∀ u ∈ ys w, ∃ Γ2 p q, Eg (nilB Sp G0 gh) (wipeG Γ1 vs1) g1 (tEq u) Γ2 ∧ Et (nilB Sp G0 gh) Γ2 t1 p q 0 ∧ (p → ∃ y, f w u = some y ∧ Ev (nilB Sp G0 gh) Γ2 m (.val (tEq y)) 0) ∧ (q → f w u = none)) ∨ (Et (nilB Sp G0 gh) Γ1 t False True 0 ∧ ys w = []))) :
    Ev (nilB Sp G0 gh) Γ (mLc2 mi g t mi1 g1 t1 m vs vs1) (.new (dL (tEq (xs.flatMap fun x => (ys x).filterMap (f x))))) 0 := fun n S E G hn e => by
  have hn0 : n = 0 := by have : n + 0 ≤ 0 := hn; omega
  subst hn0
  refine lc2_pure xs ys f ((hi 0 S E G hn e).mono fun pit G1 q => ?_) hx hy ?_ fun k G' fr hk hg => ⟨trivial, fr, k, _, rfl, hk, hg, _, rfl, rfl⟩
  · obtain ⟨_, fr, zs, it, hz⟩ := q
    obtain rfl : zs = xs := hz
    exact ⟨fr, ⟨it.len, fun G' i f => it.at' G' i f.of_nil⟩⟩
  · intro i k w G' hw hk hl fr
    have e1 : EOk (nilB Sp G0 gh) 0 (k :: S) Γ E G' := e.wid hk trivial fr hl
    obtain ⟨Γ1, hno, hg, hor⟩ := hs w (List.mem_of_getElem? hw)
    refine (hg _ _ _ _ w (e1.wipe vs) rfl).mono fun E1 G2 y => ?_
    obtain ⟨rfl, e2⟩ := y
    rcases hor with ⟨ht, hi1, hin⟩ | ⟨ht, hnil⟩
    · refine (ht 0 _ _ _ (Nat.le_refl _) e2).mono fun b G3 y => ?_
      obtain ⟨_, f3, y1, y2⟩ := y
      cases b with
      | false => exact (y2 rfl).elim
      | true =>
        rw [if_pos rfl]
        refine (hi1 0 _ _ _ (Nat.le_refl _) (e2.mv trivial f3)).mono fun pit G4 y => ?_
        obtain ⟨_, f4, zs, it, hz⟩ := y
        obtain rfl : zs = ys w := hz
        refine ⟨f3.trans f4, ⟨it.len, fun G' i f => it.at' G' i (f.sub fun j hj => by simp at hj; simp [hj])⟩, fun j u G5 hu f5 f05 => ?_⟩
        obtain ⟨Γ2, p, q, hg1, ht1, hp, hq⟩ := hin u (List.mem_of_getElem? hu)
        have e3 : EOk (nilB Sp G0 gh) 0 (k :: S) Γ1 E1 G5 := EOk.frame (k0 := 0) (e2.mv (k1 := 0) trivial (f3.trans f4)) (n := k) (k1 := 0) (by simp) (Nat.le_trans e.fr.1 hk) (fun i D z1 z2 => absurd z1 (hno i D)) trivial f5
        · refine (hg1 _ _ _ _ u (e3.wipe vs1) rfl).mono fun E2 G6 y => ?_
          obtain ⟨rfl, e4⟩ := y
          refine (ht1 0 _ _ _ (Nat.le_refl _) e4).mono fun b G7 y => ?_
          obtain ⟨_, f7, y1, y2⟩ := y
          cases b with
          | true =>
            rw [if_pos rfl]
            obtain ⟨y, hy1, hy2⟩ := hp (y1 rfl)
            refine (hy2 0 _ _ _ (Nat.le_refl _) (e4.mv trivial f7)).mono fun w G8 z => ?_
            obtain ⟨_, f8, rfl⟩ := z
            exact ⟨hy1, f7.trans f8⟩
          | false =>
            simp only [Bool.false_eq_true, if_false]
            exact ⟨hq (y2 rfl), f7⟩
    · refine (ht 0 _ _ _ (Nat.le_refl _) e2).mono fun b G3 y => ?_
      obtain ⟨_, f3, y1, y2⟩ := y
      cases b with
      | true => exact (y1 rfl).elim
      | false => simp only [Bool.false_eq_true, if_false]; exact ⟨hnil, f3⟩
end PL
namespace PL
open PySem PySem.Spec PyProof.Rows L2
section
variable {b : Bs} {Γ Γ' Γ1 : TEnv} {R R' : RT} {N N' : Nat → PEnv → Cells → Prop} {c c' c1 c2 : Nat} {T T' U V : Tp W} {C C' : Tp (List W)}
/-! ### a tuple or a list -/
abbrev tSeq (ws : List W) : Tp W := tOr (tEq (.tup ws)) (tLs (tEq ws))
theorem seq_t {ws : List W} : Tle (tEq (.tup ws)) (tSeq ws) := fun _ _ _ h => .inl h
theorem seq_l {ws : List W} : Tle (tLs (tEq ws)) (tSeq ws) := fun _ _ _ h => .inr h
theorem ev_getS {m m' : ME} {ws : List W} {i : Nat} {w : W} (h : Ev b Γ m (.val (tSeq ws)) c1) (hk : Ev b Γ m' (.val (tEq (.int (i : Int)))) c2) (hw : ws[i]? = some w) : Ev b Γ (mBin getW m m') (.val (tEq w)) (c1 + c2) :=
  ev_binT h hk fun S G x y hx hy => by
    obtain rfl : y = .int (i : Int) := hy
    rcases hx with hx | ⟨n, z, rfl, _, hg, us, rfl, hu⟩
    · obtain rfl : x = .tup ws := hx
      rw [e_getT (w := w) (by simpa using hw) (by omega)]; exact ⟨Fr.refl, rfl⟩
    · obtain rfl : us = ws := hu
      rw [e_getL hg (w := w) (by simpa using hw) (by omega)]; exact ⟨Fr.refl, rfl⟩
theorem ei_enS {m : ME} {ws : List W} (h : Ev b Γ m (.val (tSeq ws)) c) : Ei b Γ (mEnum (mCons m mNil)) (tEq (enW ws)) c := fun n S E G hn e => by
  rw [s_enum]
  refine (h n S E G hn e).mono fun w G1 q => ?_
  obtain ⟨i, f, hx⟩ := q
  rcases hx with hx | ⟨k, z, rfl, hk, hg, us, rfl, hu⟩
  · exact .inr ⟨ws, hx, i, f, _, it_enT _ _ _, rfl⟩
  · obtain rfl : us = ws := hu
    exact .inl ⟨k, rfl, by rw [rdL_lst hg]; rfl, i, f, _, it_enL hg hk, rfl⟩
theorem ei_seqS {m : ME} {ws : List W} (h : Ev b Γ m (.val (tSeq ws)) c) : Ei b Γ (mSeq m) (tEq ws) c := fun n S E G hn e => by
  rw [s_seq]
  refine (h n S E G hn e).mono fun w G1 q => ?_
  obtain ⟨i, f, hx⟩ := q
  rcases hx with hx | ⟨k, z, rfl, hk, hg, us, rfl, hu⟩
  · obtain rfl : w = .tup ws := hx
    rw [i_tup]; exact ⟨i, f, ws, it_tup _ _ _, rfl⟩
  · obtain rfl : us = ws := hu
    rw [i_lst hg]; exact ⟨i, f, us, it_lst hg hk, rfl⟩
theorem ev_lenS {m : ME} {ws : List W} (h : Ev b Γ m (.val (tSeq ws)) c) : Ev b Γ (mCall lenW (mCons m mNil)) (.val (tEq (.int (ws.length : Int)))) (c + 0) :=
  ev_callT (C := cN [tSeq ws]) (ea_cons h ea_nil) fun S G xs q => by
    match xs, q with
    | [x], q =>
      rcases q.1 with hx | ⟨n, z, rfl, _, hg, us, rfl, hu⟩
      · obtain rfl : x = .tup ws := hx; exact ⟨Fr.refl, rfl⟩
      · obtain rfl : us = ws := hu; rw [e_lenL hg]; exact ⟨Fr.refl, rfl⟩
/-! ### comprehensions item by item -/
theorem All2.snoc {S : List Nat} {G : Cells} {T : Tp W} {w : W} (h : T.P S G w) : ∀ {Ts : List (Tp W)} {ws : List W}, All2 S G Ts ws → All2 S G (Ts ++ [T]) (ws ++ [w])
  | [], [], _ => ⟨h, trivial⟩
  | U :: Ts, x :: ws, q => ⟨q.1, All2.snoc h q.2⟩
  | [], _ :: _, q => q.elim
  | _ :: _, [], q => q.elim
theorem ev_lcN {mi : MI} {g : MG} {m : ME} {vs : List Nat} (M : Nat) (xs : List W) (Ts : List (Tp W)) (hl : Ts.length = xs.length) (hi : Ei b Γ mi (tEq xs) c1) (hx : xs.length ≤ M) (hM : M ≤ 100000)
    (hs : ∀ (i : Nat) w T, xs[i]? = some w → Ts[i]? = some T → ∃ Γ1, Eg b (wipeG Γ vs) g (tEq w) Γ1 ∧ Ev b Γ1 m (.val T) c2) : Ev b Γ (mLcI mi g mYes m vs) (.new (dL (cN Ts))) (c1 + M * (0 + c2)) :=
  ev_lc (p := fun ys => ys = xs) M (fun _ i => cN (Ts.take i)) (fun _ _ w => tEq w) (fun _ i _ => (Ts[i]?).getD tAny) hi (fun S G ys q => ⟨q, by rw [show ys = xs from q]; exact hx⟩) hM (fun _ _ _ _ _ _ _ => rfl) (fun S G ys _ => trivial)
    (fun ys i w hy hw => by
      subst hy
      have hlt := (List.getElem?_eq_some_iff.mp hw).1
      have hT : Ts[i]? = some Ts[i] := List.getElem?_eq_getElem (by omega)
      obtain ⟨Γ1, hg, hm⟩ := hs i w _ hw hT
      refine ⟨Γ1, True, False, hg, et_yes, fun _ => ⟨by rw [hT]; exact hm, fun S G acc y h1 h2 => ?_⟩, fun h => h.elim⟩
      rw [hT] at h2
      rw [show cN (Ts.take (i + 1)) = cN (Ts.take i ++ [Ts[i]]) from by rw [List.take_succ, hT]; rfl]
      exact All2.snoc h2 h1)
    (fun S G ys acc hy _ h => by subst hy; rw [← hl, List.take_length] at h; exact h)
/-- a comprehension over a list that is known, by a function -/
theorem ev_lcM {α : Type} {mi : MI} {g : MG} {m : ME} {vs : List Nat} (M : Nat) (xs : List α) (f : α → W) (h : α → W) (hi : Ei b Γ mi (tEq (xs.map f)) c1) (hx : xs.length ≤ M) (hM : M ≤ 100000)
    (hs : ∀ x ∈ xs, ∃ Γ1, Eg b (wipeG Γ vs) g (tEq (f x)) Γ1 ∧ Ev b Γ1 m (.val (tEq (h x))) c2) : Ev b Γ (mLcI mi g mYes m vs) (.new (dL (tEq (xs.map h)))) (c1 + M * (0 + c2)) :=
  ev_lc (p := fun ys => ys = xs.map f) M (fun _ i => tEq ((xs.take i).map h)) (fun _ _ w => tEq w) (fun _ i _ => tP fun y => ∃ x, xs[i]? = some x ∧ y = h x) hi (fun S G ys q => ⟨q, by rw [show ys = _ from q]; simpa using hx⟩) hM (fun _ _ _ _ _ _ _ => rfl) (fun S G ys _ => rfl)
    (fun ys i w hy hw => by
      subst hy
      obtain ⟨x, hx', rfl⟩ : ∃ x, xs[i]? = some x ∧ w = f x := by
        rw [List.getElem?_map] at hw
        obtain ⟨x, h1, h2⟩ := Option.map_eq_some_iff.mp hw
        exact ⟨x, h1, h2.symm⟩
      obtain ⟨Γ1, hg, hm⟩ := hs x (List.mem_of_getElem? hx')
      refine ⟨Γ1, True, False, hg, et_yes, fun _ => ⟨ev_le hm fun S G y e => ⟨x, hx', e⟩, fun S G acc y h1 h2 => ?_⟩, fun h => h.elim⟩
      obtain ⟨x', hx2, rfl⟩ := h2
      rw [hx'] at hx2; cases hx2
      rw [show acc = _ from h1]
      show (xs.take i).map h ++ [h x] = (xs.take (i + 1)).map h
      rw [List.take_succ, hx']; simp)
    (fun S G ys acc hy _ h => by subst hy; rw [List.length_map, List.take_length] at h; exact h)
/-- and with a test -/
theorem ev_lcFM {α : Type} {mi : MI} {g : MG} {t : MT} {m : ME} {vs : List Nat} (M : Nat) (xs : List α) (f : α → W) (h : α → Option W) (hi : Ei b Γ mi (tEq (xs.map f)) c1) (hx : xs.length ≤ M) (hM : M ≤ 100000)
    (hs : ∀ x ∈ xs, ∃ Γ1 p q, Eg b (wipeG Γ vs) g (tEq (f x)) Γ1 ∧ Et b Γ1 t p q c' ∧ (p → ∃ y, h x = some y ∧ Ev b Γ1 m (.val (tEq y)) c2) ∧ (q → h x = none)) : Ev b Γ (mLcI mi g t m vs) (.new (dL (tEq (xs.filterMap h)))) (c1 + M * (c' + c2)) :=
  ev_lc (p := fun ys => ys = xs.map f) M (fun _ i => tEq ((xs.take i).filterMap h)) (fun _ _ w => tEq w) (fun _ i _ => tP fun y => ∃ x, xs[i]? = some x ∧ h x = some y) hi (fun S G ys q => ⟨q, by rw [show ys = _ from q]; simpa using hx⟩) hM (fun _ _ _ _ _ _ _ => rfl) (fun S G ys _ => rfl)
    (fun ys i w hy hw => by
      subst hy
      obtain ⟨x, hx', rfl⟩ : ∃ x, xs[i]? = some x ∧ w = f x := by
        rw [List.getElem?_map] at hw
        obtain ⟨x, h1, h2⟩ := Option.map_eq_some_iff.mp hw
        exact ⟨x, h1, h2.symm⟩
      obtain ⟨Γ1, p, q, hg, ht, hp, hq⟩ := hs x (List.mem_of_getElem? hx')
      have et : (xs.take (i + 1)).filterMap h = (xs.take i).filterMap h ++ (h x).toList := by
        rw [List.take_succ, hx', List.filterMap_append]
        cases hh : h x <;> simp [hh]
      refine ⟨Γ1, p, q, hg, ht, fun hp' => ?_, fun hq' S G acc h1 => ?_⟩
      · obtain ⟨y, hy, hm⟩ := hp hp'
        refine ⟨ev_le hm fun S G z e => ⟨x, hx', by rw [hy, show z = y from e]⟩, fun S G acc z h1 h2 => ?_⟩
        obtain ⟨x', hx2, e⟩ := h2
        rw [hx'] at hx2; cases hx2
        rw [show acc = _ from h1]
        show (xs.take i).filterMap h ++ [z] = (xs.take (i + 1)).filterMap h
        rw [et, e]; rfl
      · rw [show acc = _ from h1]
        show (xs.take i).filterMap h = (xs.take (i + 1)).filterMap h
        rw [et, hq hq']; simp)
    (fun S G ys acc hy _ h => by subst hy; rw [List.length_map, List.take_length] at h; exact h)
/-- sorted of two ints -/
theorem sort2 (i j : Int) : [i, j].mergeSort leB = [min i j, max i j] := by
  refine (sort_is (ns := [i, j]) ?_ ?_).symm
  · by_cases h : i ≤ j
    · rw [Int.min_eq_left h, Int.max_eq_right h]
    · rw [Int.min_eq_right (by omega), Int.max_eq_left (by omega)]; exact .swap _ _ _
  · simp; omega
theorem ev_sort2 {m : ME} {i j : Int} (h : Ev b Γ m (.val (tEq (.tup [.int i, .int j]))) c) : Ev b Γ (mCall sortedTW (mCons m mNil)) (.new (dL (tEq [.int (min i j), .int (max i j)]))) (c + 0) :=
  ev_callT (C := cN [tEq (.tup [.int i, .int j])]) (ea_cons h ea_nil) fun S G ws q => by
    match ws, q with
    | [x], q =>
      obtain rfl : x = .tup [.int i, .int j] := q.1
      have : sortedTW G [.tup [.int i, .int j]] = .ok (.ref G.length) (G ++ [.lst ([i, j].mergeSort leB |>.map W.int)]) := by
        unfold sortedTW
        simp only [intsW, Option.map_some]
        rw [if_pos (by simp)]
      rw [this, sort2]
      exact ⟨Fr.push, G.length, _, rfl, Nat.le_refl _, push_get _ _, _, rfl, rfl⟩
end
end PL
namespace PL
open PySem PySem.Spec PyProof.Rows L2
section
variable {b : Bs} {Γ Γ' Γ1 : TEnv} {R R' : RT} {N N' : Nat → PEnv → Cells → Prop} {c c' c1 c2 c3 : Nat} {T T' U V : Tp W} {C C' : Tp (List W)}
theorem All2.get {S : List Nat} {G : Cells} : ∀ {Ts : List (Tp W)} {ws : List W} {i : Nat} {T : Tp W}, All2 S G Ts ws → Ts[i]? = some T → ∃ w, ws[i]? = some w ∧ T.P S G w
  | T :: Ts, w :: ws, 0, U, h, e => by simp at e; subst e; exact ⟨w, rfl, h.1⟩
  | T :: Ts, w :: ws, i + 1, U, h, e => by
    obtain ⟨v, h1, h2⟩ := All2.get (i := i) h.2 (by simpa using e)
    exact ⟨v, by simpa using h1, h2⟩
  | [], _, i, U, _, e => by simp at e
  | _ :: _, [], _, _, h, _ => h.elim
theorem ev_getN {m : ME} {Ts : List (Tp W)} {i : Nat} (h : Ev b Γ m (.val (tLs (cN Ts))) c) (hT : Ts[i]? = some T) : Ev b Γ (mBin getW m (mC (.int (i : Int)))) (.val T) (c + 0) :=
  ev_get (C := cN Ts) (p := (· = (i : Int))) (er_val h) (ev_le (ev_c _) (tI_c rfl)) fun S G ws j hw hj => by
    subst hj
    obtain ⟨w, h1, h2⟩ := All2.get hw hT
    exact ⟨by omega, w, by simpa using h1, h2⟩
theorem ev_getE {m : ME} {ws : List W} {i : Nat} {w : W} (h : Ev b Γ m (.val (tLs (tEq ws))) c) (hw : ws[i]? = some w) : Ev b Γ (mBin getW m (mC (.int (i : Int)))) (.val (tEq w)) (c + 0) := ev_getS (ev_le h seq_l) (ev_c _) hw
theorem ev_chain {m1 m2 m3 : ME} {g g' : GOp} {i j k : Int} {x y : Bool} (h1 : Ev b Γ m1 (.val (tEq (.int i))) c1) (h2 : Ev b Γ m2 (.val (tEq (.int j))) c2) (h3 : Ev b Γ m3 (.val (tEq (.int k))) c3) (hg : ∀ G, g G (.int i) (.int j) = .ok (.bl x) G) (hg' : ∀ G, g' G (.int j) (.int k) = .ok (.bl y) G) :
    Ev b Γ (mChain g g' m1 m2 m3) (.val (tEq (.bl (x && y)))) (c1 + c2 + c3) := fun n S E G hn e => by
  rw [s_chain]
  refine (h1 n S E G (by omega) e).mono fun w G1 q => ?_
  obtain ⟨i1, f1, rfl⟩ := q
  refine (h2 _ S E G1 (by omega) (e.mv i1 f1)).mono fun w G2 q => ?_
  obtain ⟨i2, f2, rfl⟩ := q
  have e2 := (e.mv i1 f1).mv i2 f2
  rw [hg, v_ok]
  refine ⟨x, rfl, ?_⟩
  cases x with
  | false => rw [if_neg (by decide)]; exact ⟨b.I.up (by omega) i2, f1.trans f2, rfl⟩
  | true =>
    rw [if_pos rfl]
    refine (h3 _ S E G2 (by omega) e2).mono fun w G3 q => ?_
    obtain ⟨i3, f3, rfl⟩ := q
    rw [hg', v_ok]
    exact ⟨b.I.up (by omega) i3, (f1.trans f2).trans f3, by cases y <;> rfl⟩
/-- i < j < k -/
theorem et_lt2 {m1 m2 m3 : ME} {i j k : Int} (h1 : Ev b Γ m1 (.val (tEq (.int i))) c1) (h2 : Ev b Γ m2 (.val (tEq (.int j))) c2) (h3 : Ev b Γ m3 (.val (tEq (.int k))) c3) : Et b Γ (mTest (mChain ltW ltW m1 m2 m3)) (i < j ∧ j < k) (¬ (i < j ∧ j < k)) (c1 + c2 + c3) :=
  et_le (et_test (ev_chain h1 h2 h3 (fun G => e_lt G i j) fun G => e_lt G j k)) (fun h => by simpa using h) fun h => by simpa using h
end
end PL
namespace PL
open PySem PySem.Spec PyProof.Rows L2
section
variable {b : Bs} {Γ Γ' Γ1 : TEnv} {R R' : RT} {N N' : Nat → PEnv → Cells → Prop} {c c' c1 c2 c3 : Nat} {T T' U V : Tp W} {C C' : Tp (List W)}
/-! ### what is shown -/
theorem ev_repr {m : ME} {w : W} {d : PyData} {k : Nat} (h : Ev b Γ m (.val (tEq w)) c) (hd : ∀ G, dat G 60 w = some d) (hs : Sh k d) (hk : k ≤ 16000000 := by decide) : Ev b Γ (mCall reprW (mCons m mNil)) (.val (tEq (.str d.shown))) (c + 0) := ev_call (eq_cons h eq_nil) fun G => repr_ok (hd G) hs hk
theorem ev_reprL {m : ME} {ws : List W} {ds : List PyData} {k : Nat} (h : Er b Γ m (dL (tEq ws)) c) (hd : ∀ G, mapO (dat G 59) ws = some ds) (hs : Sh k (.list ds)) (hk : k ≤ 16000000 := by decide) : Ev b Γ (mCall reprW (mCons m mNil)) (.val (tEq (.str (PyData.list ds).shown))) c :=
  ev_read h fun S G n x hg ⟨us, e, q⟩ => by
    subst e
    obtain rfl : us = ws := q
    rw [repr_ok (da_lst hg (hd G)) hs hk]; exact ⟨Fr.refl, rfl⟩
theorem et_neS {m m' : ME} {x : Str} (h : Ev b Γ m (.val (tEq (.str x))) c1) (h' : Ev b Γ m' (.val (tEq (.str x))) c2) : Et b Γ (mTest (mBin neOp m m')) False True (c1 + c2) := et_le (et_test (ev_bin h h' fun G => n_self G x)) (fun z => by cases z) fun _ => trivial
theorem ev_eqS {m m' : ME} {x : Str} (h : Ev b Γ m (.val (tEq (.str x))) c1) (h' : Ev b Γ m' (.val (tEq (.str x))) c2) : Ev b Γ (mBin eqOp m m') (.val (tEq (.bl true))) (c1 + c2) := ev_bin h h' fun G => e_self G x
theorem et_orF {t t' : MT} {q q' : Prop} (h : Et b Γ t False q c1) (k : Et b Γ t' False q' c2) : Et b Γ (mOrT t t') False True (c1 + c2) := et_le (et_or h fun _ => k) (fun z => by rcases z with z | z; exact z; exact z.2) fun _ => trivial
theorem tTup_eq {ws : List W} : Tle (tTup (tEq ws)) (tEq (.tup ws)) := fun S G w ⟨us, e, q⟩ => by rw [e, show us = ws from q]; rfl
end
end PL
namespace PL
open PySem PySem.Spec PyProof.Rows L2
/-! ### dict displays -/
theorem s_mp {E : PEnv} {G : Cells} {Q : List (Key × W) → Cells → Prop} (mk mv : ME) (r : MPs) : (mpCons mk mv r E G).sat Q = (mk E G).sat fun x G1 => (mv E G1).sat fun y G2 => (r E G2).sat fun ps G3 => ∃ k, keyW x = some k ∧ Q ((k, y) :: ps) G3 := by
  unfold mpCons
  rw [sat_bind]; congr; funext x G1
  rw [sat_bind]; congr; funext y G2
  rw [sat_bind]; congr; funext ps G3
  cases keyW x <;> simp
theorem s_mp0 {E : PEnv} {G : Cells} {Q : List (Key × W) → Cells → Prop} : (mpNil E G).sat Q = Q [] G := id rfl
theorem so_disp {E : PEnv} {G : Cells} {Q : W → Cells → Prop} (m : MPs) (h : (m E (G ++ [.dct []])).sat fun ps G' => G'[G.length]? = some (.dct []) ∧ ps.length ≤ 15 ∧ Q (.ref G.length) (G'.set G.length (.dct (mergeW [] ps)))) : (mDisp m E G).sat Q := by
  unfold mDisp
  refine h.bind fun ps G' q => ?_
  obtain ⟨q1, q2, q3⟩ := q
  rw [q1]
  show (if ps.length ≤ 15 then _ else _ : Rs W).sat Q
  rw [if_pos q2]
  exact q3
theorem e_powN (G : Cells) {k : Nat} (h : k ≤ 1000) : powW G (.int 10) (.int (k : Int)) = .ok (.int (10 ^ k)) G := by
  show (if (0 : Int) ≤ k ∧ (k : Int) ≤ 1000000 ∧ (10 : Int).natAbs < 2 ^ 64 then Rs.ok (W.int ((10 : Int) ^ (k : Int).toNat)) G else Rs.no) = _
  rw [if_pos ⟨by omega, by omega, by decide⟩, Int.toNat_natCast]
end PL
/- part PLR -/
set_option maxHeartbeats 4000000
namespace PL
open PySem PySem.Spec PyProof.Rows L2
/-! ### comprehensions with any number of fors: one clause at a time -/
abbrev CB := Value → Env → Sem Fin → Sem Fin
def CTurn (elt : Expr) (gs : List Comprehension) (scope : Scope) (pos : Pos) (d : Nat) (tg : Expr) (p : Pos) (ifs : List Expr) (body : CB) : Prop := ∀ (it acc : Value) (env : Env),
  compTurn (.ListComp elt gs scope pos) d it acc env = (standAt p >>= fun _ => pyNext it >>= fun r => match r with
    | none => pure (.done .next)
    | some v => letOwnedTupleGo tg it v >>= fun _ => assign tg env v >>= fun _ => (forIn ifs true fun c r => if r = true then do let ok ← isTrue c env (eval c env); pure (ForInStep.yield ok) else pure (ForInStep.yield r)) >>= fun ok =>
      if ok = true then body acc env (again (.compLoop (.ListComp elt gs scope pos) d it acc env)) else again (.compLoop (.ListComp elt gs scope pos) d it acc env))
def bodyZ (elt : Expr) : CB := fun acc env k => (eval elt env >>= fun x => call (.builtin "list.append") [acc, x] >>= fun _ => pure ()) >>= fun (_ : Unit) => k
def bodyN (elt : Expr) (gs : List Comprehension) (scope : Scope) (pos : Pos) (d : Nat) (iter : Expr) : CB := fun acc env k => eval iter env >>= fun x => standAt iter.pos >>= fun _ => foldedSetIterable iter env x >>= fun x =>
  holding [x] (pyIter x) >>= fun i => runOwn (.compStart (.ListComp elt gs scope pos) (d + 1) i acc env) env >>= fun _ => k
theorem turn3_0 (elt t0 i0 t1 i1 t2 i2 : Expr) (f0 f1 f2 : List Expr) (scope : Scope) (pos : Pos) : CTurn elt [⟨t0, i0, f0, 0⟩, ⟨t1, i1, f1, 0⟩, ⟨t2, i2, f2, 0⟩] scope pos 0 t0 i0.pos f0 (bodyN elt [⟨t0, i0, f0, 0⟩, ⟨t1, i1, f1, 0⟩, ⟨t2, i2, f2, 0⟩] scope pos 0 i1) := fun _ _ _ => rfl
theorem turn3_1 (elt t0 i0 t1 i1 t2 i2 : Expr) (f0 f1 f2 : List Expr) (scope : Scope) (pos : Pos) : CTurn elt [⟨t0, i0, f0, 0⟩, ⟨t1, i1, f1, 0⟩, ⟨t2, i2, f2, 0⟩] scope pos 1 t1 i1.pos f1 (bodyN elt [⟨t0, i0, f0, 0⟩, ⟨t1, i1, f1, 0⟩, ⟨t2, i2, f2, 0⟩] scope pos 1 i2) := fun _ _ _ => rfl
theorem turn3_2 (elt t0 i0 t1 i1 t2 i2 : Expr) (f0 f1 f2 : List Expr) (scope : Scope) (pos : Pos) : CTurn elt [⟨t0, i0, f0, 0⟩, ⟨t1, i1, f1, 0⟩, ⟨t2, i2, f2, 0⟩] scope pos 2 t2 i2.pos f2 (bodyZ elt) := fun _ _ _ => rfl
section
variable {P : Program} {w : World} {A : Around} {s : Shared} {elt : Expr} {gs : List Comprehension} {scope : Scope} {pos : Pos}
theorem cl_loop {R : Result → Shared → Prop} {d : Nat} {tg : Expr} {p : Pos} {ifs : List Expr} {body : CB} {it acc : Value} {env : Env} (hT : CTurn elt gs scope pos d tg p ifs body) (J : Nat → Shared → Prop)
    (step : ∀ n s, J n s → wpAny (model P w) A (pyNext it) (fun r z1 => match r with
      | none => R (.ok .next) z1
      | some v => wpAny (model P w) A (letOwnedTupleGo tg it v) (fun _ z2 => wpAny (model P w) A (assign tg env v) (fun _ z3 =>
          wpAny (model P w) A (forIn ifs true fun c r => if r = true then do let ok ← isTrue c env (eval c env); pure (ForInStep.yield ok) else pure (ForInStep.yield r)) (fun ok z4 =>
            if ok = true then ∀ (k : Sem Fin) (Q : Fin → Shared → Prop) (E : Value → Shared → Prop), (∀ z, (∃ m, m < n ∧ J m z) → wpAny (model P w) A k Q E z) → wpAny (model P w) A (body acc env k) Q E z4
            else ∃ m, m < n ∧ J m z4) (fun _ _ => False) z3) (fun _ _ => False) z2) (fun _ _ => False) z1) (fun _ _ => False) s)
    (n : Nat) (h : J n s) : codeAny (model P w) A (.compLoop (.ListComp elt gs scope pos) d it acc env) R s := by
  refine codeAny_loop rfl J (fun n s hJ => ?_) n h
  show wpAny _ A ((compTurn (.ListComp elt gs scope pos) d it acc env).onRaise (fun x => noteFrame x env >>= fun _ => theTreesLotGoes x)) _ _ s
  refine wpAny_noted ?_
  rw [hT it acc env]
  refine wpAny_bind (wpAny_standAt (wpAny_bind (thnF (step n s hJ) fun r z1 h1 => ?_)))
  cases r with
  | none => exact wpAny_pure h1
  | some v =>
    refine wpAny_bind (thnF h1 fun _ z2 h2 => wpAny_bind (thnF h2 fun _ z3 h3 => wpAny_bind (thnF h3 fun ok z4 h4 => ?_)))
    cases ok with
    | false => exact wpAny_pure ⟨rfl, h4⟩
    | true => exact h4 _ _ _ fun z hz => wpAny_pure ⟨rfl, hz⟩
theorem cl_start {R : Result → Shared → Prop} {d : Nat} {it acc : Value} {env : Env} {g : Comprehension} (hg : gs[d]? = some g) (ha : g.is_async = 0)
    (h0 : codeAny (model P w) A (.compLoop (.ListComp elt gs scope pos) d it acc env) R s)
    (h1 : wpAny (model P w) A (pyIter it) (fun i z => codeAny (model P w) A (.compLoop (.ListComp elt gs scope pos) d i acc env) R z) (notedBy (model P w) A env fun x z => R (.error x) z) s) :
    codeAny (model P w) A (.compStart (.ListComp elt gs scope pos) d it acc env) R s := by
  refine codeAny_of_tree ?_
  show wpAny _ _ ((compStart (.ListComp elt gs scope pos) d it acc env).onRaise (fun x => noteFrame x env >>= fun _ => standAt theWindowsPlace)) _ _ s
  refine wpAny_notedAt ?_
  have hc : (clausesOf (.ListComp elt gs scope pos))[d]? = some g := hg
  have hb : (((some g : Option Comprehension)).elim false (·.is_async != 0)) = false := by show (g.is_async != 0) = false; rw [ha]; rfl
  unfold compStart
  rw [hc, hb]
  show wpAny _ _ (ask >>= _) _ _ s
  refine wpAny_bind (wpAny_askSetting (wpAny_ite ?_))
  split
  · first
      | exact wpAny_bind (wpAny_pure (wpAny_pure (And.intro rfl h0)))
      | exact wpAny_pure (And.intro rfl h0)
  · refine wpAny_bind (wpAny_rule ?_)
    show wpAny _ _ (standAt g.iter.pos >>= _) _ _ s
    exact wpAny_bind (wpAny_standAt (wpAny_bind (wpAny_mono h1 (fun i z hz => wpAny_pure (And.intro rfl hz)) fun _ _ x => x)))
end
section
variable {X : Cx} {sb : Shared} {Hb : Hp} {sc : Scope} {ce : Env} {fb : List Addr} {elt : Expr} {gs : List Comprehension} {scope : Scope} {pos : Pos}
abbrev TB := St → Hp → (Hp → Prop) → Prop
def BodyOk (X : Cx) (sb : Shared) (Hb : Hp) (sc : Scope) (ce : Env) (fb : List Addr) (D : Addr) (body : CB) (vs : List Nat) (B : TB) : Prop :=
  ∀ (pins : List (Addr × Obj)) (z : Shared) (σ : St) (H : Hp) (Nx : Hp → Prop), L2.Inv (X.blk sb Hb sc ce fb) pins σ H z → B σ H Nx → ∀ (k : Sem Fin) (Q : Fin → Shared → Prop) (E : Value → Shared → Prop),
    (∀ z' H' σ', L2.Inv (X.blk sb Hb sc ce fb) pins σ' H' z' → σ.length = σ'.length → (∀ (j : Nat) v, j ∉ vs → σ[j]? = some (some v) → σ'[j]? = some (some v)) → Nx H' → wpAny (model X.prog X.w) X.A k Q E z') →
    wpAny (model X.prog X.w) X.A (body (.ref D) ce k) Q E z
def tCl (J : It) (g : TG) (tt : TT) (B : TB) (vs : List Nat) : TB := fun σ H Nx => ∃ W : Nat → Nat → Hp → Prop, (∃ m, W 0 m H) ∧ ∀ i m H, W i m H →
  (J.stop i H ∧ Nx H) ∨ (J.go i H ∧ ∃ N1 : Hp → Prop, (∀ H', N1 H' → ∃ m', m' < m ∧ W (i + 1) m' H') ∧ ∀ x H', J.yld i H x H' → g x (L2.wipe σ vs) H' fun σ2 H2 => L2.wipe σ2 vs = L2.wipe σ vs ∧ tt σ2 H2 fun b H3 => if b = true then B σ2 H3 N1 else N1 H3)
theorem cl_run {D : Addr} {d : Nat} {tg : Expr} {p : Pos} {ifs : List Expr} {body : CB} {g : TG} {tt : TT} {B : TB} {vs vs' : List Nat} (hc : X.calm = true) (hT : CTurn elt gs scope pos d tg p ifs body)
    (pg : PG (Cx.blk X sb Hb sc ce fb) tg g) (pt : PTs (Cx.blk X sb Hb sc ce fb) ifs tt) (hb : BodyOk X sb Hb sc ce fb D body vs' B) (hv : ∀ i ∈ vs', i ∈ vs) {J : It} {fp : List Addr} {it : Addr} {tn : Nat → Heap → Prop} (T : Turn X.prog X.w X.K tg J fp it tn)
    {pins : List (Addr × Obj)} {z : Shared} {σ : St} {H : Hp} {Nx : Hp → Prop} (I : L2.Inv (Cx.blk X sb Hb sc ce fb) pins σ H z) (st : tn 0 z.heap) (hf : ∀ b ∈ fp, FpOk (Cx.blk X sb Hb sc ce fb) pins H b) (h : tCl J g tt B vs σ H Nx) (hce : (Cx.blk X sb Hb sc ce fb).env = ce) :
    codeAny (model X.prog X.w) X.A (.compLoop (.ListComp elt gs scope pos) d (.ref it) (.ref D) ce) (fun r z' => match r with | .ok _ => ∃ H', L2.Inv (Cx.blk X sb Hb sc ce fb) pins (L2.wipe σ vs) H' z' ∧ (∀ b ∈ fp, H' b = none) ∧ Nx H' | .error _ => False) z := by
  obtain ⟨W, ⟨m0, w0⟩, turn⟩ := h
  have stat : ∀ {H' : Hp}, (∀ b ∈ fp, H' b = none) → ∀ b ∈ fp, FpOk (Cx.blk X sb Hb sc ce fb) pins H' b := fun hn b hb => ⟨hn b hb, (hf b hb).2⟩
  refine cl_loop hT (fun n z' => ∃ i H', L2.Inv (Cx.blk X sb Hb sc ce fb) pins (L2.wipe σ vs) H' z' ∧ tn i z'.heap ∧ (∀ b ∈ fp, H' b = none) ∧ W i n H') ?_ m0 ⟨0, H, I.weak (L2.wipe_length _ _) (fun j v e => (L2.wipe_some e).1), st, fun b hb => (hf b hb).1, w0⟩
  rintro n z5 ⟨i, H5, I5, st5, n5, w5⟩
  rcases turn i n H5 w5 with ⟨stop, qq⟩ | ⟨go, N1, hN1, step⟩
  · refine thnF (T.done (Cx.blk X sb Hb sc ce fb) rfl rfl rfl hc i pins z5 _ H5 (fun _ _ => False) I5 (stat n5) st5 stop) fun r z6 hr => ?_
    obtain ⟨rfl, I6⟩ := hr
    exact ⟨H5, I6, n5, qq⟩
  · refine thnF (T.item (Cx.blk X sb Hb sc ce fb) rfl rfl rfl hc i pins z5 _ H5 (fun _ _ => False) I5 (stat n5) st5 go) fun r z6 hr => ?_
    obtain ⟨u, rfl, h6⟩ := hr
    refine thnF h6 fun _ z7 h7 => ?_
    obtain ⟨x, H7, I7, r7, y7, st7, n7⟩ := h7
    have I7' := I7.pinned (stat n7) (T.obj _ _ st7)
    refine thnF (hce ▸ pg.run _ z7 _ H7 x u _ I7' r7 (step x H7 y7)) fun _ z8 h8 => ?_
    obtain ⟨σ8, H8, I8, hw8, q8⟩ := h8
    refine thnF (hce ▸ pt.run _ z8 σ8 H8 _ I8 q8) fun b z9 h9 => ?_
    obtain ⟨H9, I9, q9⟩ := h9
    have fin : ∀ {σ9 : St} {z' : Shared} {H' : Hp}, L2.Inv (Cx.blk X sb Hb sc ce fb) (pins ++ pinsAt fp z7.heap) σ9 H' z' → σ8.length = σ9.length → (∀ (j : Nat) v, j ∉ vs' → σ8[j]? = some (some v) → σ9[j]? = some (some v)) → N1 H' →
        ∃ m, m < n ∧ ∃ i H', L2.Inv (Cx.blk X sb Hb sc ce fb) pins (L2.wipe σ vs) H' z' ∧ tn i z'.heap ∧ (∀ b ∈ fp, H' b = none) ∧ W i m H' := fun {σ9 z' H'} I' hl hk nx => by
      obtain ⟨m', hm, w'⟩ := hN1 H' nx
      have pin' : ∀ b ∈ fp, ∀ o, z7.heap.get? b = some o → z'.heap.get? b = some o ∧ H' b = none := fun b hb o e =>
        have q := I'.pin (b, o) (List.mem_append_right _ (List.mem_append_right _ (mem_pinsAt hb e)))
        ⟨q.1, q.2.1⟩
      refine ⟨m', hm, i + 1, H', I'.unpinned.weak ?_ (fun j v e => ?_), T.keep _ _ _ st7 fun b hb o e => (pin' b hb o e).1, fun b hb => ?_, w'⟩
      · rw [← hw8, L2.wipe_length]; exact hl
      · rw [← hw8] at e
        obtain ⟨e1, e2⟩ := L2.wipe_some e
        exact hk j v (fun z => e2 (hv j z)) e1
      · obtain ⟨o, e, _⟩ := T.obj _ _ st7 b hb
        exact (pin' b hb o e).2
    cases b with
    | false =>
      simp only [Bool.false_eq_true, if_false] at q9 ⊢
      exact fin I9 rfl (fun _ _ _ e => e) q9
    | true =>
      simp only [if_true] at q9 ⊢
      exact fun k Q E hk => hb _ z9 σ8 H9 N1 I9 q9 k Q E fun z' H' σ' I' hl hs nx => hk z' (fin I' hl hs nx)
/-- the last clause's body -/
theorem body_last {D : Addr} {te : TE} (pe : PE (Cx.blk X sb Hb sc ce fb) elt te) (hce : (Cx.blk X sb Hb sc ce fb).env = ce) : BodyOk X sb Hb sc ce fb D (bodyZ elt) [] (fun σ H N => te σ H fun y H4 => ∃ acc, H4 D = some (.lst acc) ∧ acc.length < sizeLine ∧ N (upd H4 D (.lst (acc ++ [y])))) := by
  intro pins z σ H N I q k Q E hk
  refine wpAny_bind (wpAny_bind (thnF (hce ▸ pe.run _ z σ H _ I q) fun xv z10 h10 => wpAny_bind ?_))
  obtain ⟨yv, H10, I10, r10, acc, hD10, hz10, nx⟩ := h10
  exact app_ok (X := Cx.blk X sb Hb sc ce fb) I10 hD10 hz10 r10 fun z11 I11 => wpAny_pure (hk z11 _ σ I11 rfl (fun _ _ _ e => e) nx)
/-- a clause within -/
theorem body_next {D : Addr} {d : Nat} {tg iter : Expr} {ifs : List Expr} {body : CB} {wi : TI} {g : TG} {tt : TT} {B : TB} {vs vs' : List Nat} (hc : X.calm = true) (hg : gs[d + 1]? = some ⟨tg, iter, ifs, 0⟩) (hT : CTurn elt gs scope pos (d + 1) tg iter.pos ifs body)
    (pi : PI (Cx.blk X sb Hb sc ce fb) tg iter wi) (pg : PG (Cx.blk X sb Hb sc ce fb) tg g) (pt : PTs (Cx.blk X sb Hb sc ce fb) ifs tt) (hb : BodyOk X sb Hb sc ce fb D body vs' B) (hv : ∀ i ∈ vs', i ∈ vs) (hce : (Cx.blk X sb Hb sc ce fb).env = ce) (hs : ∀ env x, foldedSetIterable iter env x = pure x) :
    BodyOk X sb Hb sc ce fb D (bodyN elt gs scope pos d iter) vs (fun σ H N => wi σ H fun J H1 => tCl J g tt B vs σ H1 N) := by
  intro pins z σ H N I q k Q E hk
  refine wpAny_bind (thnF (hce ▸ pi.run _ z σ H _ I q) fun xv z1 h1 => ?_)
  refine wpAny_bind (wpAny_standAt (wpAny_bind (wpAny_of_eq (hs ce xv) (wpAny_bind (wpAny_holding (thnF h1 fun itv z2 h2 => ?_))))))
  obtain ⟨it1, fp1, tn1, J1, H11, e1, I11, T1, st11, f11, q1⟩ := h2
  subst e1
  have loop := cl_run (elt := elt) (gs := gs) (scope := scope) (pos := pos) hc hT pg pt hb hv T1 I11 st11 f11 q1 hce
  refine wpAny_bind (wpAny_runOwn ?_)
  rw [Around.mark_none]
  refine codeAny_mono (cl_start hg rfl loop (T1.self X.A 0 _ _ _ st11 loop)) fun r z' hr => ?_
  cases r with
  | ok f =>
    obtain ⟨H', I', _, nx⟩ := hr
    exact hk z' H' _ I' (L2.wipe_length _ _).symm (fun j v hj e => by rw [L2.wipe_out hj]; exact e) nx
  | error e => exact hr.elim
end
section
variable {X : Cx}
def tLcG (wi : TI) (g : TG) (tt : TT) (B : Addr → TB) (vs : List Nat) : TE := fun σ H Q => wi σ H fun J H1 => ∀ D, H1 D = none → tCl J g tt (B D) vs σ (upd H1 D (.lst [])) fun H2 => Q (.ref D) H2
abbrev Blks (X : Cx) (scope : Scope) (F : Shared → Hp → Env → List Addr → Prop) : Prop := ∀ (s : Shared) (H : Hp) (C : Addr) (cl : List (Str × Addr)) (fp : List Addr), F s H (compEnvC scope cl C X.env) fp
/-- a comprehension whose first clause's body is BodyOk -/
theorem pe_lcG {elt tg iter : Expr} {ifs : List Expr} {rest : List Comprehension} {scope : Scope} {own : List (Str × Nat)} {pos : Pos} {wi : TI} {g : TG} {tt : TT} {B : Addr → TB} {body : CB} {vs' : List Nat} (hc : X.calm = true) (hN : X.N.Nodup) (hi : PI X tg iter wi) (ok : BlkOk X.N X.env.scope scope own)
    (hT : CTurn elt (⟨tg, iter, ifs, 0⟩ :: rest) scope pos 0 tg iter.pos ifs body) (hv : ∀ i ∈ vs', i ∈ own.map (·.2))
    (hg : Blks X scope fun s H e fp => PG (X.blk s H scope e fp) tg g) (ht : Blks X scope fun s H e fp => PTs (X.blk s H scope e fp) ifs tt)
    (hb : Blks X scope fun s H e fp => ∀ D, BodyOk X s H scope e fp D body vs' (B D)) (hs : ∀ x, foldedSetIterable iter X.env x = pure x := by intro _; rfl) :
    PE X (.ListComp elt (⟨tg, iter, ifs, 0⟩ :: rest) scope pos) (tLcG wi g tt B (own.map (·.2))) := by
  refine ⟨fun pins s σ H Q I h => ?_⟩
  rw [eval_ListComp]
  have free : ∀ y ∈ scope.names, y.2 = .free → ∃ c, X.env.cells.lookup y.1 = some c := fun y hy e => (ok.free y hy e).elim (fun k => I.ok.has _ (.inl k)) fun k => I.ok.has _ (.inr k)
  refine wpAny_comprehension_free (use := none) rfl hs (closure_ok free) ok.kind (fun y hy e => by rw [ok.uniq y hy, e]) (thn (hi.run pins s σ H _ I h) fun xv z1 hx => thn hx fun itv z2 h2 => ?_)
  obtain ⟨it, fp, tn, J, H2, e, I2, T, st2, f2, q⟩ := h2
  subst e
  refine wpAny_newObj_type (newEnv_comp ?_) (by show 0 ≤ sizeLine; decide)
  generalize hD : z2.heap.objs.size = D
  have fresh : H2 D = none := I2.hok.fresh (Nat.le_of_eq hD)
  have q := q D fresh
  generalize hz3 : ({ z2 with heap := z2.heap.push { cls := .type "list", data := .seq ([] : List Value).toArray } } : Shared) = z3
  have hp3 : z3.heap = z2.heap.push { cls := .type "list", data := .seq ([] : List Value).toArray } := by rw [← hz3]
  have I3 : L2.Inv X pins σ (upd H2 D (.lst [])) z3 := by
    rw [← hz3]
    refine I2.laid (t' := z2.toks) (fun _ _ e => Heap.get?_push_of_some _ e) (Nat.le_of_eq hD) ⟨Nat.zero_le _, [], 0, .nil, ?_⟩
    rw [← hD]
    exact Heap.get?_push_size _ rfl
  have below : ∀ b ∈ fp, b < z2.heap.objs.size := fun b hb => let ⟨_, e, _⟩ := T.obj _ _ st2 b hb; Heap.lt_size e
  have f3 : ∀ b ∈ fp, FpOk X pins (upd H2 D (.lst [])) b ∧ b < z3.heap.objs.size := fun b hb => by
    have lt := below b hb
    refine ⟨⟨?_, (f2 b hb).2⟩, by rw [hp3, Heap.size_push]; exact Nat.lt_succ_of_lt lt⟩
    rw [upd_ne (by rw [← hD]; exact Nat.ne_of_lt lt)]
    exact (f2 b hb).1
  have st3 : tn 0 z3.heap := T.keep _ _ _ st2 fun b _ o e => by rw [hp3]; exact Heap.get?_push_of_some _ e
  have I4 := block_start I3 ok hN f3
  have pg := hg z3 (upd H2 D (.lst [])) z3.heap.objs.size (cellsFrom (z3.heap.objs.size + 1) scope.names (cloFrom X.env.cells scope.names [])) fp
  have pt := ht z3 (upd H2 D (.lst [])) z3.heap.objs.size (cellsFrom (z3.heap.objs.size + 1) scope.names (cloFrom X.env.cells scope.names [])) fp
  have pb := hb z3 (upd H2 D (.lst [])) z3.heap.objs.size (cellsFrom (z3.heap.objs.size + 1) scope.names (cloFrom X.env.cells scope.names [])) fp D
  show codeAny _ _ (.compStart (.ListComp elt (⟨tg, iter, ifs, 0⟩ :: rest) scope pos) 0 (.ref it) (.ref D) (compEnvC scope (cellsFrom (z3.heap.objs.size + 1) scope.names (cloFrom X.env.cells scope.names [])) z3.heap.objs.size X.env)) _ { z3 with heap := pushCells (z3.heap.push { cls := .type "dict", data := .dict #[] }) scope.names }
  generalize hce : compEnvC scope (cellsFrom (z3.heap.objs.size + 1) scope.names (cloFrom X.env.cells scope.names [])) z3.heap.objs.size X.env = ce at I4 pg pt pb ⊢
  have cL : ce.locals = z3.heap.objs.size := by subst hce; rfl
  generalize hH3 : upd H2 D (.lst []) = H3 at I3 I4 pg pt pb q f3
  generalize hz4 : ({ z3 with heap := pushCells (z3.heap.push { cls := .type "dict", data := .dict #[] }) scope.names } : Shared) = z4 at I4 ⊢
  have st4 : tn 0 z4.heap := T.keep _ _ _ st3 fun b _ o e => by rw [← hz4]; exact pushCells_keeps _ _ _ _ (Heap.get?_push_of_some _ e)
  have f4 : ∀ b ∈ fp, FpOk (X.blk z3 H3 scope ce fp) [] H3 b := fun b hb =>
    ⟨(f3 b hb).1.1, (I4.ok.exf b hb).1, I4.ok.exfs b hb, .inl hb, fun x c e => (I4.ok.exf b hb).2 x c e, fun p hp => absurd (show p ∈ ([] : List (Addr × Obj)) ++ [] from hp) (by simp)⟩
  have loop := cl_run (elt := elt) (gs := ⟨tg, iter, ifs, 0⟩ :: rest) (scope := scope) (pos := pos) hc hT pg pt pb hv T I4 st4 f4 (by
    obtain ⟨W, ⟨m0, w0⟩, turn⟩ := q
    refine ⟨W, ⟨m0, w0⟩, fun i m H' w' => ?_⟩
    rcases turn i m H' w' with y | ⟨go, N1, a, b⟩
    · exact .inl y
    · exact .inr ⟨go, N1, a, fun x H5 y => by
        have := b x H5 y
        rw [show L2.wipe (L2.wipe σ (own.map (·.2))) (own.map (·.2)) = L2.wipe σ (own.map (·.2)) from wipe_again (sl := []) (L2.wipe_length _ _) (fun _ _ => rfl) (fun _ h => nomatch h)]
        exact this⟩) rfl
  refine codeAny_compStart_list (codeAny_mono loop ?_) (T.self X.A 0 _ _ _ st4 (codeAny_mono loop ?_))
  all_goals
    intro r z' hr
    cases r with
    | error e => exact hr.elim
    | ok fl =>
      obtain ⟨H5, I6, _, qq⟩ := hr
      have I7 : L2.Inv X pins σ H5 z' := I3.call' (ch := fp) I6.os I6.base I6.hok I6.bare fun b hb => ⟨(f3 b hb).1.2.2.2.1, (f3 b hb).1.2.1, (f3 b hb).1.2.2.2.2.1, (f3 b hb).1.2.2.2.2.2⟩
      have nC : H5 z3.heap.objs.size = none := by
        have z : H5 ce.locals = none := I6.free
        rw [cL] at z
        exact z
      obtain ⟨m, hn, _⟩ := I6.loc
      have hn : z'.heap.Ns ce.locals m := hn
      rw [cL] at hn
      obtain ⟨y0, y1, y2, y3, y4, y5⟩ := I3.fpOk (Nat.le_refl _) nC
      exact ⟨m, by first | exact hn | simpa [cL] using hn, fun h'' sb => ⟨.ref D, H5, I7.turned (t' := z'.toks) (fun b o hb e => (sb.2 b hb).trans e) y0 y1 y3 y4 y5, rfl, qq⟩⟩
end
end PL
/- part PLS -/
set_option maxHeartbeats 4000000
namespace PL
open PySem PySem.Spec PyProof.Rows L2
/-! ### the layer: comprehensions with three fors -/
abbrev PB := PEnv → Cells → Option Cells
def clG (pit : PIt) (g : MG) (t : MT) (B : PB) (E : PEnv) : Nat → Nat → Cells → Option Cells
  | fuel, i, G => match pit.at G i with
    | none => none
    | some none => some G
    | some (some w) => match fuel with
      | 0 => none
      | k + 1 => match g w E G with
        | .ok E1 G1 => (match t E1 G1 with
          | .ok true G2 => (match B E1 G2 with
            | some G3 => clG pit g t B E k (i + 1) G3
            | none => none)
          | .ok false G2 => clG pit g t B E k (i + 1) G2
          | _ => none)
        | _ => none
def mBz (m : ME) (n : Nat) : PB := fun E G => match m E G with
  | .ok y G1 => (match G1[n]? with
    | some (.lst acc) => if acc.length < sizeLine then some (G1.set n (.lst (acc ++ [y]))) else none
    | _ => none)
  | _ => none
def mBn (mi : MI) (g : MG) (t : MT) (B : Nat → PB) (vs : List Nat) (n : Nat) : PB := fun E G => match mi E G with
  | .ok pit G1 => clG pit g t (B n) (wipeE E vs) (pit.len G1) 0 G1
  | _ => none
@[irreducible] def mLcG (mi : MI) (g : MG) (t : MT) (B : Nat → PB) (vs : List Nat) : ME := fun E G => (mi E G).bind fun pit G1 =>
  match clG pit g t (B G1.length) (wipeE E vs) (pit.len G1) 0 (G1 ++ [.lst []]) with
  | some G2 => .ok (.ref G1.length) G2
  | none => .no
section
variable {X : Cx} {XP : Wish} {pos : Pos}
def BdR (K : Fg) (n : Nat) (D : Addr) (p : PB) (B : TB) : Prop := ∀ ρ H E G σ G' (Nx : Hp → Prop), ER K ρ H E σ → SR K ρ G H → ρ[n]? = some D → p E G = some G' → (∀ ρ' H', Ext K ρ H ρ' H' → SR K ρ' G' H' → Nx H') → B σ H Nx
theorem cl_pure {ρ0 : List Addr} {H0 : Hp} {pit : PIt} {J : It} {g : MG} {t : MT} {p : PB} {B : TB} {vs sl : List Nat} {E : PEnv} {σ : St} {n : Nat} {D : Addr} {Nx : Hp → Prop} {G4 : Cells} (hsl : ∀ i ∈ sl, i ∈ vs)
    (er : ER X.K ρ0 H0 E σ) (r1 : ItR X.K ρ0 H0 pit J) (hn : ρ0[n]? = some D) (hB : BdR X.K n D p B)
    (hP : ∀ ρ' H', Ext X.K ρ0 H0 ρ' H' → SR X.K ρ' G4 H' → Nx H') {fuel : Nat} {G : Cells} (hl : clG pit g t p (wipeE E vs) fuel 0 G = some G4) (s : SR X.K ρ0 G H0) :
    tCl J (rdG X.K noX sl g) (rdT X.K noX t) B vs σ H0 Nx := by
  refine ⟨fun j k H' => ∃ ρ' G', Ext X.K ρ0 H0 ρ' H' ∧ SR X.K ρ' G' H' ∧ clG pit g t p (wipeE E vs) k j G' = some G4, ⟨fuel, ρ0, G, .refl, s, hl⟩, ?_⟩
  rintro i k H' ⟨ρ', G', ex, s', hl⟩
  obtain ⟨hstop, hgo⟩ := r1 ρ' G' H' ex s' i
  unfold clG at hl
  split at hl
  · cases hl
  · rename_i ha
    cases hl
    exact .inl ⟨hstop ha, hP ρ' H' ex s'⟩
  · rename_i w ha
    obtain ⟨go, hy⟩ := hgo w ha
    split at hl
    · cases hl
    · rename_i k0
      refine .inr ⟨go, fun H2 => ∃ ρ2 G3, Ext X.K ρ0 H0 ρ2 H2 ∧ SR X.K ρ2 G3 H2 ∧ clG pit g t p (wipeE E vs) k0 (i + 1) G3 = some G4, fun H2 h => ⟨k0, Nat.lt_succ_self _, h⟩, fun x H2 y => ?_⟩
      obtain ⟨y1, y2, y3⟩ := hy x H2 y
      have erw : ER X.K ρ' H2 (wipeE E vs) (L2.wipe σ vs) := ((er.mono (ex.trans y1)).wipe vs)
      refine ⟨ρ', w, wipeE E vs, G', y3, erw, y2, ?_⟩
      split at hl
      · rename_i E2 G3 hg
        rw [hg]
        intro ρ3 H3 σ3 e3 s3 r3
        refine ⟨wipe_again (by rw [r3.2.1, L2.wipe_length]) r3.2.2 hsl, ρ3, E2, G3, r3.1, s3, ?_⟩
        split at hl
        · rename_i G5 ht
          rw [ht]
          intro ρ4 H4 b e4 s4 hb
          cases hb
          rw [if_pos rfl]
          split at hl
          · rename_i G6 hbd
            have ex4 : Ext X.K ρ0 H0 ρ4 H4 := ex.trans (y1.trans (e3.trans e4))
            exact hB ρ4 H4 E2 G5 σ3 G6 _ (r3.1.mono e4) s4 (ex4.rho _ _ hn) hbd fun ρ5 H5 e5 s5 => ⟨ρ5, G6, ex4.trans e5, s5, hl⟩
          · cases hl
        · rename_i G5 ht
          rw [ht]
          intro ρ4 H4 b e4 s4 hb
          cases hb
          rw [if_neg Bool.false_ne_true]
          exact ⟨ρ4, G5, ex.trans (y1.trans (e3.trans e4)), s4, hl⟩
        · cases hl
      · cases hl
theorem bd_last {m : ME} {n : Nat} {D : Addr} : BdR X.K n D (mBz m n) (fun σ H N => rdE X.K noX m σ H fun y H4 => ∃ acc, H4 D = some (.lst acc) ∧ acc.length < sizeLine ∧ N (upd H4 D (.lst (acc ++ [y])))) := by
  intro ρ H E G σ G' Nx er s hn hp hx
  unfold mBz at hp
  refine ⟨ρ, E, G, er, s, ?_⟩
  split at hp
  · rename_i y G1 hm
    rw [hm]
    intro ρ5 H5 v e5 s5 r5
    have hn5 := e5.rho _ _ hn
    split at hp
    · rename_i acc hc
      split at hp
      · rename_i hz
        cases hp
        obtain ⟨us, q1, q2⟩ := cell_lst s5 hn5 hc
        have exw : Ext X.K ρ5 H5 ρ5 (upd H5 D (.lst (us ++ [v]))) := s5.ext_write hc hn5 rfl
        exact ⟨us, q1, by rw [← q2.length]; exact hz, hx ρ5 _ (e5.trans exw) (s5.write (c' := .lst (acc ++ [y])) hc hn5 rfl rfl ⟨us ++ [v], upd_same, (q2.mono exw).append (.cons (r5.mono exw) .nil)⟩)⟩
      · cases hp
    · cases hp
  · cases hp
theorem bd_next {mi : MI} {g : MG} {t : MT} {p : Nat → PB} {B : TB} {vs sl : List Nat} {n : Nat} {D : Addr} (hsl : ∀ i ∈ sl, i ∈ vs) (hB : BdR X.K n D (p n) B) :
    BdR X.K n D (mBn mi g t p vs n) (fun σ H N => rdI X.K noX mi σ H fun J H1 => tCl J (rdG X.K noX sl g) (rdT X.K noX t) B vs σ H1 N) := by
  intro ρ H E G σ G' Nx er s hn hp hx
  unfold mBn at hp
  refine ⟨ρ, E, G, er, s, ?_⟩
  split at hp
  · rename_i pit G1 hm
    rw [hm]
    intro ρ5 H5 J e5 s5 r5
    exact cl_pure hsl (er.mono e5) r5 (e5.rho _ _ hn) hB (fun ρ6 H6 e6 s6 => hx ρ6 H6 (e5.trans e6) s6) hp s5
  · cases hp
theorem lcG_run {wi : TI} {mi : MI} {g : MG} {t : MT} {p : Nat → PB} {B : Addr → TB} {vs sl : List Nat} (hsl : ∀ i ∈ sl, i ∈ vs) (hB : ∀ n D, BdR X.K n D (p n) (B D))
    (i2 : ∀ ρ E G σ H R, ER X.K ρ H E σ → SR X.K ρ G H → Out X.K XP (ItR X.K) σ ρ H (mi E G) R → wi σ H R) :
    ∀ ρ E G σ H Q, ER X.K ρ H E σ → SR X.K ρ G H → Out X.K XP (VR X.K) σ ρ H (mLcG mi g t p vs E G) Q → tLcG wi (rdG X.K noX sl g) (rdT X.K noX t) B vs σ H Q := by
  intro ρ E G σ H Q er sr q
  unfold mLcG at q
  refine i2 ρ E G σ H _ er sr (q.bind fun pit G1 ρ1 H1 J e1 s1 r1 k1 => ?_)
  intro D hD
  have hcell : CR X.K (ρ1 ++ [D]) (upd H1 D (.lst [])) (.lst []) D := ⟨[], upd_same, .nil⟩
  have sA := s1.alloc hD hcell
  have eA : Ext X.K ρ1 H1 (ρ1 ++ [D]) (upd H1 D (.lst [])) := ext_alloc hD
  have hn : (ρ1 ++ [D])[G1.length]? = some D := by rw [← s1.len]; exact last_get _ _
  cases hr : clG pit g t (p G1.length) (wipeE E vs) (pit.len G1) 0 (G1 ++ [.lst []]) with
  | none => rw [hr] at k1; exact k1.elim
  | some G2 =>
    rw [hr] at k1
    exact cl_pure hsl (er.mono (e1.trans eA)) (fun ρ' G' H' ex => r1 ρ' G' H' (eA.trans ex)) hn (hB _ D) (fun ρ' H' ex s' => (Out.mono k1 (eA.trans ex)).ok s' (.ref (ex.rho _ _ hn))) hr sA
def mLc3 (mi : MI) (g : MG) (t : MT) (mi1 : MI) (g1 : MG) (t1 : MT) (mi2 : MI) (g2 : MG) (t2 : MT) (m : ME) (vs vs1 vs2 : List Nat) : ME := mLcG mi g t (mBn mi1 g1 t1 (mBn mi2 g2 t2 (mBz m) vs2) vs1) vs
theorem he_lc3 {elt tg iter tg1 iter1 tg2 iter2 : Expr} {ifs ifs1 ifs2 : List Expr} {scope : Scope} {own : List (Str × Nat)} {vs1 vs2 : List Nat} {mi mi1 mi2 : MI} {g g1 g2 : MG} {t t1 t2 : MT} {m : ME} {sl sl1 sl2 : List Nat} {k : Nat} (c : GC X XP k) (hi : HI X XP tg iter mi) (ok : blkC X.N X.env.scope scope own = true)
    (hg : Blks X scope fun s H e fp => HG (X.blk s H scope e fp) noX tg sl g) (ht : Blks X scope fun s H e fp => HTs (X.blk s H scope e fp) noX ifs t)
    (hi1 : Blks X scope fun s H e fp => HI (X.blk s H scope e fp) noX tg1 iter1 mi1) (hg1 : Blks X scope fun s H e fp => HG (X.blk s H scope e fp) noX tg1 sl1 g1) (ht1 : Blks X scope fun s H e fp => HTs (X.blk s H scope e fp) noX ifs1 t1)
    (hi2 : Blks X scope fun s H e fp => HI (X.blk s H scope e fp) noX tg2 iter2 mi2) (hg2 : Blks X scope fun s H e fp => HG (X.blk s H scope e fp) noX tg2 sl2 g2) (ht2 : Blks X scope fun s H e fp => HTs (X.blk s H scope e fp) noX ifs2 t2)
    (he : Blks X scope fun s H e fp => HE (X.blk s H scope e fp) noX elt m)
    (hsl : (sl.all fun i => (own.map (·.2)).contains i) = true := by rfl) (hsl1 : (sl1.all fun i => vs1.contains i) = true := by rfl) (hsl2 : (sl2.all fun i => vs2.contains i) = true := by rfl)
    (hv : (vs1.all fun i => (own.map (·.2)).contains i) = true := by rfl) (hv2 : (vs2.all fun i => vs1.contains i) = true := by rfl)
    (hs : ∀ x, foldedSetIterable iter X.env x = pure x := by intro _; rfl) (hs1 : ∀ env x, foldedSetIterable iter1 env x = pure x := by intro _ _; rfl) (hs2 : ∀ env x, foldedSetIterable iter2 env x = pure x := by intro _ _; rfl) :
    HE X XP (.ListComp elt [⟨tg, iter, ifs, 0⟩, ⟨tg1, iter1, ifs1, 0⟩, ⟨tg2, iter2, ifs2, 0⟩] scope pos) (mLc3 mi g t mi1 g1 t1 mi2 g2 t2 m (own.map (·.2)) vs1 vs2) := by
  obtain ⟨wi, i1, i2⟩ := hi.ex
  have mem : ∀ {xs ys : List Nat}, (xs.all fun i => ys.contains i) = true → ∀ i ∈ xs, i ∈ ys := fun h i hi => by simpa using List.all_eq_true.mp h i hi
  refine ⟨_, pe_lcG (body := bodyN elt [⟨tg, iter, ifs, 0⟩, ⟨tg1, iter1, ifs1, 0⟩, ⟨tg2, iter2, ifs2, 0⟩] scope pos 0 iter1) (vs' := vs1) c.calm c.nd i1 (blkOk_by ok) (turn3_0 _ _ _ _ _ _ _ _ _ _ _ _) (mem hv) (fun s H C cl fp => (hg s H C cl fp).rd) (fun s H C cl fp => (ht s H C cl fp).rd) ?_ hs,
    lcG_run (mem hsl) (fun n D => bd_next (mem hsl1) (bd_next (mem hsl2) bd_last)) i2⟩
  intro s H C cl fp D
  exact body_next (d := 0) c.calm rfl (turn3_1 _ _ _ _ _ _ _ _ _ _ _ _) (hi1 s H C cl fp).rd (hg1 s H C cl fp).rd (ht1 s H C cl fp).rd (body_next (d := 1) c.calm rfl (turn3_2 _ _ _ _ _ _ _ _ _ _ _ _) (hi2 s H C cl fp).rd (hg2 s H C cl fp).rd (ht2 s H C cl fp).rd (body_last (he s H C cl fp).rd rfl) (fun _ h => nomatch h) rfl hs2) (mem hv2) rfl hs1
/-! ### any, all of a list of bools -/
def blsW : List W → Option (List Bool)
  | [] => some []
  | .bl b :: ws => (blsW ws).map (b :: ·)
  | _ => none
theorem blsW_map (bs : List Bool) : blsW (bs.map W.bl) = some bs := by
  induction bs with
  | nil => rfl
  | cons b bs ih => show (blsW (bs.map W.bl)).map (b :: ·) = _; rw [ih]; rfl
theorem blsW_ok {K : Fg} {ρ : List Addr} {H : Hp} : ∀ {ws : List W} {vs : List V} {bs : List Bool}, VRs K ρ H ws vs → blsW ws = some bs → vs = bs.map V.bl := by
  intro ws
  induction ws with
  | nil => intro vs bs r h; cases r; cases h; rfl
  | cons w ws ih =>
    intro vs bs r h
    cases r with
    | cons r1 r2 =>
      cases w with
      | bl b =>
        simp only [blsW] at h
        cases hm : blsW ws with
        | none => rw [hm] at h; cases h
        | some js => rw [hm] at h; cases h; cases r1; rw [ih r2 hm]; rfl
      | _ => cases h
def anyW : GCall := fun G ws => match ws with
  | [.ref n] => (match rdL G n with | some xs => (match blsW xs with | some bs => .ok (.bl (bs.any id)) G | none => .no) | none => .no)
  | _ => .no
def allW : GCall := fun G ws => match ws with
  | [.ref n] => (match rdL G n with | some xs => (match blsW xs with | some bs => .ok (.bl (bs.all id)) G | none => .no) | none => .no)
  | _ => .no
theorem cg_any {k : Nat} (c : GC X XP k) : CaG X XP (.builtin "any") anyW := by
  refine ⟨_, cr_any c.calm, fun ρ G σ H ws vs Q s r o => ?_⟩
  unfold anyW at o
  split at o
  · cases r with
    | cons r rr =>
      cases rr
      cases r with
      | ref hn =>
        split at o
        · rename_i xs hx
          split at o
          · rename_i bs hi
            obtain ⟨us, q1, q2⟩ := rdL_ok s hn hx
            exact ⟨_, bs, rfl, by rw [← blsW_ok q2 hi]; exact q1, o.ok s (.bl _)⟩
          · exact o.elim
        · exact o.elim
  · exact o.elim
theorem cg_all {k : Nat} (c : GC X XP k) : CaG X XP (.builtin "all") allW := by
  refine ⟨_, cr_all c.calm, fun ρ G σ H ws vs Q s r o => ?_⟩
  unfold allW at o
  split at o
  · cases r with
    | cons r rr =>
      cases rr
      cases r with
      | ref hn =>
        split at o
        · rename_i xs hx
          split at o
          · rename_i bs hi
            obtain ⟨us, q1, q2⟩ := rdL_ok s hn hx
            exact ⟨_, bs, rfl, by rw [← blsW_ok q2 hi]; exact q1, o.ok s (.bl _)⟩
          · exact o.elim
        · exact o.elim
  · exact o.elim
theorem e_any {G : Cells} {n : Nat} {bs : List Bool} (h : G[n]? = some (.lst (bs.map W.bl))) : anyW G [.ref n] = .ok (.bl (bs.any id)) G := by
  unfold anyW rdL; simp only [h, blsW_map]
theorem e_all {G : Cells} {n : Nat} {bs : List Bool} (h : G[n]? = some (.lst (bs.map W.bl))) : allW G [.ref n] = .ok (.bl (bs.all id)) G := by
  unfold allW rdL; simp only [h, blsW_map]
end
end PL
/- part PLT -/
set_option maxHeartbeats 4000000
namespace PL
open PySem PySem.Spec PyProof.Rows L2
section
variable {X : Cx} {XP : Wish} {pos : Pos}
/-! ### two tests of one clause -/
theorem pts_two {a b : Expr} {t u : TT} (h1 : PT X a t) (h2 : PT X b u) : PTs X [a, b] (fun σ H Q => t σ H fun x H1 => if x = true then u σ H1 Q else Q false H1) := ⟨fun pins s σ H Q I hw => by
  simp only [List.forIn_cons, List.forIn_nil, if_true]
  refine wpAny_bind (wpAny_bind (thn (h1.run pins s σ H _ I hw) fun x s1 hx => ?_))
  obtain ⟨H1, I1, q⟩ := hx
  cases x with
  | false =>
    simp only [Bool.false_eq_true, if_false] at q
    exact wpAny_pure (wpAny_bind (wpAny_pure (wpAny_pure ⟨H1, I1, q⟩)))
  | true =>
    simp only [if_true] at q
    exact wpAny_pure (wpAny_bind (wpAny_bind (thn (h2.run pins s1 σ H1 _ I1 q) fun y s2 hy => wpAny_pure (wpAny_pure hy))))⟩
def mBoth (t u : MT) : MT := fun E G => (t E G).bind fun x G1 => if x = true then u E G1 else .ok false G1
theorem hts_two {a b : Expr} {m n : MT} (h : HT X XP a m) (k : HT X XP b n) : HTs X XP [a, b] (mBoth m n) := by
  obtain ⟨t, h1, h2⟩ := h.ex
  obtain ⟨u, k1, k2⟩ := k.ex
  refine ⟨_, pts_two h1 k1, fun ρ E G σ H Q er sr q => h2 ρ E G σ H _ er sr (q.bind fun x G1 ρ1 H1 y e1 s1 r1 z => ?_)⟩
  cases r1
  cases x with
  | true =>
    rw [if_pos rfl] at z ⊢
    exact k2 ρ1 E G1 σ H1 Q (er.mono e1) s1 z
  | false =>
    rw [if_neg Bool.false_ne_true] at z ⊢
    exact z.ok s1 rfl
end
section
variable {b : Bs} {Γ : TEnv} {c c1 c2 : Nat} {C : Tp (List W)}
theorem et_both {t t' : MT} {p q p' q' : Prop} (h : Et b Γ t p q c1) (k : p → Et b Γ t' p' q' c2) : Et b Γ (mBoth t t') (p ∧ p') (q ∨ (p ∧ q')) (c1 + c2) := fun n S E G hn e => by
  show (Rs.bind _ _).sat _
  refine (h n S E G (by omega) e).bind fun x G1 z => ?_
  obtain ⟨i1, f1, z1, z2⟩ := z
  cases x with
  | true =>
    rw [if_pos rfl]
    refine (k (z1 rfl) _ S E G1 (by omega) (e.mv i1 f1)).mono fun y G2 z => ?_
    obtain ⟨i2, f2, y1, y2⟩ := z
    exact ⟨by rw [← Nat.add_assoc]; exact i2, f1.trans f2, fun u => ⟨z1 rfl, y1 u⟩, fun u => .inr ⟨z1 rfl, y2 u⟩⟩
  | false =>
    rw [if_neg Bool.false_ne_true]
    exact ⟨b.I.up (by omega) i1, f1, (fun u => nomatch u), fun _ => .inl (z2 rfl)⟩
theorem ev_any {m : ME} {bs : List Bool} (h : Er b Γ m (dL (tEq (bs.map W.bl))) c) : Ev b Γ (mCall anyW (mCons m mNil)) (.val (tEq (.bl (bs.any id)))) c :=
  ev_read h fun S G n x hc q => by
    obtain ⟨ws, rfl, q⟩ := q
    obtain rfl : ws = bs.map W.bl := q
    rw [e_any hc]; exact ⟨Fr.refl, rfl⟩
theorem ev_all {m : ME} {bs : List Bool} (h : Er b Γ m (dL (tEq (bs.map W.bl))) c) : Ev b Γ (mCall allW (mCons m mNil)) (.val (tEq (.bl (bs.all id)))) c :=
  ev_read h fun S G n x hc q => by
    obtain ⟨ws, rfl, q⟩ := q
    obtain rfl : ws = bs.map W.bl := q
    rw [e_all hc]; exact ⟨Fr.refl, rfl⟩
end
/-! ### comprehensions with many fors, typed -/
section
variable {Sp : List Nat} {G0 : Cells} {gh : Tp Unit} {Γ Γ1 : TEnv}
def NoOwn (Γ : TEnv) : Prop := ∀ (i : Nat) (D : Tp Cell), Γ[i]? ≠ some (.own D)
/-- the body sets ys behind the list at the cell n -/
def Eb (Sp : List Nat) (G0 : Cells) (gh : Tp Unit) (Γ : TEnv) (p : Nat → PB) (ys : List W) : Prop := ∀ n S E G acc, n ∈ S → G0.length ≤ n → EOk (nilB Sp G0 gh) 0 S Γ E G → G[n]? = some (.lst acc) → acc.length + ys.length ≤ 100000 → ∃ G', p n E G = some G' ∧ G'[n]? = some (.lst (acc ++ ys)) ∧ Fr [n] G G'
theorem eb_last {m : ME} {y : W} (h : Ev (nilB Sp G0 gh) Γ m (.val (tEq y)) 0) : Eb Sp G0 gh Γ (mBz m) [y] := fun n S E G acc hn h0 e hg hl => by
  obtain ⟨w, G1, e1, q⟩ := (h 0 S E G (Nat.le_refl _) e).get
  obtain ⟨_, f1, rfl⟩ := q
  have h1 := f1.get hg (by simp)
  have hz : acc.length < sizeLine := big_le (m := 100000) (by simp at hl; omega)
  refine ⟨G1.set n (.lst (acc ++ [w])), ?_, get_set (lt_of_get h1), (f1.sub (by simp)).trans (Fr.set (by simp))⟩
  unfold mBz
  simp only [e1, h1, hz, if_true]
theorem clG_eb {α : Type} {pit : PIt} {g : MG} {t : MT} {p : Nat → PB} {vs : List Nat} {n : Nat} {S : List Nat} {E : PEnv} {Ga : Cells} {xs : List α} {h : α → W} {ys : α → List W} (hn : n ∈ S) (h0 : G0.length ≤ n) (it : ∀ G' i, Fr [n] Ga G' → pit.at G' i = some (xs.map h)[i]?)
    (hs : ∀ w ∈ xs, ∃ Γ1, Eg (nilB Sp G0 gh) (wipeG Γ vs) g (tEq (h w)) Γ1 ∧ ((Et (nilB Sp G0 gh) Γ1 t True False 0 ∧ Eb Sp G0 gh Γ1 p (ys w)) ∨ (Et (nilB Sp G0 gh) Γ1 t False True 0 ∧ ys w = []))) (hno : NoOwn Γ) :
    ∀ k i G acc, Fr [n] Ga G → EOk (nilB Sp G0 gh) 0 S Γ E G → G[n]? = some (.lst acc) → i + k = xs.length → acc.length + ((xs.drop i).flatMap ys).length ≤ 100000 →
      ∃ G', clG pit g t (p n) (wipeE E vs) k i G = some G' ∧ G'[n]? = some (.lst (acc ++ (xs.drop i).flatMap ys)) ∧ Fr [n] G G' := by
  intro k
  induction k with
  | zero =>
    intro i G acc f e hg hi _
    have q := it G i f
    have hx : xs[i]? = none := List.getElem?_eq_none_iff.mpr (by omega)
    rw [List.getElem?_map, hx] at q
    unfold clG
    rw [q]
    refine ⟨G, rfl, ?_, Fr.refl⟩
    rw [List.drop_eq_nil_of_le (by omega)]
    simpa using hg
  | succ k ih =>
    intro i G acc f e hg hi hl
    have hlt : i < xs.length := by omega
    have q := it G i f
    rw [List.getElem?_map, List.getElem?_eq_getElem hlt, Option.map_some] at q
    have hd : xs.drop i = xs[i] :: xs.drop (i + 1) := List.drop_eq_getElem_cons hlt
    rw [hd, List.flatMap_cons] at hl ⊢
    rw [List.length_append] at hl
    unfold clG
    rw [q]
    simp only
    obtain ⟨Γ1, hgd, hor⟩ := hs xs[i] (List.getElem_mem hlt)
    obtain ⟨E1, G1, e1, y⟩ := (hgd 0 S (wipeE E vs) G (h xs[i]) (e.wipe vs) rfl).get
    obtain ⟨rfl, e2⟩ := y
    rw [e1]
    simp only
    rcases hor with ⟨ht, hb⟩ | ⟨ht, hnil⟩
    · obtain ⟨x, G2, t1, y⟩ := (ht 0 S E1 _ (Nat.le_refl _) e2).get
      obtain ⟨_, f2, y1, y2⟩ := y
      cases x with
      | false => exact (y2 rfl).elim
      | true =>
        simp only [t1]
        obtain ⟨G3, b1, b2, b3⟩ := hb n S E1 G2 acc hn h0 (e2.mv trivial f2) (f2.get hg (by simp)) (by omega)
        rw [b1]
        simp only
        have f3 : Fr [n] G1 G3 := (f2.sub (by simp)).trans b3
        have e3 : EOk (nilB Sp G0 gh) 0 S Γ E G3 := EOk.frame (k0 := 0) e hn h0 (fun i D z1 z2 => absurd z1 (hno i D)) trivial f3
        obtain ⟨G4, c1, c2, c3⟩ := ih (i + 1) G3 _ (f.trans f3) e3 b2 (by omega) (by rw [List.length_append]; omega)
        exact ⟨G4, c1, by rw [c2, List.append_assoc], f3.trans c3⟩
    · obtain ⟨x, G2, t1, y⟩ := (ht 0 S E1 _ (Nat.le_refl _) e2).get
      obtain ⟨_, f2, y1, y2⟩ := y
      cases x with
      | true => exact (y1 rfl).elim
      | false =>
        simp only [t1]
        rw [hnil, List.nil_append]
        rw [hnil] at hl
        have f2' : Fr [n] G1 G2 := f2.sub (by simp)
        obtain ⟨G4, c1, c2, c3⟩ := ih (i + 1) G2 acc (f.trans f2') (e.mv trivial f2) (f2.get hg (by simp)) (by omega) (by simpa using hl)
        exact ⟨G4, c1, c2, f2'.trans c3⟩
theorem eb_next {α : Type} {mi : MI} {g : MG} {t : MT} {p : Nat → PB} {vs : List Nat} {xs : List α} (h : α → W) (ys : α → List W) (hno : NoOwn Γ) (hi : Ei (nilB Sp G0 gh) Γ mi (tEq (xs.map h)) 0)
    (hs : ∀ w ∈ xs, ∃ Γ1, Eg (nilB Sp G0 gh) (wipeG Γ vs) g (tEq (h w)) Γ1 ∧ ((Et (nilB Sp G0 gh) Γ1 t True False 0 ∧ Eb Sp G0 gh Γ1 p (ys w)) ∨ (Et (nilB Sp G0 gh) Γ1 t False True 0 ∧ ys w = []))) :
    Eb Sp G0 gh Γ (mBn mi g t p vs) (xs.flatMap ys) := fun n S E G acc hn h0 e hg hl => by
  obtain ⟨pit, G1, e1, q⟩ := (hi 0 S E G (Nat.le_refl _) e).get
  obtain ⟨_, f1, zs, it, hz⟩ := q
  obtain rfl : zs = xs.map h := hz
  obtain ⟨G2, c1, c2, c3⟩ := clG_eb (Γ := Γ) (E := E) (h := h) hn h0 (fun G' i f => it.at' G' i (f.sub fun j hj => by simp at hj; rw [hj]; exact hn)) hs hno (pit.len G1) 0 G1 acc Fr.refl (e.mv trivial f1) (f1.get hg (by simp)) (by rw [it.len, List.length_map]; omega) (by simpa using hl)
  refine ⟨G2, ?_, by simpa using c2, (f1.sub (by simp)).trans c3⟩
  unfold mBn
  rw [e1]
  exact c1
theorem ev_lcG {α : Type} {mi : MI} {g : MG} {t : MT} {p : Nat → PB} {vs : List Nat} {xs : List α} (h : α → W) (ys : α → List W) (hno : NoOwn Γ) (hi : Ei (nilB Sp G0 gh) Γ mi (tEq (xs.map h)) 0) (hl : (xs.flatMap ys).length ≤ 100000)
    (hs : ∀ w ∈ xs, ∃ Γ1, Eg (nilB Sp G0 gh) (wipeG Γ vs) g (tEq (h w)) Γ1 ∧ ((Et (nilB Sp G0 gh) Γ1 t True False 0 ∧ Eb Sp G0 gh Γ1 p (ys w)) ∨ (Et (nilB Sp G0 gh) Γ1 t False True 0 ∧ ys w = []))) :
    Ev (nilB Sp G0 gh) Γ (mLcG mi g t p vs) (.new (dL (tEq (xs.flatMap ys)))) 0 := fun n S E G hn e => by
  have hn0 : n = 0 := by have : n + 0 ≤ 0 := hn; omega
  subst hn0
  unfold mLcG
  refine (hi 0 S E G hn e).bind fun pit G1 q => ?_
  obtain ⟨_, f1, zs, it, hz⟩ := q
  obtain rfl : zs = xs.map h := hz
  have e1 := e.mv (k1 := 0) trivial f1
  have fp : Fr [] G1 (G1 ++ [.lst []]) := Fr.push
  have e2 : EOk (nilB Sp G0 gh) 0 (G1.length :: S) Γ E (G1 ++ [.lst []]) := e1.wid (Nat.le_refl _) trivial fp (by simp)
  have h0 : G0.length ≤ G1.length := e1.fr.1
  obtain ⟨G2, c1, c2, c3⟩ := clG_eb (Γ := Γ) (E := E) (n := G1.length) (S := G1.length :: S) (by simp) h0 (xs := xs) (h := h) (pit := pit) (Ga := G1 ++ [.lst []])
    (fun G' i f => it.at' G' i ((Fr.fresh fp (Nat.le_refl _) f).of_nil)) hs hno (pit.len G1) 0 (G1 ++ [.lst []]) [] Fr.refl e2 (push_get _ _) (by rw [it.len, List.length_map]; omega) (by simpa using hl)
  rw [c1]
  exact ⟨trivial, (f1.trans fp).fresh f1.1 c3, G1.length, _, rfl, f1.1, c2, _, rfl, by simp [tEq, tP]⟩
end
end PL
/- part PLU -/
set_option maxHeartbeats 4000000
namespace PL
open PySem PySem.Spec PyProof.Rows L2
section
variable {b : Bs} {Γ Γ1 : TEnv} {R : RT} {N : Nat → PEnv → Cells → Prop} {c c1 c2 c3 : Nat} {T : Tp W} {C : Tp (List W)}
/-! ### cuts -/
def Eo (b : Bs) (Γ : TEnv) (l : MO) (o : Option Int) (c : Nat) : Prop := ∀ n S E G, n + c ≤ b.lim → EOk b n S Γ E G → (l E G).sat fun q G' => b.I.P (n + c) G' ∧ Fr b.S0 G G' ∧ q = o
theorem eo_no : Eo b Γ mNoPart none 0 := fun n S E G hn e => by
  rw [s_nopart]; exact ⟨e.inv, Fr.refl, rfl⟩
theorem eo_at {m : ME} {i : Int} (h : Ev b Γ m (.val (tEq (.int i))) c) : Eo b Γ (mPart m) (some i) c := fun n S E G hn e => by
  rw [s_part]
  refine (h n S E G hn e).mono fun w G1 q => ?_
  obtain ⟨i1, f1, rfl⟩ := q
  exact ⟨_, rfl, i1, f1, rfl⟩
theorem ev_cutG {m : ME} {l u : MO} {o p : Option Int} (h : Ev b Γ m (.val T) c) (hl : Eo b Γ l o c1) (hu : Eo b Γ u p c2) (hg : ∀ S G x, T.P S G x → (cutOp G x o p).sat fun z G' => Fr [] G G' ∧ R.P S G G' z) : Ev b Γ (mCut m l u) R (c + c1 + c2) := fun n S E G hn e => by
  rw [s_cut]
  refine (h n S E G (by omega) e).mono fun w G1 q => ?_
  obtain ⟨i1, f1, q⟩ := q
  have e1 := e.mv i1 f1
  refine (hl _ S E G1 (by omega) e1).mono fun lo G2 q2 => ?_
  obtain ⟨i2, f2, rfl⟩ := q2
  have e2 := e1.mv i2 f2
  refine (hu _ S E G2 (by omega) e2).mono fun hi G3 q3 => ?_
  obtain ⟨i3, f3, rfl⟩ := q3
  have fS : Fr S G1 G3 := (f2.trans f3).sub e.s0
  refine (hg S G3 w (T.mono fS q)).mono fun z G4 q4 => ⟨b.I.up (by omega) (b.I.nil q4.1 i3), ((f1.trans f2).trans f3).trans q4.1.of_nil, RT.P.from (R := R) q4.2 ((f1.trans f2).trans f3).1⟩
theorem ev_cutE {m : ME} {l u : MO} {o p : Option Int} {ws us : List W} (h : Ev b Γ m (.val (tEq (.tup ws))) c) (hl : Eo b Γ l o c1) (hu : Eo b Γ u p c2) (he : cutW ws o p = us) : Ev b Γ (mCut m l u) (.val (tEq (.tup us))) (c + c1 + c2) :=
  ev_cutG h hl hu fun S G x e => by rw [show x = _ from e, e_cutT]; exact ⟨Fr.refl, by rw [he]; rfl⟩
theorem ev_cutL {m : ME} {l u : MO} {o p : Option Int} {ws us : List W} (h : Ev b Γ m (.val (tLs (tEq ws))) c) (hl : Eo b Γ l o c1) (hu : Eo b Γ u p c2) (he : cutW ws o p = us) : Ev b Γ (mCut m l u) (.new (dL (tEq us))) (c + c1 + c2) :=
  ev_cutG h hl hu fun S G x e => by
    obtain ⟨n, y, rfl, hn, hg, vs, rfl, q⟩ := e
    obtain rfl : vs = ws := q
    rw [e_cutL hg, he]; exact ⟨Fr.push, G.length, _, rfl, Nat.le_refl _, push_get _ _, _, rfl, rfl⟩
theorem ev_cutS {m : ME} {l u : MO} {o p : Option Int} {ws us : List W} (h : Ev b Γ m (.val (tSeq ws)) c) (hl : Eo b Γ l o c1) (hu : Eo b Γ u p c2) (he : cutW ws o p = us) : Ev b Γ (mCut m l u) (.val (tSeq us)) (c + c1 + c2) := fun n S E G hn e => by
  have key : Ev b Γ (mCut m l u) (.val (tSeq us)) (c + c1 + c2) := by
    refine fun n S E G hn e => ?_
    rw [s_cut]
    refine (h n S E G (by omega) e).mono fun w G1 q => ?_
    obtain ⟨i1, f1, q⟩ := q
    have e1 := e.mv i1 f1
    refine (hl _ S E G1 (by omega) e1).mono fun lo G2 q2 => ?_
    obtain ⟨i2, f2, rfl⟩ := q2
    have e2 := e1.mv i2 f2
    refine (hu _ S E G2 (by omega) e2).mono fun hi G3 q3 => ?_
    obtain ⟨i3, f3, rfl⟩ := q3
    have fS : Fr S G1 G3 := (f2.trans f3).sub e.s0
    rcases (tSeq ws).mono fS q with hx | ⟨k, y, rfl, hk, hg, vs, rfl, hu⟩
    · rw [show w = _ from hx, e_cutT, he]
      exact ⟨b.I.up (by omega) i3, (f1.trans f2).trans f3, .inl rfl⟩
    · obtain rfl : vs = ws := hu
      rw [e_cutL hg, he]
      refine ⟨b.I.up (by omega) (b.I.nil Fr.push i3), ((f1.trans f2).trans f3).trans Fr.push, .inr ⟨G3.length, _, rfl, fun z => ?_, push_get _ _, _, rfl, rfl⟩⟩
      have := e.slt _ z
      have := ((f1.trans f2).trans f3).1
      omega
  exact key n S E G hn e
/-! ### the greatest of a list, lists that are sorted already -/
def maxI : List Int → Int
  | [] => 0
  | i :: is => is.foldl max i
theorem e_maxL {G : Cells} {n : Nat} {i : Int} {is : List Int} (h : G[n]? = some (.lst ((i :: is).map W.int))) : maxU G [.ref n] = .ok (.int (maxI (i :: is))) G := by
  have hi := intsW_map (i :: is)
  show maxW G [.ref n] = _
  unfold maxW
  simp only [rdL_lst h, hi]
  rfl
theorem ev_maxL {m : ME} {is : List Int} (h : Er b Γ m (dL (tEq (is.map W.int))) c) (hn : is ≠ []) : Ev b Γ (mCall maxU (mCons m mNil)) (.val (tEq (.int (maxI is)))) c :=
  ev_read h fun S G n x hc q => by
    obtain ⟨ws, rfl, q⟩ := q
    obtain rfl : ws = is.map W.int := q
    cases is with
    | nil => exact absurd rfl hn
    | cons i is => rw [e_maxL hc]; exact ⟨Fr.refl, rfl⟩
theorem fold_max (is : List Int) : ∀ i : Int, i ≤ is.foldl max i ∧ (∀ y ∈ is, y ≤ is.foldl max i) ∧ (is.foldl max i = i ∨ is.foldl max i ∈ is) := by
  induction is with
  | nil => intro i; exact ⟨Int.le_refl _, fun y hy => (List.not_mem_nil hy).elim, .inl rfl⟩
  | cons j is ih =>
    intro i
    obtain ⟨h1, h2, h3⟩ := ih (max i j)
    refine ⟨Int.le_trans (Int.le_max_left i j) h1, fun y hy => ?_, ?_⟩
    · rcases List.mem_cons.mp hy with rfl | hy
      · exact Int.le_trans (Int.le_max_right i y) h1
      · exact h2 y hy
    · show is.foldl max (max i j) = i ∨ is.foldl max (max i j) ∈ j :: is
      rcases h3 with h3 | h3
      · rcases Int.le_total i j with h | h
        · right; rw [h3, Int.max_eq_right h]; simp
        · left; rw [h3, Int.max_eq_left h]
      · right; exact List.mem_cons_of_mem _ h3
theorem maxI_lt {is : List Int} (hn : is ≠ []) {a : Int} : maxI is < a ↔ ∀ y ∈ is, y < a := by
  cases is with
  | nil => exact absurd rfl hn
  | cons i is =>
    obtain ⟨h1, h2, h3⟩ := fold_max is i
    constructor
    · intro h y hy
      rcases List.mem_cons.mp hy with rfl | hy
      · exact Int.lt_of_le_of_lt h1 h
      · exact Int.lt_of_le_of_lt (h2 y hy) h
    · intro h
      show is.foldl max i < a
      rcases h3 with h3 | h3
      · rw [h3]; exact h i (by simp)
      · exact h _ (List.mem_cons_of_mem _ h3)
theorem ev_sortL {m : ME} {nss : List (List Int)} (h : Er b Γ m (dL (tEq (tupsW nss))) c) (hs : nss.Pairwise (fun a b => HT.lexLt b a = false)) : Ev b Γ (mCall sortedLW (mCons m mNil)) (.new (dL (tEq (tupsW nss)))) c :=
  ev_read h fun S G n x hc q => by
    obtain ⟨ws, rfl, q⟩ := q
    obtain rfl : ws = tupsW nss := q
    rw [e_sortL hc, ← sortL_is (List.Perm.refl _) hs]
    exact ⟨Fr.push, G.length, _, rfl, Nat.le_refl _, push_get _ _, _, rfl, rfl⟩
/-! ### a loop that sets items behind a list -/
theorem es_forA {α : Type} {mi : MI} {g : MG} {body m' : MS} {k : Nat} {acc : List W} (M : Nat) (xs : List α) (f : α → W) (ys : α → List W) (hk : Γ[k]? = some (.own (dL (tEq acc)))) (hi : Ei b Γ mi (tEq (xs.map f)) c1) (hx : xs.length ≤ M)
    (hL : (acc ++ xs.flatMap ys).length ≤ 100000)
    (hs : ∀ x ∈ xs, ∀ acc' pit, (acc' ++ ys x).length ≤ 100000 → ∃ Γ1, Eg (b.add (gIt pit (xs.map f) (tEq (xs.map f)))) (Γ.set k (.own (dL (tEq acc')))) g (tEq (f x)) Γ1 ∧
      Es (b.add (gIt pit (xs.map f) (tEq (xs.map f)))) Γ1 body (EE (b.add (gIt pit (xs.map f) (tEq (xs.map f)))) (Γ.set k (.own (dL (tEq (acc' ++ ys x)))))) R c2)
    (hd : Es b (Γ.set k (.own (dL (tEq (acc ++ xs.flatMap ys))))) m' N R c3) : Es b Γ (sSeq (sForI mi g body) m') N R (c1 + M * c2 + c3) := by
  refine es_for (p := fun zs => zs = xs.map f) M (fun _ _ (_ : Unit) => True) (fun _ i _ => Γ.set k (.own (dL (tEq (acc ++ (xs.take i).flatMap ys))))) (fun _ _ w => tEq w) hi (fun S G zs q => ⟨q, by rw [show zs = _ from q]; simpa using hx⟩) (fun _ _ _ _ _ _ _ => rfl) ?_ ?_ ?_
  · rintro zs rfl
    refine ⟨(), trivial, ?_⟩
    rw [getElem?_set_self' hk (by simp)]
    exact EnvLe.refl _
  · rintro zs i w _ pit rfl hw _
    rw [List.getElem?_map] at hw
    obtain ⟨x, h1, rfl⟩ := Option.map_eq_some_iff.mp hw
    have ht := take1 h1
    have hlt := (List.getElem?_eq_some_iff.mp h1).1
    have hb : (acc ++ (xs.take i).flatMap ys ++ ys x).length ≤ 100000 := by
      have e : xs = xs.take (i + 1) ++ xs.drop (i + 1) := (List.take_append_drop _ _).symm
      rw [e, List.flatMap_append, ht, List.flatMap_append] at hL
      simp only [List.length_append, List.flatMap_cons, List.flatMap_nil, List.append_nil] at hL ⊢
      omega
    obtain ⟨Γ1, q1, q2⟩ := hs x (List.mem_of_getElem? h1) _ pit hb
    refine ⟨Γ1, q1, es_post q2 fun n E G h => ⟨(), trivial, ?_⟩⟩
    rw [ht, List.flatMap_append]
    simp only [List.flatMap_cons, List.flatMap_nil, List.append_nil]
    rw [← List.append_assoc]
    exact h
  · rintro zs _ rfl _
    rw [List.length_map, List.take_length]
    exact hd
theorem ev_andB {m m' : ME} {x y : Bool} (h : Ev b Γ m (.val (tEq (.bl x))) c1) (k : x = true → Ev b Γ m' (.val (tEq (.bl y))) c2) : Ev b Γ (mAnd m m') (.val (tEq (.bl (x && y)))) (c1 + c2) := fun n S E G hn e => by
  show (Rs.bind _ _).sat _
  refine (h n S E G (by omega) e).bind fun w G1 q => ?_
  obtain ⟨i1, f1, rfl⟩ := q
  cases x with
  | true =>
    refine (k rfl _ S E G1 (by omega) (e.mv i1 f1)).mono fun z G2 q => ?_
    obtain ⟨i2, f2, rfl⟩ := q
    exact ⟨by rw [← Nat.add_assoc]; exact i2, f1.trans f2, rfl⟩
  | false => exact ⟨b.I.up (by omega) i1, f1, rfl⟩
theorem ev_orB {m m' : ME} {x y : Bool} (h : Ev b Γ m (.val (tEq (.bl x))) c1) (k : x = false → Ev b Γ m' (.val (tEq (.bl y))) c2) : Ev b Γ (mOr m m') (.val (tEq (.bl (x || y)))) (c1 + c2) := fun n S E G hn e => by
  show (Rs.bind _ _).sat _
  refine (h n S E G (by omega) e).bind fun w G1 q => ?_
  obtain ⟨i1, f1, rfl⟩ := q
  cases x with
  | false =>
    refine (k rfl _ S E G1 (by omega) (e.mv i1 f1)).mono fun z G2 q => ?_
    obtain ⟨i2, f2, rfl⟩ := q
    exact ⟨by rw [← Nat.add_assoc]; exact i2, f1.trans f2, rfl⟩
  | true => exact ⟨b.I.up (by omega) i1, f1, rfl⟩
theorem tTrip {x y z : W} : Tle (tEq (.tup [x, y, z])) (tTup (cN [tEq x, tEq y, tEq z])) := fun S G w e => ⟨[x, y, z], e, rfl, rfl, rfl, trivial⟩
end
/-! ### lists that are told apart by what stands in them -/
theorem lt_ext {α : Type} {r : α → α → Prop} (hi : ∀ a, ¬ r a a) (ha : ∀ a b, r a b → ¬ r b a) : ∀ {xs ys : List α}, xs.Pairwise r → ys.Pairwise r → (∀ x, x ∈ xs ↔ x ∈ ys) → xs = ys
  | [], [], _, _, _ => rfl
  | [], y :: ys, _, _, h => absurd ((h y).mpr (by simp)) (by simp)
  | x :: xs, [], _, _, h => absurd ((h x).mp (by simp)) (by simp)
  | x :: xs, y :: ys, hx, hy, h => by
    rw [List.pairwise_cons] at hx hy
    have e : x = y := by
      rcases List.mem_cons.mp ((h x).mp (by simp)) with e | m1
      · exact e
      · rcases List.mem_cons.mp ((h y).mpr (by simp)) with e | m2
        · exact e.symm
        · exact absurd (hy.1 x m1) (ha _ _ (hx.1 y m2))
    subst e
    refine congrArg (x :: ·) (lt_ext hi ha hx.2 hy.2 fun z => ?_)
    have := h z
    constructor
    · intro m
      rcases List.mem_cons.mp (this.mp (List.mem_cons_of_mem _ m)) with e | m'
      · exact absurd (hx.1 z m) (e ▸ hi _)
      · exact m'
    · intro m
      rcases List.mem_cons.mp (this.mpr (List.mem_cons_of_mem _ m)) with e | m'
      · exact absurd (hy.1 z m) (e ▸ hi _)
      · exact m'
end PL
/- part PLV -/
set_option maxHeartbeats 4000000
namespace PL
open PySem PySem.Spec PyProof.Rows L2
section
variable {b : Bs} {Γ Γ1 : TEnv} {R : RT} {N : Nat → PEnv → Cells → Prop} {c c1 c2 c3 : Nat} {T : Tp W} {C : Tp (List W)}
/-- a loop that ends by a measure -/
theorem es_while {α : Type} {t : MT} {body m' : MS} {ct : Nat} (M : Nat) (A : Nat → α → Prop) (Γf : α → TEnv) (x0 : α) (h0 : A M x0)
    (hs : ∀ m x, A m x → ∃ p q, Et b (Γf x) t p q ct ∧ (p → ∃ k, m = k + 1 ∧ Es b (Γf x) body (EX b (A k) Γf) R c2) ∧ (q → Es b (Γf x) m' N R c3)) :
    Es b (Γf x0) (sSeq (sWhile t body) m') N R (M * (ct + c2) + ct + c3) := fun n S E G hn e => by
  refine so_seq (So.sat.mono (so_while (N := fun E' G' => ∃ k x, k ≤ n + (M * (ct + c2) + ct) ∧ Es b (Γf x) m' N R c3 ∧ ∃ S', EOk b k S' (Γf x) E' G') (fun m E' G' => m ≤ M ∧ ∃ k x, k + m * (ct + c2) ≤ n + M * (ct + c2) ∧ A m x ∧ ∃ S', EOk b k S' (Γf x) E' G') ?_ M E G ⟨Nat.le_refl _, n, x0, Nat.le_refl _, h0, S, e⟩) ?_ fun _ _ h => h)
  · rintro m E' G' ⟨hm, k, x, hk, hA, S', e'⟩
    obtain ⟨p, q, ht, hp, hq⟩ := hs m x hA
    refine (ht k S' E' G' (by omega) e').mono fun y G1 z => ?_
    obtain ⟨i1, f1, z1, z2⟩ := z
    have e1 := e'.mv i1 f1
    cases y with
    | true =>
      rw [if_pos rfl]
      obtain ⟨m1, rfl, hb⟩ := hp (z1 rfl)
      rw [Nat.succ_mul] at hk
      refine ⟨m1, rfl, (hb _ S' E' G1 (by omega) e1).mono (fun E2 G2 ⟨j, hj, x2, hA2, S2, e2⟩ => ⟨by omega, j, x2, by omega, hA2, S2, e2⟩) fun w G2 y => ⟨b.I.up (by omega) y.1, y.2⟩⟩
    | false =>
      rw [if_neg (by decide)]
      exact ⟨k + ct, x, by omega, hq (z2 rfl), S', e1⟩
  · rintro E' G' ⟨k, x, hk, hE, S', e'⟩
    exact (hE k S' E' G' (by omega) e').mono (fun E2 G2 ⟨i, q⟩ => ⟨i, by omega, q.2⟩) fun _ _ q => ⟨b.I.up (by omega) q.1, q.2⟩
end
end PL
/- part PLW -/
set_option maxHeartbeats 4000000
namespace PL
open PySem PySem.Spec PyProof.Rows L2
section
variable {X : Cx} {XP : Wish} {pos : Pos} {k : Nat}
/-! ### a built-in function called with keywords: max(.., default=..) -/
def rMaxD (K : PySem.W.Frag) : List V → List V → Hp → VK → Prop := fun vs zs H Q => ∃ (a : Addr) (is : List Int) (d : V), vs = [V.ref a] ∧ zs = [d] ∧ SqL K H a (is.map V.int) ∧ Q (match is with | [] => d | i :: is => .int (is.foldl max i)) H
def maxDI (d : Int) : List Int → Int
  | [] => d
  | i :: is => is.foldl max i
theorem cr_maxD (c : GC X XP k) : CallRK X (.builtin "max") [Str.ofString "default"] (rMaxD X.K) := by
  intro pins s σ H vs zs us ws Q I r rz h
  obtain ⟨a, is, d, rfl, rfl, hs, q⟩ := h
  obtain rfl := Vals.ref1 r
  obtain ⟨w1, rfl, e1⟩ := vals1 rz
  obtain ⟨its, rv, hl, hz⟩ := I.list hs
  refine PySem.W.max_list_datum_default (α := Int) (I.ok.hd c.calm) hl.isList (PySem.W.HoldAll.of_ints rv.ints) ?_ (fun e h' tk hk => ?_) fun i is' j v h' tk e hv hh hk => ?_
  · show X.A.units + 1 + 0 < cLine
    have := c.hu; omega
  · subst e
    exact ⟨d, H, I.kept hk, e1, q⟩
  · subst e
    obtain ⟨bs, rd⟩ := hh
    have rd : Reads h' v (.int (PySem.W.maxOf i is')) bs := rd
    cases rd
    exact ⟨.int (PySem.W.maxOf i is'), H, I.kept hk, ⟨_, rfl⟩, by rw [maxOf_is]; exact q⟩
abbrev GCallK := Cells → List W → List W → Rs W
structure CaGK (X : Cx) (XP : Wish) (f : Value) (ks : List Str) (g : GCallK) : Prop where
  ex : ∃ r, CallRK X f ks r ∧ ∀ ρ G σ H ws ys vs zs Q, SR X.K ρ G H → VRs X.K ρ H ws vs → VRs X.K ρ H ys zs → Out X.K XP (VR X.K) σ ρ H (g G ws ys) Q → r vs zs H Q
def mCallK (g : GCallK) (m mk : MA) : ME := fun E G => (m E G).bind fun ws G1 => (mk E G1).bind fun zs G2 => g G2 ws zs
theorem he_callBK {x : Str} {p : Pos} {e : Expr} {es : List Expr} {kws : List Keyword} {ks : List Str} {id : String} {g : GCallK} {m mk : MA} (hc : CaGK X XP (.builtin id) ks g) (hg : Gl X x) (hm : X.mg x = none) (hv : bootBuiltins x = some (.builtin id)) (ha : HA X XP (e :: es) m) (hk : HK X XP kws mk) (hn : x ≠ "__name__" := by decide) (hdb : (x == ("__debug__" : Str)) = false := by decide)
    (he : backTo pos (starEach (e :: es) X.env) = (false, eval e X.env) :: backTo pos (starEach es X.env) := by rfl) (hpl : (backTo pos (starEach (e :: es) X.env)).any (·.1) = false := by rfl)
    (hall : (backToKw pos (keywordEach kws X.env)).all (·.1.isSome) = true := by rfl) (hnone : (backToKw pos (keywordEach kws X.env)).any (·.1.isNone) = false := by rfl) (hks : (backToKw pos (keywordEach kws X.env)).filterMap (·.1) = ks := by rfl) :
    HE X XP (.Call (.Name x p) (e :: es) kws pos) (mCallK g m mk) := by
  obtain ⟨r, h1, h2⟩ := hc.ex
  obtain ⟨t, a1, a2⟩ := ha.ex
  obtain ⟨tk, b1, b2⟩ := hk.ex
  exact ⟨_, pe_callBK h1 hg hm hv a1 b1 hn hdb he hpl hall hnone hks, fun ρ E G σ H Q er sr q => a2 ρ E G σ H _ er sr (q.bind fun ws G1 ρ1 H1 vs e1 s1 q1 k1 => b2 ρ1 E G1 σ H1 _ (er.mono e1) s1 (k1.bind fun ys G2 ρ2 H2 zs e2 s2 q2 k2 => h2 ρ2 G2 σ H2 ws ys vs zs Q s2 (q1.mono e2) q2 k2))⟩
def maxDW : GCallK := fun G ws ys => match ws, ys with
  | [.ref n], [.int d] => (match rdL G n with | some xs => (match intsW xs with | some is => .ok (.int (maxDI d is)) G | none => .no) | none => .no)
  | _, _ => .no
theorem cg_maxD (c : GC X XP k) : CaGK X XP (.builtin "max") [Str.ofString "default"] maxDW := by
  refine ⟨_, cr_maxD c, fun ρ G σ H ws ys vs zs Q s r rz o => ?_⟩
  unfold maxDW at o
  split at o
  · rename_i n d
    cases r with
    | cons r rr =>
      cases rr
      cases r with
      | ref hn =>
        cases rz with
        | cons r2 rr2 =>
          cases rr2
          cases r2
          split at o
          · rename_i xs hx
            split at o
            · rename_i is hi
              obtain ⟨us, q1, q2⟩ := rdL_ok s hn hx
              refine ⟨_, is, .int d, rfl, rfl, by rw [← intsW_ok q2 hi]; exact q1, ?_⟩
              cases is with
              | nil => exact o.ok s (.int _)
              | cons i is => exact o.ok s (.int _)
            · exact o.elim
          · exact o.elim
  · exact o.elim
theorem e_maxD {G : Cells} {n : Nat} {is : List Int} {d : Int} (h : G[n]? = some (.lst (is.map W.int))) : maxDW G [.ref n] [.int d] = .ok (.int (maxDI d is)) G := by
  unfold maxDW; simp only [rdL_lst h, intsW_map]
end
section
variable {b : Bs} {Γ : TEnv} {c c1 c2 : Nat}
theorem ev_maxD {m : ME} {is : List Int} {d : Int} (h : Ev b Γ m (.val (tLs (tEq (is.map W.int)))) c) : Ev b Γ (mCallK maxDW (mCons m mNil) (mCons (mC (.int d)) mNil)) (.val (tEq (.int (maxDI d is)))) c := fun n S E G hn e => by
  show (Rs.bind _ _).sat _
  refine ((ea_cons h ea_nil) n S E G hn e).bind fun ws G1 q => ?_
  obtain ⟨i1, f1, q⟩ := q
  match ws, q with
  | [w], q =>
    obtain ⟨k, y, rfl, _, hg, us, rfl, hu⟩ := q.1
    obtain rfl : us = is.map W.int := hu
    show (maxDW G1 [.ref k] [.int d]).sat _
    rw [e_maxD hg]
    exact ⟨i1, f1, rfl⟩
end
end PL
/- part PLX -/
set_option maxHeartbeats 1000000
namespace PL
open PySem PySem.Spec PyProof.Rows L2
/-! ### zip of a tuple and a list -/
/-- turn by turn: an item of the tuple at a, one of the list at b, paired anew -/
def ItzW (K : Fg) (a b : Addr) : It where
  go i H := ∃ (ps qs : List V) (p q : V), SqT K H a ps ∧ SqL K H b qs ∧ ps[i]? = some p ∧ qs[i]? = some q
  yld i H v H' := ∃ T p q, v = .ref T ∧ H T = none ∧ H' = upd H T (.tup [p, q]) ∧ (∀ ps, SqT K H a ps → ps[i]? = some p) ∧ ∀ qs, SqL K H b qs → qs[i]? = some q
  stop i H := ∃ ps qs : List V, SqT K H a ps ∧ SqL K H b qs ∧ i ≤ ps.length ∧ i ≤ qs.length ∧ (i = ps.length ∨ i = qs.length)
theorem turn_zipW {P : Program} {w : World} {K : Fg} {elts : List Expr} {kk : Nat} {tpos : Pos} {a b z TI TO i1 i2 : Addr} (D : ZipSep2 z TI TO i1 i2 [i1, a] [i2, b]) (ha : a ≠ i1) (hb : b ≠ i2) :
    Turn P w K (.Tuple elts kk tpos) (ItzW K a b) [z, TI, TO, i1, i2] z (fun i h => IsZip h z TI TO .none ∧ IsTupOf2 h TI (.ref i1) (.ref i2) ∧ (∃ p q, IsTupOf2 h TO p q) ∧ h.IsTupleIter i1 a i ∧ h.IsListIter i2 b i) where
  mem := by simp
  obj := fun i h st c hc => by
    obtain ⟨s1, s2, ⟨p, q, s3⟩, ⟨o1, e1, _, d1⟩, ⟨o2, e2, _, d2⟩⟩ := st
    rcases five hc with rfl | rfl | rfl | rfl | rfl
    · exact ⟨_, s1, fun v q => nomatch q⟩
    · exact ⟨_, s2, fun v q => nomatch q⟩
    · exact ⟨_, s3, fun v q => nomatch q⟩
    · exact ⟨o1, e1, fun v q => by rw [d1] at q; cases q⟩
    · exact ⟨o2, e2, fun v q => by rw [d2] at q; cases q⟩
  keep := fun i h h' st k => by
    obtain ⟨s1, s2, ⟨p, q, s3⟩, s4, s5⟩ := st
    exact ⟨k z (by simp) _ s1, k TI (by simp) _ s2, ⟨p, q, k TO (by simp) _ s3⟩, s4.at fun o e => k i1 (by simp) o e, s5.at fun o e => k i2 (by simp) o e⟩
  item := by
    intro X hP hw hK hc i pins s σ H E I hf st hg
    subst hP hw hK
    obtain ⟨s1, s2, ⟨p0, q0, s3⟩, s4, s5⟩ := st
    obtain ⟨ps, qs, p, q, hps, hqs, hp, hq⟩ := hg
    obtain ⟨its, rv, pl, _⟩ := I.tuple hps
    obtain ⟨its2, rv2, pt, _⟩ := I.list hqs
    obtain ⟨u, hu, ru⟩ := rv.get hp
    obtain ⟨u2, hu2, ru2⟩ := rv2.get hq
    have zlt : z < s.heap.objs.size := Heap.lt_size s1
    have D1 := Draws.tuple (prog := X.prog) (w := X.w) (A := X.A.in1) (by exact I.ok.hd hc) i1 a ha its.toArray
    have D2 := Draws.list (prog := X.prog) (w := X.w) (A := X.A.in1) (by exact I.ok.hd hc) i2 b hb its2.toArray
    have b1 : i < its.toArray.size := by
      have := (List.getElem?_eq_some_iff.mp hu).1
      simpa using this
    have b2 : i < its2.toArray.size := by
      have := (List.getElem?_eq_some_iff.mp hu2).1
      simpa using this
    refine wpAny_pyNext_zipD2_item D D1 D2 s1 s2 s3 ⟨s4, pl⟩ ⟨s5, pt.isList⟩ b1 b2 fun x1 x2 h' tk y1 y2 n1 n2 n3 n4 n5 n6 n7 => ?_
    have g1 : x1 = u := by
      have e : its[i]? = some x1 := by simpa using y1
      rw [hu] at e; exact (Option.some.inj e).symm
    have g2 : x2 = u2 := by
      have e : its2[i]? = some x2 := by simpa using y2
      rw [hu2] at e; exact (Option.some.inj e).symm
    subst g1 g2
    refine ⟨_, rfl, wpAny_letOwnedTupleGo_zip (s := { s with heap := h', toks := tk }) n1 fun h2 z2 sb => ?_⟩
    have keepz : ∀ c o, c ≠ z → h'.get? c = some o → h2.get? c = some o := fun c o ne e => (sb.2 c ne).trans e
    have tup : h2.get? s.heap.objs.size = some { cls := .type "tuple", data := .seq #[x1, x2] } := keepz _ _ (Nat.ne_of_gt zlt) n5
    have new : ObjOk X.prog X.w (upd H s.heap.objs.size (.tup [p, q])) h2 s.heap.objs.size (.tup [p, q]) :=
      ⟨by show 2 ≤ sizeLine; decide, [x1, x2], .cons ru (.cons ru2 .nil), ⟨_, tup, rfl, _, rfl⟩⟩
    have I1 : L2.Inv X pins σ (upd H s.heap.objs.size (.tup [p, q])) { s with heap := h2, toks := tk } :=
      I.turnedNew (ch := [z, TI, TO, i1, i2]) (fun c o off e => keepz c o (fun z => off (by simp [z])) (n7 c o (fun z => off (by simp [z])) (fun z => off (by simp [z])) (fun z => off (by simp [z])) (fun z => off (by simp [z])) e)) hf (Nat.le_refl _) new
    refine ⟨.ref s.heap.objs.size, _, I1, rfl, ⟨_, p, q, rfl, I.hok.fresh (Nat.le_refl _), rfl, fun l hl => ?_, fun l hl => ?_⟩, ⟨z2, ?_, ⟨x1, x2, ?_⟩, ?_, ?_⟩, fun c hcm => ?_⟩
    · rw [I.tuple_inj hl hps]; exact hp
    · rw [I.list_inj hl hqs]; exact hq
    · exact keepz _ _ D.TIz (n7 _ _ D.TIz D.TITO D.TIi1 D.TIi2 s2)
    · exact keepz _ _ D.TOz n2
    · exact n3.1.at fun o e => keepz _ o (Ne.symm D.zi1) e
    · exact n4.1.at fun o e => keepz _ o (Ne.symm D.zi2) e
    · have hlt : c < s.heap.objs.size := by
        rcases five hcm with rfl | rfl | rfl | rfl | rfl
        · exact zlt
        · exact Heap.lt_size s2
        · exact Heap.lt_size s3
        · obtain ⟨_, e1, _⟩ := s4; exact Heap.lt_size e1
        · obtain ⟨_, e2, _⟩ := s5; exact Heap.lt_size e2
      rw [upd_ne (Nat.ne_of_lt hlt)]
      exact (hf c hcm).1
  done := by
    intro X hP hw hK hc i pins s σ H E I hf st hg
    subst hP hw hK
    obtain ⟨s1, s2, ⟨p0, q0, s3⟩, s4, s5⟩ := st
    obtain ⟨ps, qs, hps, hqs, le1, le2, he⟩ := hg
    obtain ⟨its, rv, pl, _⟩ := I.tuple hps
    obtain ⟨its2, rv2, pt, _⟩ := I.list hqs
    have l1 := rv.length
    have l2 := rv2.length
    have D1 := Draws.tuple (prog := X.prog) (w := X.w) (A := X.A.in1) (by exact I.ok.hd hc) i1 a ha its.toArray
    have D2 := Draws.list (prog := X.prog) (w := X.w) (A := X.A.in1) (by exact I.ok.hd hc) i2 b hb its2.toArray
    refine wpAny_pyNext_zipD2_end D D1 D2 s1 s2 s3 ⟨s4, pl⟩ ⟨s5, pt.isList⟩ (by simp; omega) (by simp; omega) (by simp; omega) fun h' tk hk => ⟨rfl, ?_⟩
    exact I.turnedL (ch := [z, TI, TO, i1, i2]) (fun c o off e => hk c o (fun z => off (by simp [z])) (fun z => off (by simp [z])) (fun z => off (by simp [z])) (fun z => off (by simp [z])) e) hf
  self := fun A i s Q E st h => wpAny_pyIter_zip st.1 h
section
variable {X : Cx} {XP : Wish} {pos : Pos}
def iZipW (K : Fg) (ta : TA) : TI := fun σ H R => ta σ H fun vs H1 => ∃ a b ps qs, vs = [.ref a, .ref b] ∧ SqT K H1 a ps ∧ SqL K H1 b qs ∧ R (ItzW K a b) H1
theorem pi_zipW {e e2 : Expr} {ta : TA} {p tpos : Pos} {elts : List Expr} {kk : Nat} (hg : Gl X "zip") (hm : X.mg "zip" = none) (ha : PA X [e, e2] ta)
    (hs : starEach [e, e2] X.env = (false, eval e X.env) :: starEach [e2] X.env) (hpl : (backTo pos (starEach [e2] X.env)).any (·.1) = false) : PI X (.Tuple elts kk tpos) (.Call (.Name "zip" p) [e, e2] [] pos) (iZipW X.K ta) := by
  refine ⟨fun pins s σ H R I h => Call_ (ld_blt I hg hm PyProof.Rows.boot_zip (PyProof.Rows.callWith_type1 (thn (ha.run pos pins s σ H _ I h) fun us s1 ⟨vs, H1, I1, r1, q1⟩ => ?_) hs hpl))⟩
  obtain ⟨a, b, ps, qs, rfl, hps, hqs, q⟩ := q1
  cases r1 with
  | cons ra rr =>
    cases rr with
    | cons rb rr =>
      cases rr
      cases ra
      cases rb
      obtain ⟨its, rv, pl, _⟩ := I1.tuple hps
      obtain ⟨its2, rv2, pt, _⟩ := I1.list hqs
      have la : a < s1.heap.objs.size := pl.lt
      have lb : b < s1.heap.objs.size := pt.lt
      refine zip_begins2 (begins_tuple a its.toArray) (begins_list b its2.toArray) pl pt.isList fun h' hz hTI hTO h1 h2 hsz hk => wpAny_pyIter_zip hz ?_
      have hn := hsz
      refine ⟨s1.heap.objs.size + 4, [s1.heap.objs.size + 4, s1.heap.objs.size + 2, s1.heap.objs.size + 3, s1.heap.objs.size, s1.heap.objs.size + 1], _, _, H1, rfl, I1.kept (t' := s1.toks) hk, turn_zipW (zsep _ a b la lb) (Nat.ne_of_lt la) (Nat.ne_of_lt (Nat.lt_succ_of_lt lb)), ⟨hz, hTI, ⟨_, _, hTO⟩, ⟨_, h1, rfl, rfl⟩, ⟨_, h2, rfl, rfl⟩⟩, ?_, q⟩
      intro c hc
      have hle : s1.heap.objs.size ≤ c := by rcases five hc with rfl | rfl | rfl | rfl | rfl <;> first | exact Nat.le_add_right _ _ | exact Nat.le_refl _
      exact I1.fpOk hle (I1.hok.fresh hle)
theorem itr_zipW {K : Fg} {ρ : List Addr} {H : Hp} {n : Nat} {us : List W} {zs : List V} {a b : Addr} (h1 : ρ[n]? = some b) (g1 : H a = some (.tup zs)) (g2 : VRs K ρ H us zs) : ItR K ρ H (.zipW us n) (ItzW K a b) := by
  intro ρ' G' H' e s i
  have h1' := e.rho _ _ h1
  have g1' : SqT K H' a zs := .of (e.tups _ _ g1)
  have g2' := g2.mono e
  have gl := g2'.length
  simp only [PIt.at]
  cases hr : rdL G' n with
  | none => exact ⟨fun h => by simp at h, fun w h => by simp at h⟩
  | some ws =>
    obtain ⟨vs, q1, q2⟩ := rdL_ok s h1' hr
    have vl := q2.length
    simp only [Option.bind_some]
    by_cases hc : i ≤ ws.length ∧ i ≤ us.length
    · rw [if_pos hc]
      cases hy : us[i]? with
      | none =>
        have := List.getElem?_eq_none_iff.mp hy
        exact ⟨fun h => ⟨zs, vs, g1', q1, by omega, by omega, .inl (by omega)⟩, fun w h => by simp at h⟩
      | some u0 =>
        cases hx : ws[i]? with
        | none =>
          have := List.getElem?_eq_none_iff.mp hx
          exact ⟨fun h => ⟨zs, vs, g1', q1, by omega, by omega, .inr (by omega)⟩, fun w h => by simp at h⟩
        | some w0 =>
          refine ⟨fun h => by simp at h, fun w h => ?_⟩
          have : w = .tup [u0, w0] := by simp at h; exact h.symm
          subst this
          obtain ⟨v, k1, k2⟩ := q2.get hx
          obtain ⟨z, k3, k4⟩ := g2'.get hy
          refine ⟨⟨zs, vs, z, v, g1', q1, k3, k1⟩, fun v' H2 hh => ?_⟩
          obtain ⟨T, x, y, rfl, hT, rfl, hy1, hy2⟩ := hh
          have t1 := hy1 zs g1'
          have t2 := hy2 vs q1
          rw [k3] at t1; cases t1
          rw [k1] at t2; cases t2
          have ex : Ext K ρ' H' ρ' (upd H' T (.tup [z, v])) := ext_upd (.inl hT) fun _ _ h => h
          exact ⟨ex, s.fresh hT, .tup upd_same (.cons (k4.mono ex) (.cons (k2.mono ex) .nil))⟩
    · rw [if_neg hc]
      exact ⟨fun h => by simp at h, fun w h => by simp at h⟩
/-- zip of a tuple and a list, known to be so -/
def mZipW (m : MA) : MI := fun E G => (m E G).bind fun ws G' => match ws with
  | [.tup ys, .ref n] => (match rdL G' n with | some _ => .ok (.zipW ys n) G' | none => .no)
  | _ => .no
theorem hi_zipW {e e2 : Expr} {m : MA} {p tpos : Pos} {elts : List Expr} {kk : Nat} (hg : Gl X "zip") (hm : X.mg "zip" = none) (ha : HA X XP [e, e2] m)
    (hs : starEach [e, e2] X.env = (false, eval e X.env) :: starEach [e2] X.env := by rfl) (hpl : (backTo pos (starEach [e2] X.env)).any (·.1) = false := by rfl) : HI X XP (.Tuple elts kk tpos) (.Call (.Name "zip" p) [e, e2] [] pos) (mZipW m) := by
  obtain ⟨t, h1, h2⟩ := ha.ex
  refine ⟨_, pi_zipW hg hm h1 hs hpl, fun ρ E G σ H R er sr q => h2 ρ E G σ H _ er sr (q.bind fun ws G1 ρ1 H1 vs e1 s1 r1 k1 => ?_)⟩
  split at k1
  · split at k1
    · rename_i xs hr
      cases r1 with
      | cons r rr =>
        cases rr with
        | cons r' rr =>
          cases rr
          cases r' with
          | ref hn =>
            cases r with
            | tup g1 g2 =>
              obtain ⟨vs, q1, q2⟩ := rdL_ok s1 hn hr
              exact ⟨_, _, _, vs, rfl, .of g1, q1, k1.ok s1 (itr_zipW hn g1 g2)⟩
    · exact k1.elim
  · exact k1.elim
end
theorem s_zipW {E : PEnv} {G : Cells} {QI : PIt → Cells → Prop} (m m' : ME) : (mZipW (mCons m (mCons m' mNil)) E G).sat QI = (m E G).sat fun w G1 => (m' E G1).sat fun u G2 => ∃ ys, w = .tup ys ∧ ∃ n, u = .ref n ∧ (rdL G2 n).isSome = true ∧ QI (.zipW ys n) G2 := by
  unfold mZipW; rw [sat_bind, s_cons]; congr; funext x G1; rw [s_cons]; congr; funext y G2; rw [s_nil]
  cases x <;> cases y <;> simp
  rename_i ys i
  cases h : rdL G2 i <;> simp [h]
theorem it_zipW {S : List Nat} {G : Cells} {n : Nat} {xs ys : List W} (h : G[n]? = some (.lst ys)) (hn : n ∉ S) (hl : xs.length = ys.length) : (PIt.zipW xs n).len G = (ziW xs ys).length ∧ ∀ G' i, i ≤ xs.length → Fr S G G' → (PIt.zipW xs n).at G' i = some (ziW xs ys)[i]? :=
  ⟨by rw [ziW_len]; simp [PIt.len, rdL, h], fun G' i hi f => by
    have h1 := f.get h hn
    rw [ziW_get]
    simp only [PIt.at, rdL, h1, Option.bind_some]
    rw [if_pos ⟨by omega, hi⟩]⟩
end PL
/- part PLY -/
set_option maxHeartbeats 1000000
namespace PL
open PySem PySem.Spec PyProof.Rows L2
/-! ### walks that are known up to their end alone -/
structure ItOkW (S : List Nat) (pit : PIt) (G1 : Cells) (xs : List W) : Prop where
  len : pit.len G1 = xs.length
  at' : ∀ G' i, i ≤ xs.length → Fr S G1 G' → pit.at G' i = some xs[i]?
def EiW (b : Bs) (Γ : TEnv) (m : MI) (C : Tp (List W)) (c : Nat) : Prop := ∀ n S E G, n + c ≤ b.lim → EOk b n S Γ E G → (m E G).sat fun pit G' => b.I.P (n + c) G' ∧ Fr b.S0 G G' ∧ ∃ xs, ItOkW S pit G' xs ∧ C.P S G' xs
def gItW (pit : PIt) (xs : List W) (C : Tp (List W)) : Tp Unit := tBth (tBx fun G _ => ∀ i, i ≤ xs.length → pit.at G i = some xs[i]?) ⟨fun S G _ => C.P S G xs, fun f h => C.mono f h, fun f h => C.sub f h, fun f h => C.wid f h⟩
section
variable {b : Bs} {Γ : TEnv} {c c1 c2 : Nat} {C : Tp (List W)} {R : RT} {N : Nat → PEnv → Cells → Prop}
theorem ei_w {m : MI} (h : Ei b Γ m C c) : EiW b Γ m C c := fun n S E G hn e => (h n S E G hn e).mono fun pit G' q => by
  obtain ⟨i, f, xs, it, q⟩ := q
  exact ⟨i, f, xs, ⟨it.len, fun G' i _ f => it.at' G' i f⟩, q⟩
theorem es_forW {α : Type} {mi : MI} {g : MG} {body m' : MS} {p : List W → Prop} {c3 : Nat} (M : Nat) (A : List W → Nat → α → Prop) (Γf : List W → Nat → α → TEnv) (Te : List W → Nat → W → Tp W)
    (hi : EiW b Γ mi C c1) (hp : ∀ S G xs, C.P S G xs → p xs ∧ xs.length ≤ M) (he : ∀ S G xs i w, C.P S G xs → xs[i]? = some w → (Te xs i w).P S G w)
    (h0 : ∀ xs, p xs → ∃ x, A xs 0 x ∧ EnvLe Γ (Γf xs 0 x))
    (hs : ∀ xs i w x pit, p xs → xs[i]? = some w → A xs i x → ∃ Γ1, Eg (b.add (gItW pit xs C)) (Γf xs i x) g (Te xs i w) Γ1 ∧ Es (b.add (gItW pit xs C)) Γ1 body (EX (b.add (gItW pit xs C)) (A xs (i + 1)) (Γf xs (i + 1))) R c2)
    (hd : ∀ xs x, p xs → A xs xs.length x → Es b (Γf xs xs.length x) m' N R c3) : Es b Γ (sSeq (sForI mi g body) m') N R (c1 + M * c2 + c3) := fun n S E G hn e => by
  refine so_seq (so_forG (P := fun pit G1 => b.I.P (n + c1) G1 ∧ Fr b.S0 G G1 ∧ ∃ xs, ItOkW S pit G1 xs ∧ C.P S G1 xs) (hi n S E G (by omega) e) ?_)
  rintro pit G1 em ⟨i1, f1, xs, it, q⟩
  obtain ⟨hx, hM⟩ := hp _ _ _ q
  have e1 := e.mv i1 f1
  have mul : ∀ i, i < xs.length → i * c2 + c2 ≤ M * c2 := fun i hi => by
    rw [← Nat.succ_mul]; exact Nat.mul_le_mul_right _ (by omega)
  have mulE : xs.length * c2 ≤ M * c2 := Nat.mul_le_mul_right _ hM
  refine so_forI xs (fun i E' G' => i ≤ xs.length ∧ ∃ k, k ≤ n + c1 + i * c2 ∧ ∃ x, A xs i x ∧ ∃ S', EOk (b.add (gItW pit xs C)) k S' (Γf xs i x) E' G') (em.mono ?_) ?_ ?_
  · rintro pp gg ⟨rfl, rfl⟩
    obtain ⟨x, hA, hl⟩ := h0 xs hx
    refine ⟨it.len, ⟨Nat.zero_le _, n + c1, by omega, x, hA, S, (e1.addG (g := gItW pp xs C) ⟨fun G' f i hi => it.at' G' i hi f, q⟩).le hl⟩, fun i E' G' z => ?_⟩
    obtain ⟨hi, k, _, x', _, S', e'⟩ := z
    exact (tBx.now e'.gh.2.1) i hi
  · rintro i w E' G' hw ⟨hil, k, hk, x, hA, S', e'⟩
    have hi' := mul i (List.getElem?_eq_some_iff.mp hw).1
    obtain ⟨Γ1, hg, hb⟩ := hs xs i w x pit hx hw hA
    refine (hg k S' E' G' w e' (he _ _ _ _ _ e'.gh.2.2 hw)).mono fun E2 G2 z => ?_
    obtain ⟨rfl, e2⟩ := z
    refine (hb k S' E2 G2 (by show k + c2 ≤ b.lim; omega) e2).mono (fun E3 G3 ⟨j, hj, y⟩ => ⟨(List.getElem?_eq_some_iff.mp hw).1, j, by rw [Nat.succ_mul]; omega, y⟩) fun w G3 y => ⟨b.I.up (by omega) y.1, y.2⟩
  · rintro E' G' ⟨_, k, hk, x, hA, S', e'⟩
    exact (hd xs x hx hA k S' E' G' (by omega) e'.dropG.1).mono (fun E2 G2 ⟨i, q⟩ => ⟨i, by omega, q.2⟩) fun _ _ q => ⟨b.I.up (by omega) q.1, q.2⟩
/-! zip -/
theorem ei_zipT {m m' : ME} {xs ys : List W} (h : Ev b Γ m (.val (tEq (.tup xs))) c1) (h' : Ev b Γ m' (.val (tEq (.tup ys))) c2) : Ei b Γ (mZip (mCons m (mCons m' mNil))) (tEq (ziW xs ys)) (c1 + c2) := fun n S E G hn e => by
  rw [s_zip]
  refine (h n S E G (by omega) e).mono fun x G1 q => ?_
  obtain ⟨i1, f1, rfl⟩ := q
  refine (h' (n + c1) S E G1 (by omega) (e.mv i1 f1)).mono fun y G2 q => ?_
  obtain ⟨i2, f2, rfl⟩ := q
  exact .inl ⟨xs, rfl, ys, rfl, by rw [← Nat.add_assoc]; exact i2, f1.trans f2, _, it_zipT S G2 xs ys, rfl⟩
theorem ei_zipL {m m' : ME} {xs ys : List W} (h : Ev b Γ m (.val (tLs (tEq xs))) c1) (h' : Ev b Γ m' (.val (tLs (tEq ys))) c2) : Ei b Γ (mZip (mCons m (mCons m' mNil))) (tEq (ziW xs ys)) (c1 + c2) := fun n S E G hn e => by
  rw [s_zip]
  refine (h n S E G (by omega) e).mono fun x G1 q => ?_
  obtain ⟨i1, f1, q⟩ := q
  have e1 := e.mv i1 f1
  refine (h' (n + c1) S E G1 (by omega) e1).mono fun y G2 q2 => ?_
  obtain ⟨i2, f2, q2⟩ := q2
  have q := (tLs (tEq xs)).mono (f2.sub e.s0) q
  obtain ⟨k, z, rfl, hk, hc, us, rfl, e1⟩ := q
  obtain rfl : us = xs := e1
  obtain ⟨k2, z2, rfl, hk2, hc2, us2, rfl, e2⟩ := q2
  obtain rfl : us2 = ys := e2
  exact .inr ⟨k, rfl, k2, rfl, by rw [rdL_lst hc]; rfl, by rw [rdL_lst hc2]; rfl, by rw [← Nat.add_assoc]; exact i2, f1.trans f2, _, it_zipL hc hc2 hk hk2, rfl⟩
theorem ei_zipM {m m' : ME} {xs ys : List W} (hl : xs.length = ys.length) (h : Ev b Γ m (.val (tLs (tEq xs))) c1) (h' : Ev b Γ m' (.val (tEq (.tup ys))) c2) : EiW b Γ (mZipL (mCons m (mCons m' mNil))) (tEq (ziW xs ys)) (c1 + c2) := fun n S E G hn e => by
  rw [s_zipL]
  refine (h n S E G (by omega) e).mono fun x G1 q => ?_
  obtain ⟨i1, f1, q⟩ := q
  refine (h' (n + c1) S E G1 (by omega) (e.mv i1 f1)).mono fun y G2 q2 => ?_
  obtain ⟨i2, f2, rfl⟩ := q2
  have q := (tLs (tEq xs)).mono (f2.sub e.s0) q
  obtain ⟨k, z, rfl, hk, hc, us, rfl, e1⟩ := q
  obtain rfl : us = xs := e1
  have it := it_zipM (S := S) (ys := ys) hc hk hl
  exact ⟨k, rfl, ys, rfl, by rw [rdL_lst hc]; rfl, by rw [← Nat.add_assoc]; exact i2, f1.trans f2, _, ⟨it.1, fun G' i hi f => it.2 G' i (by rw [ziW_len] at hi; omega) f⟩, rfl⟩
theorem ei_zipW {m m' : ME} {xs ys : List W} (hl : xs.length = ys.length) (h : Ev b Γ m (.val (tEq (.tup xs))) c1) (h' : Ev b Γ m' (.val (tLs (tEq ys))) c2) : EiW b Γ (mZipW (mCons m (mCons m' mNil))) (tEq (ziW xs ys)) (c1 + c2) := fun n S E G hn e => by
  rw [s_zipW]
  refine (h n S E G (by omega) e).mono fun x G1 q => ?_
  obtain ⟨i1, f1, rfl⟩ := q
  refine (h' (n + c1) S E G1 (by omega) (e.mv i1 f1)).mono fun y G2 q2 => ?_
  obtain ⟨i2, f2, k, z, rfl, hk, hc, us, rfl, e1⟩ := q2
  obtain rfl : us = ys := e1
  have it := it_zipW (S := S) (xs := xs) hc hk hl
  exact ⟨xs, rfl, k, rfl, by rw [rdL_lst hc]; rfl, by rw [← Nat.add_assoc]; exact i2, f1.trans f2, _, ⟨it.1, fun G' i hi f => it.2 G' i (by rw [ziW_len] at hi; omega) f⟩, rfl⟩
end
end PL
/- part PLZ -/
set_option maxHeartbeats 1000000
namespace PL
open PySem PySem.Spec PyProof.Rows L2
section
variable {b : Bs} {Γ : TEnv} {c c1 c2 c3 c4 c5 : Nat} {C : Tp (List W)} {R : RT} {N : Nat → PEnv → Cells → Prop}
/-- four names at once; the last one may be a new list -/
theorem es_par4 {i j l k : Nat} {m m1 m2 m3 : ME} {m' : MS} {T0 T1 T2 : Tp W} {R3 : RT} (h : Ev b Γ m (.val T0) c1) (h1 : Ev b Γ m1 (.val T1) c2) (h2 : Ev b Γ m2 (.val T2) c3) (h3 : Ev b Γ m3 R3 c4) (hi : i < Γ.length) (hj : j < Γ.length) (hl : l < Γ.length) (hk : k < Γ.length)
    (z : Es b ((((Γ.set i (.ty T0)).set j (.ty T1)).set l (.ty T2)).set k R3.sl) m' N R c5) : Es b Γ (sSeq (sAsg (mTup (mCons m (mCons m1 (mCons m2 (mCons m3 mNil))))) (gTupW 4 (gsCons i (gsCons j (gsCons l (gsCons k gsNil)))))) m') N R (c1 + c2 + c3 + c4 + c5) := fun n S E G hn e => by
  refine so_seq ?_
  rw [t_asg, s_tup, s_cons]
  refine (h n S E G (by omega) e).mono fun w G1 q => ?_
  obtain ⟨i1, f1, q⟩ := q
  rw [s_cons]
  have e1 := e.mv i1 f1
  refine (h1 _ S E G1 (by omega) e1).mono fun w1 G2 q1 => ?_
  obtain ⟨i2, f2, q1⟩ := q1
  rw [s_cons]
  have e2 := e1.mv i2 f2
  refine (h2 _ S E G2 (by omega) e2).mono fun w2 G3 q2 => ?_
  obtain ⟨i3, f3, q2⟩ := q2
  rw [s_cons]
  have e3 := e2.mv i3 f3
  refine (h3 _ S E G3 (by omega) e3).mono fun w3 G4 q3 => ?_
  obtain ⟨i4, f4, q3⟩ := q3
  rw [v_nil]
  refine ⟨by simp [sizeLine], ?_⟩
  have e4 := ((e3.setTy (i := i) (T := T0) hi (T0.mono ((f2.trans f3).sub e1.s0) q)).setTy (i := j) (T := T1) (by simpa using hj) (T1.mono (f3.sub e2.s0) q1)).setTy (i := l) (T := T2) (by simpa using hl) q2
  obtain ⟨S', e'⟩ := e4.setR (i := k) (by simpa using hk) i4 f4 q3
  exact (z _ S' _ _ (by omega) e').mono (fun E2 G2 ⟨i, q⟩ => ⟨i, by omega, q.2⟩) fun _ _ q => ⟨b.I.up (by omega) q.1, q.2⟩
theorem ev_revL {m : ME} {ws : List W} (h : Ev b Γ m (.val (tLs (tEq ws))) c) : Ev b Γ (mRevL m) (.new (dL (tEq ws.reverse))) c := fun n S E G hn e => by
  unfold mRevL
  rw [sat_bind]
  refine (h n S E G hn e).mono fun w G1 q => ?_
  obtain ⟨i1, f1, k, x, rfl, hk, hc, us, rfl, q⟩ := q
  obtain rfl : us = ws := q
  show (match rdL G1 k with | some xs => Rs.ok (W.ref G1.length) (G1 ++ [Cell.lst xs.reverse]) | none => Rs.no).sat _
  rw [rdL_lst hc]
  exact ⟨b.I.up (Nat.le_refl _) (b.I.nil Fr.push i1), f1.trans Fr.push, G1.length, _, rfl, f1.1, push_get _ _, _, rfl, rfl⟩
theorem ev_revT {m : ME} {ws : List W} (h : Ev b Γ m (.val (tEq (.tup ws))) c) : Ev b Γ (mRev m) (.val (tEq (.tup ws.reverse))) c := fun n S E G hn e => by
  rw [s_rev]
  refine (h n S E G hn e).mono fun w G1 q => ?_
  obtain ⟨i1, f1, rfl⟩ := q
  exact ⟨i1, f1, rfl⟩
theorem atI_last (r : List W) (w : W) : L2.atI (r ++ [w]) (-1) = some w := by
  have e : L2.ixN (r ++ [w]).length (-1) = some r.length := by
    unfold L2.ixN
    rw [if_neg (by omega), if_pos (by rw [List.length_append, List.length_singleton]; omega)]
    congr 1; rw [List.length_append, List.length_singleton]; omega
  unfold L2.atI
  rw [e]
  simp
/-- the last item of a list -/
theorem ev_lastL {m : ME} {r : List W} {w : W} (h : Ev b Γ m (.val (tLs (tEq (r ++ [w])))) c) : Ev b Γ (mBin getW m (mNeg (mC (.int 1)))) (.val (tEq w)) (c + 0) :=
  ev_binR (U := tEq (.int (-1))) (er_val h) (fun n S E G hn e => by rw [s_neg]; exact ⟨1, rfl, e.inv, Fr.refl, rfl⟩) fun S G n x y hc q hy => by
    obtain ⟨us, rfl, q⟩ := q
    obtain rfl : us = r ++ [w] := q
    obtain rfl : y = .int (-1) := hy
    have : getW G (.ref n) (.int (-1)) = .ok w G := by unfold getW; simp only [hc, atI_last]
    rw [this]; exact ⟨Fr.refl, rfl⟩
end
end PL
/- part PL2 -/
set_option maxHeartbeats 1000000
namespace PL
open PySem PySem.Spec PyProof.Rows L2 SrtO
/-! ### sorted of a tuple of tuples of ints -/
section
variable {prog : Program} {w : World} {A : Around} {E : Value → Shared → Prop} {s : Shared}
theorem sorted_ordT {l : Addr} {vs : List Value} {ltv : Value → Value → Bool} {Q : Value → Shared → Prop} (O : Swo ltv) (hl : IsTup s.heap l vs.toArray) (hz : vs.length ≤ sizeLine)
    (hS : 2 ≤ vs.length → ∀ (h₁ : Heap) (a : Addr), h₁.get? a = some (seqObj "list" vs.toArray 0) → (∀ b o, s.heap.get? b = some o → b ≠ a ∧ h₁.get? b = some o) → SortableO prog w A.in1.in1 { s with heap := h₁ } a vs ltv)
    (h : ∀ out : List Value, Srtd ltv out → Stb ltv out vs → Q (.ref (s.heap.objs.size + 1)) { s with heap := sortedAll s.heap vs out.toArray }) :
    wpAny (model prog w) A (call (.builtin "sorted") [.ref l]) Q E s := by
  refine Calls.call_function_entry kind_sorted plain_sorted entry_sorted (args_sorted1 _) ?_
  unfold Builtin.«sorted»
  refine wpAny_bind (m := checkCount "sorted" 1 1 _) (wpAny_pure ?_)
  refine wpAny_bind (collect_tup hl hz ?_)
  refine wpAny_bind (wpAny_newList ?_ hz)
  have hsz : ((s.heap.push (seqObj "list" #[] 0)).update s.heap.objs.size (Obj.mapSeq (· ++ vs.toArray))).objs.size = s.heap.objs.size + 1 := by
    rw [Heap.size_update, size_push']
  have hoL : (((s.heap.push (seqObj "list" #[] 0)).update s.heap.objs.size (Obj.mapSeq (· ++ vs.toArray))).push (seqObj "list" vs.toArray 0)).get? (s.heap.objs.size + 1) = some (seqObj "list" vs.toArray 0) := by
    rw [← hsz]; exact Heap.get?_push_size _ rfl
  have keep : ∀ b o, s.heap.get? b = some o → b ≠ s.heap.objs.size + 1 ∧ (((s.heap.push (seqObj "list" #[] 0)).update s.heap.objs.size (Obj.mapSeq (· ++ vs.toArray))).push (seqObj "list" vs.toArray 0)).get? b = some o := fun b o q => by
    have hlt : b < s.heap.objs.size := Heap.lt_size q
    refine ⟨Nat.ne_of_lt (Nat.lt_succ_of_lt hlt), Heap.get?_push_of_some _ ?_⟩
    rw [Heap.get?_update_ne _ _ _ _ (Nat.ne_of_lt hlt)]
    exact Heap.get?_push_of_some _ q
  show wpAny _ _ _ _ _ { s with heap := ((s.heap.push (seqObj "list" #[] 0)).update s.heap.objs.size (Obj.mapSeq (· ++ vs.toArray))).push (seqObj "list" vs.toArray 0) }
  rw [hsz]
  refine wpAny_bind (wpAny_holding (wpAny_call_entry slot_list_sort ⟨_, hoL, rfl⟩ entry_list_sort (list_sort_ord O hoL hz (fun h2 => hS h2 _ _ hoL keep) fun out hs hb => ⟨_, rfl, ?_⟩) (args_list_sort _)))
  exact wpAny_pure ⟨_, rfl, h out hs hb⟩
theorem sorted_tupsT {l : Addr} {vs : List Value} {k : Value → List Int} {Q : Value → Shared → Prop} (hu : A.units + 2 < cLine) (hl : IsTup s.heap l vs.toArray) (hz : vs.length ≤ sizeLine) (x : ∀ v ∈ vs, TS.TupInts s.heap v (k v))
    (h : ∀ (h' : Heap) (d : Addr) (out : List Value), out.Perm vs → (out.map k).Pairwise (fun a b => HT.lexLt b a = false) → (∀ b o, s.heap.get? b = some o → h'.get? b = some o) → s.heap.objs.size ≤ d → (∃ n, h'.get? d = some (seqObj "list" out.toArray n)) → Q (.ref d) { s with heap := h' }) :
    wpAny (model prog w) A (call (.builtin "sorted") [.ref l]) Q E s := by
  refine sorted_ordT (lx_swo k) hl hz (fun h2 h₁ a ha kk => ?_) fun out hs hb => ?_
  · refine tups_sortableO (s := { s with heap := h₁ }) h2 hu (fun v hm => (x v hm).keeps fun b o e _ => (kk b o e).2) fun o e => ?_
    have e' : some o = some (seqObj "list" vs.toArray 0) := e.symm.trans ha
    cases e'
    intro c
    exact absurd (Value.type.inj c) (by decide)
  · refine h _ _ out hb.perm ?_ (fun b o e => PyProof.Rows.sortedAll_old e) (Nat.le_succ _) (PyProof.Rows.sortedAll_at s.heap vs out.toArray)
    rw [List.pairwise_map]
    exact hs
end
section
variable {X : Cx} {XP : Wish} {k : Nat}
def rSortedTt (K : PySem.W.Frag) : List V → Hp → VK → Prop := fun vs H Q => ∃ (a : Addr) (xs : List V), vs = [V.ref a] ∧ SqT K H a xs ∧ (∀ x ∈ xs, ∃ (t : Addr) (ns : List Int), x = V.ref t ∧ H t = some (.tup (ns.map V.int))) ∧
  ∀ ys p, ys.Perm xs → (ys.map (intsV H)).Pairwise (fun a b => HT.lexLt b a = false) → H p = none → Q (.ref p) (upd H p (.lst ys))
theorem cr_sortedTt (hu : X.A.units + 2 < cLine) : CallR X (.builtin "sorted") (rSortedTt X.K) := by
  intro pins s σ H vs us Q I r h
  obtain ⟨a, xs, rfl, hs, hx, q⟩ := h
  obtain ⟨its, rv, hl, hz0⟩ := I.tuple hs
  obtain ⟨u, rfl, ru⟩ := vals1 r
  obtain rfl : u = Value.ref a := ru
  obtain ⟨e1, e2⟩ := refs_back rv fun x m => by
    obtain ⟨t, ns, e, _⟩ := hx x m
    exact ⟨t, e⟩
  have hz : xs.length ≤ sizeLine := by have := rv.length; omega
  refine sorted_tupsT (k := fun u => intsV H (backV u)) hu hl (by rw [← rv.length]; exact hz) (fun v hv => ?_) fun h' d out h1 h2 kp hd hn => ?_
  · obtain ⟨t, rfl⟩ := e2 v hv
    have hm : V.ref t ∈ xs := by rw [e1]; exact List.mem_map.mpr ⟨_, hv, rfl⟩
    obtain ⟨t', ns, e, ht⟩ := hx _ hm
    cases e
    obtain ⟨_, its2, r2, o, ho, hc, n, hd⟩ := I.hok _ _ ht
    show TS.TupInts s.heap (.ref t) (intsV H (.ref t))
    rw [intsV_eq ht]
    exact ⟨t, its2.toArray, rfl, ⟨o, ho, hc, n, hd⟩, intsAre_of r2⟩
  · have h3 : ∀ u ∈ out, ∃ a, u = Value.ref a := fun u hu => e2 u (h1.mem_iff.mp hu)
    obtain ⟨n, hn⟩ := hn
    have hb : (out.map backV).Perm xs := by rw [e1]; exact h1.map backV
    refine ⟨.ref d, upd H d (.lst (out.map backV)), I.laid (t' := s.toks) kp hd ⟨?_, out, n, vals_back h3, hn⟩, rfl, q _ d hb ?_ (I.hok.fresh hd)⟩
    · rw [hb.length_eq]; exact hz
    · rw [List.map_map]; exact h2
def sortedTLW : GCall := fun G ws => match ws with
  | [.tup xs] => (match tsW xs with | some nss => .ok (.ref G.length) (G ++ [.lst (tupsW (nss.mergeSort leL))]) | none => .no)
  | _ => .no
theorem cg_sortedTL (c : GC X XP k) : CaG X XP (.builtin "sorted") sortedTLW := by
  refine ⟨_, cr_sortedTt (by have := c.room.room.un; omega), fun ρ G σ H ws vs Q s r o => ?_⟩
  unfold sortedTLW at o
  split at o
  · cases r with
    | cons r rr =>
      cases rr
      cases r with
      | tup g1 g2 =>
        split at o
        · rename_i nss hi
          obtain ⟨a, b⟩ := tsW_ok g2 hi
          refine ⟨_, _, rfl, .of g1, a, fun ys p h1 h2 hp => ?_⟩
          have hy : ∀ x ∈ ys, ∃ (t : Addr) (ns : List Int), x = V.ref t ∧ H t = some (.tup (ns.map V.int)) := fun x hx => a x (h1.mem_iff.mp hx)
          have e : ys.map (intsV H) = nss.mergeSort leL := sortL_is (by rw [← b]; exact h1.map _) h2
          have := vrs_back (K := X.K) (ρ := ρ) ys hy
          rw [e] at this
          exact out_lst o s this hp
        · exact o.elim
  · exact o.elim
end
section
variable {b : Bs} {Γ : TEnv} {c : Nat}
theorem ev_sortTL {m : ME} {nss : List (List Int)} (h : Ev b Γ m (.val (tEq (.tup (tupsW nss)))) c) : Ev b Γ (mCall sortedTLW (mCons m mNil)) (.new (dL (tEq (tupsW (nss.mergeSort leL))))) c := fun n S E G hn e => by
  rw [s_call, s_cons]
  refine (h n S E G hn e).mono fun w G1 q => ?_
  obtain ⟨i1, f1, rfl⟩ := q
  rw [s_nil]
  have : sortedTLW G1 [.tup (tupsW nss)] = .ok (.ref G1.length) (G1 ++ [.lst (tupsW (nss.mergeSort leL))]) := by unfold sortedTLW; simp only [tsW_map]
  rw [this]
  exact ⟨b.I.nil Fr.push i1, f1.trans Fr.push, G1.length, _, rfl, f1.1, push_get _ _, _, rfl, rfl⟩
theorem ev_sortT {m : ME} {is : List Int} (hl : is.length < 64) (h : Ev b Γ m (.val (tEq (.tup (is.map W.int)))) c) : Ev b Γ (mCall sortedTW (mCons m mNil)) (.new (dL (tEq ((is.mergeSort leB).map W.int)))) c := fun n S E G hn e => by
  rw [s_call, s_cons]
  refine (h n S E G hn e).mono fun w G1 q => ?_
  obtain ⟨i1, f1, rfl⟩ := q
  rw [s_nil]
  have : sortedTW G1 [.tup (is.map W.int)] = .ok (.ref G1.length) (G1 ++ [.lst ((is.mergeSort leB).map W.int)]) := by
    unfold sortedTW
    simp only [intsW_map]
    rw [if_pos hl]
  rw [this]
  exact ⟨b.I.nil Fr.push i1, f1.trans Fr.push, G1.length, _, rfl, f1.1, push_get _ _, _, rfl, rfl⟩
end
end PL
/- part PL3 -/
set_option maxHeartbeats 1000000
namespace PL
open PySem PySem.Spec PyProof.Rows L2
section
variable {X : Cx} {XP : Wish} {pos : Pos} {k : Nat}
/-! ### list(range(a, b)) -/
def mLstR2 (m m' : ME) : ME := fun E G => (m E G).bind fun w G1 => (m' E G1).bind fun u G2 => match w, u with | .int i, .int j => if rgB i j = true then .ok (.ref G2.length) (G2 ++ [.lst (rgW i j)]) else .no | _, _ => .no
theorem he_lstR2 {a b : Expr} {m m' : ME} {p p2 pos2 : Pos} (c : GC X XP k) (hg : Gl X "list") (hm : X.mg "list" = none) (hg2 : Gl X "range") (hm2 : X.mg "range" = none) (ha : HE X XP a m) (hb : HE X XP b m')
    (na : starEach [Expr.Call (.Name "range" p2) [a, b] [] pos2] X.env = (false, eval (Expr.Call (.Name "range" p2) [a, b] [] pos2) X.env) :: starEach [] X.env := by rfl)
    (na2 : starEach [a, b] X.env = (false, eval a X.env) :: starEach [b] X.env := by rfl) (nb : starEach [b] X.env = (false, eval b X.env) :: starEach [] X.env := by rfl) (hp : (backTo pos2 (starEach [b] X.env)).any (·.1) = false := by rfl) :
    HE X XP (.Call (.Name "list" p) [.Call (.Name "range" p2) [a, b] [] pos2] [] pos) (mLstR2 m m') := by
  obtain ⟨t, h1, h2⟩ := ha.ex
  obtain ⟨u, b1, b2⟩ := hb.ex
  refine ⟨_, pe_listRg c.calm hg hm (prg_2 hg2 hm2 h1 b1 na2 nb hp) na, fun ρ E G σ H Q er sr q => h2 ρ E G σ H _ er sr (q.bind fun w G1 ρ1 H1 v e1 s1 r1 k1 => ?_)⟩
  refine b2 ρ1 E G1 σ H1 _ (er.mono e1) s1 (k1.bind fun y G2 ρ2 H2 yv e2 s2 r2 k2 => ?_)
  split at k2
  · split at k2
    · rename_i j hj
      cases r1
      cases r2
      exact ⟨_, _, rfl, rfl, rgB_ok hj, fun p hp => out_lst k2 s2 (rg_vrs _ _) hp⟩
    · exact k2.elim
  · exact k2.elim
end
theorem s_lstR2 {E : PEnv} {G : Cells} {Q : W → Cells → Prop} (m m' : ME) : (mLstR2 m m' E G).sat Q = (m E G).sat fun w G1 => (m' E G1).sat fun u G2 => ∃ i j, w = .int i ∧ u = .int j ∧ rgB i j = true ∧ Q (.ref G2.length) (G2 ++ [.lst (rgW i j)]) := by
  unfold mLstR2; rw [sat_bind]; congr; funext w G1; rw [sat_bind]; congr; funext u G2
  cases w <;> cases u <;> simp
  rename_i i j
  by_cases h : rgB i j = true <;> simp [h]
section
variable {b : Bs} {Γ : TEnv}
theorem ev_lstR2 {m m' : ME} {i j : Int} (ha : Ev b Γ m (.val (tEq (.int i))) c1) (hb : Ev b Γ m' (.val (tEq (.int j))) c2) (h : rgB i j = true) : Ev b Γ (mLstR2 m m') (.new (dL (tEq (rgW i j)))) (c1 + c2) := fun n S E G hn e => by
  rw [s_lstR2]
  refine (ha n S E G (by omega) e).mono fun w G1 q => ?_
  obtain ⟨i1, f1, q1⟩ := q
  refine (hb _ S E G1 (by omega) (e.mv i1 f1)).mono fun w' G2 q => ?_
  obtain ⟨i2, f2, q2⟩ := q
  refine ⟨i, j, q1, q2, h, b.I.up (by omega) (b.I.nil Fr.push i2), (f1.trans f2).trans Fr.push, G2.length, _, rfl, ?_, push_get _ _, _, rfl, rfl⟩
  have := f1.1; have := f2.1; omega
end
end PL
/- part PL4 -/
set_option maxHeartbeats 1000000
namespace PL
open PySem PySem.Spec PyProof.Rows L2
section
variable {X : Cx} {XP : Wish} {pos : Pos} {k : Nat}
/-! ### d.get(y, z) -/
def mGetD (mo mk mf : ME) : ME := fun E G => (mo E G).bind fun w G1 => match w with
  | .ref n => (match G1[n]? with
    | some (.dct _) => (mk E G1).bind fun y G2 => (mf E G2).bind fun z G3 => match G3[n]?, keyW y with
      | some (.dct kvs), some k => .ok ((valW kvs k).getD z) G3
      | _, _ => .no
    | _ => .no)
  | _ => .no
theorem he_getD {o e f : Expr} {mo mk mf : ME} {apos cpos : Pos} (hu : X.A.units + 1 < cLine) (ho : HE X XP o mo) (he : HE X XP e mk) (hf : HE X XP f mf)
    (hbase : attributeBase o "get" X.env (eval o X.env) = eval o X.env := by rfl)
    (hfew : ((backTo cpos (starEach [e, f] X.env)).all (fun x => !x.1) && (backToKw cpos (keywordEach [] X.env)).all (fun x => x.1.isSome)
      && decide (([e, f] : List Expr).length + ([] : List Keyword).length + (if ([] : List Keyword).isEmpty then 0 else 1) < 30)) = true := by rfl)
    (hline : (apos.endLine == cpos.line) = true := by rfl) (ht : backTo cpos (starEach [e, f] X.env) = [(false, eval e X.env), (false, eval f X.env)] := by rfl) :
    HE X XP (.Call (.Attribute o "get" apos) [e, f] [] cpos) (mGetD mo mk mf) := by
  obtain ⟨t, a1, a2⟩ := ho.ex
  obtain ⟨u, b1, b2⟩ := he.ex
  obtain ⟨r, c1, c2⟩ := hf.ex
  refine ⟨_, pe_dget2 hu a1 b1 c1 ⟨hbase, hfew, hline, ht⟩, fun ρ E G σ H Q er sr q => a2 ρ E G σ H _ er sr (q.bind fun w G1 ρ1 H1 v e1 s1 r1 k1 => ?_)⟩
  split at k1
  · rename_i n
    cases r1 with
    | ref hn =>
      split at k1
      · rename_i kvs hk
        obtain ⟨q0, f1, _⟩ := cell_dct s1 hn hk
        refine ⟨_, rfl, .inl ⟨q0, .inl f1⟩, b2 ρ1 E G1 σ H1 _ (er.mono e1) s1 (k1.bind fun y G2 ρ2 H2 yv e2 s2 r2 k2 => c2 ρ2 E G2 σ H2 _ ((er.mono e1).mono e2) s2 (k2.bind fun z G3 ρ3 H3 zv e3 s3 r3 k3 => ?_))⟩
        split at k3
        · rename_i kvs' k' hk' ek
          obtain ⟨q1, g1, g2⟩ := cell_dct s3 (((VR.ref hn).mono e2).mono e3 |> fun h => by cases h with | ref h => exact h) hk'
          refine ⟨valV q1 k', .inl ⟨q1, k', .inl g1, keyW_ok (r2.mono e3) ek, rfl⟩, ?_⟩
          cases hv : valW kvs' k' with
          | some w' =>
            obtain ⟨v', h1, h2⟩ := g2.val hv
            rw [hv] at k3
            rw [h1]
            exact k3.ok s3 h2
          | none =>
            rw [hv] at k3
            rw [g2.val_none hv]
            exact k3.ok s3 r3
        · exact k3.elim
      · exact k1.elim
  · exact k1.elim
end
theorem s_getD {E : PEnv} {G : Cells} {Q : W → Cells → Prop} (mo mk mf : ME) : (mGetD mo mk mf E G).sat Q = (mo E G).sat fun w G1 => ∃ n kvs0, w = .ref n ∧ G1[n]? = some (.dct kvs0) ∧ (mk E G1).sat fun y G2 => (mf E G2).sat fun z G3 => ∃ kvs k, G3[n]? = some (.dct kvs) ∧ keyW y = some k ∧ Q ((valW kvs k).getD z) G3 := by
  unfold mGetD
  rw [sat_bind]; congr; funext w G1
  cases w with
  | ref n =>
    simp only [W.ref.injEq]
    cases h : G1[n]? with
    | none => simp [h]
    | some c =>
      cases c with
      | dct kvs0 =>
        simp only []
        rw [sat_bind]
        have : (fun y G2 => ((mf E G2).bind fun z G3 => match G3[n]?, keyW y with
          | some (.dct kvs), some k => (.ok ((valW kvs k).getD z) G3 : Rs W)
          | _, _ => .no).sat Q) = fun y G2 => (mf E G2).sat fun z G3 => ∃ kvs k, G3[n]? = some (.dct kvs) ∧ keyW y = some k ∧ Q ((valW kvs k).getD z) G3 := by
          funext y G2
          rw [sat_bind]; congr; funext z G3
          cases h3 : G3[n]? with
          | none => simp
          | some c3 => cases c3 <;> cases hy : keyW y <;> simp
        rw [this]
        apply propext
        exact ⟨fun z => ⟨n, kvs0, rfl, h, z⟩, fun ⟨n', k', e1, _, z⟩ => by subst e1; exact z⟩
      | _ => simp [h]
  | _ => simp
section
variable {b : Bs} {Γ : TEnv} {c1 c2 c3 : Nat}
theorem ev_getD {m mk mf : ME} {kvs : List (Key × W)} {y z : W} {k : Key} (h : Er b Γ m (dD (tEq kvs)) c1) (hk : Ev b Γ mk (.val (tEq y)) c2) (hf : Ev b Γ mf (.val (tEq z)) c3) (e : keyW y = some k) : Ev b Γ (mGetD m mk mf) (.val (tEq ((valW kvs k).getD z))) (c1 + c2 + c3) := fun n S E G hn eo => by
  rw [s_getD]
  refine (h n S E G (by omega) eo).mono fun w G1 q => ?_
  obtain ⟨i1, f1, n0, x, rfl, hc, ⟨us, rfl, q⟩, nz⟩ := q
  obtain rfl : us = kvs := q
  refine ⟨n0, us, rfl, hc, (hk _ S E G1 (by omega) (eo.mv i1 f1)).mono fun y' G2 q2 => ?_⟩
  obtain ⟨i2, f2, rfl⟩ := q2
  refine (hf _ S E G2 (by omega) ((eo.mv i1 f1).mv i2 f2)).mono fun z' G3 q3 => ?_
  obtain ⟨i3, f3, rfl⟩ := q3
  exact ⟨us, k, (f2.trans f3).get hc nz, e, by rw [Nat.add_assoc, Nat.add_assoc] at *; exact i3, (f1.trans f2).trans f3, rfl⟩
end
end PL
/- part PL5 -/
set_option maxHeartbeats 1000000
namespace PL
open PySem PySem.Spec PyProof.Rows L2
section
variable {X : Cx} {XP : Wish} {pos : Pos} {k : Nat}
/-! ### an integer in a module's tuple of integers -/
def mInC (m : ME) (is : List Int) : ME := fun E G => (m E G).bind fun w G1 => match w with | .int i => .ok (.bl (decide (i ∈ is))) G1 | _ => .no
theorem flat_ints (is : List Int) : (is.map V.int).all flatV = true := by
  rw [List.all_eq_true]
  intro x hx
  obtain ⟨i, _, rfl⟩ := List.mem_map.mp hx
  rfl
theorem inV_ints (i : Int) : ∀ is : List Int, inV (.int i) (is.map V.int) = decide (i ∈ is)
  | [] => rfl
  | j :: is => by
    have ih := inV_ints i is
    unfold inV at ih ⊢
    rw [List.map_cons, List.any_cons, ih]
    have e : eqV (.int j) (.int i) = decide (i = j) := by
      show (j == i) = _
      by_cases h : i = j
      · subst h; simp
      · have h2 : ¬ j = i := fun z => h z.symm
        simp [h, h2]
    rw [e]
    by_cases h : i = j <;> by_cases h2 : i ∈ is <;> simp [h, h2]
theorem he_inC {e : Expr} {m : ME} {x : Str} {a : Addr} {is : List Int} {p : Pos} (hg : Gl X x) (hm : X.mg x = some (.ref a)) (q0 : ∀ H : Hp, SqT X.K H a (is.map V.int)) (ha : HE X XP e m) (hmk : behindInMarks .In (.Name x p) = false := by rfl) (hd : (x == ("__debug__" : Str)) = false := by decide) :
    HE X XP (.Compare e [.In] [.Name x p] pos) (mInC m is) := by
  obtain ⟨ta, a1, a2⟩ := ha.ex
  refine ⟨_, pe_cmpR op_in_seq a1 (pe_glob (v := .ref a) hg hm rfl hd) hmk, fun ρ E G σ H Q er sr q => a2 ρ E G σ H _ er sr (q.bind fun w G1 ρ1 H1 v e1 s1 r1 k1 => ?_)⟩
  split at k1
  · rename_i i
    cases r1
    refine ⟨a, is.map V.int, rfl, .inr (q0 H1), rfl, flat_ints is, ?_⟩
    rw [if_neg Bool.false_ne_true, inV_ints]
    exact k1.ok s1 (.bl _)
  · exact k1.elim
end
theorem s_inC {E : PEnv} {G : Cells} {Q : W → Cells → Prop} (m : ME) (is : List Int) : (mInC m is E G).sat Q = (m E G).sat fun w G1 => ∃ i, w = .int i ∧ Q (.bl (decide (i ∈ is))) G1 := by
  unfold mInC; rw [sat_bind]; congr; funext w G1; cases w <;> simp
theorem ev_inC {b : Bs} {Γ : TEnv} {m : ME} {i : Int} {is : List Int} {c : Nat} (h : Ev b Γ m (.val (tEq (.int i))) c) : Ev b Γ (mInC m is) (.val (tEq (.bl (decide (i ∈ is))))) c := fun n S E G hn e => by
  rw [s_inC]
  refine (h n S E G hn e).mono fun w G1 q => ?_
  obtain ⟨i1, f1, rfl⟩ := q
  exact ⟨i, rfl, i1, f1, rfl⟩
end PL
/- part PL6 -/
set_option maxHeartbeats 1000000
namespace PL
open PySem PySem.Spec PyProof.Rows L2
section
variable {X : Cx} {XP : Wish} {pos : Pos}
/-! ### an empty dict that takes tuples as keys -/
def mDict0T : ME := fun _ G => .ok (.ref G.length) (G ++ [.tct []])
theorem he_dict0T : HE X XP (.Dict [] [] pos) mDict0T := by
  refine ⟨_, pe_dnewT, fun ρ E G σ H Q er sr q => ?_⟩
  intro p hp
  have hcell : PL.CR X.K (ρ ++ [p]) (upd H p (.dT [])) (.tct []) p := ⟨[], upd_same, .nil⟩
  exact q (ρ ++ [p]) _ _ (ext_alloc hp) (sr.alloc hp hcell) (.ref (by rw [← sr.len]; exact last_get _ _))
end
section
variable {b : Bs} {Γ : TEnv} {c : Nat} {R : RT} {T : Tp W} {D : Tp Cell} {m : ME}
/-- not of a value -/
theorem ev_notB {x : Bool} (h : Ev b Γ m (.val (tEq (.bl x))) c) : Ev b Γ (mNot m) (.val (tEq (.bl (!x)))) c := fun n S E G hn e => by
  rw [s_not]
  refine (h n S E G hn e).mono fun w G1 q => ?_
  obtain ⟨i, f, q⟩ := q
  obtain rfl : w = .bl x := q
  exact ⟨x, rfl, i, f, rfl⟩
end
end PL
/- part PL7 -/
set_option maxHeartbeats 1000000
namespace PL
open PySem PySem.Spec PyProof.Rows L2
/-! ### zip over two iterators of any kind, its last tuple still held -/
section
variable {prog : Program} {w : World} {A : Around} {E : Value → Shared → Prop} {s : Shared} {z TI TO T i1 i2 : Addr} {fp1 fp2 : List Addr} {f : Bool} {oT : Obj} {n1 n2 i : Nat} {P1 P2 : Nat → Value → Prop} {St1 St2 : Nat → Heap → Prop}
/-- what stays as it is -/
abbrev KeptZ (z i1 i2 : Addr) (h h' : Heap) : Prop := ∀ c o, c ≠ z → c ≠ i1 → c ≠ i2 → h.get? c = some o → h'.get? c = some o
theorem zh_next {Q : Value → Shared → Prop} (S : ZipSep2 z TI TO i1 i2 fp1 fp2) (D1 : Draws prog w A i1 fp1 n1 P1 St1) (D2 : Draws prog w A i2 fp2 n2 P2 St2) (hz : IsZipHeld s.heap z TI TO T f) (hT : s.heap.get? T = some oT)
    (hTI : IsTupOf2 s.heap TI (.ref i1) (.ref i2)) (st1 : St1 i s.heap) (st2 : St2 i s.heap) (l1 : i < n1) (l2 : i < n2)
    (hQ : ∀ x1 x2 h' tk, P1 i x1 → P2 i x2 → IsZipHeld h' z TI TO T true → St1 (i + 1) h' → St2 (i + 1) h' → IsTupOf2 h' s.heap.objs.size x1 x2 → KeptZ z i1 i2 s.heap h' → Q (.ref s.heap.objs.size) { s with heap := h', toks := tk }) :
    wpAny (model prog w) A (Builtin.«zip.__next__» ⟨[.ref z], []⟩) (fun fin s' => ∃ v, fin = .done (.ret v) ∧ Q v s') E s := by
  obtain ⟨hp, g, d, tk0, os⟩ := s
  apply wpAny_bind (m := field (.ref z) 2)
  apply wpAny_field hz rfl (x := .bool false) rfl
  apply wpAny_bind (m := field (.ref z) 3)
  apply wpAny_field hz rfl (x := .ref TI) rfl
  apply wpAny_bind; apply wpAny_seqItems hTI rfl
  apply wpAny_bind (m := Builtin.SmallTypes.ownedTupleIsFree (.ref z))
  apply wpAny_tupleHeld_zip hz hT
  intro g0 hz0 hs0
  simp only [Bool.false_eq_true, if_false]; apply wpAny_bind
  rw [← Array.forIn_toList]; simp only [List.forIn_cons, List.forIn_nil]
  -- the first
  apply wpAny_bind; apply wpAny_bind; apply wpAny_holding
  apply wpAny_bind (m := Builtin.SmallTypes.nextOf (.ref i1))
  refine D1.item i ⟨g0, g, d, tk0, os⟩ _ _ l1 (D1.over st1 hs0 S.zf1) fun x1 p1 tk1 hx1 sn1 hp1 => ?_
  replace hp1 : Heap.SameBut i1 g0 p1 := hp1
  apply wpAny_pure; apply wpAny_pure
  -- the second
  apply wpAny_bind; apply wpAny_bind; apply wpAny_holding
  apply wpAny_bind (m := Builtin.SmallTypes.nextOf (.ref i2))
  refine D2.item i ⟨p1, g, d, tk1, os⟩ _ _ l2 (D2.over (D2.over st2 hs0 S.zf2) hp1 S.sep1_2) fun x2 p2 tk2 hx2 sn2 hp2 => ?_
  replace hp2 : Heap.SameBut i2 p1 p2 := hp2
  apply wpAny_pure; apply wpAny_pure; apply wpAny_pure
  apply wpAny_bind (m := newTuple [x1, x2])
  refine wpAny_newTuple (?_ : _)
  have size2 : p2.objs.size = hp.objs.size := (hp2.1.trans hp1.1).trans hs0.1
  have held2 : IsZipHeld p2 z TI TO T true := hp2.extBut _ _ S.zi2 (hp1.extBut _ _ S.zi1 hz0)
  have kept : KeptZ z i1 i2 hp p2 := fun c o c1 c2 c3 e => hp2.extBut _ _ c3 (hp1.extBut _ _ c2 (hs0.extBut _ _ c1 e))
  have first2 : St1 (i + 1) p2 := D1.over sn1 hp2 S.sep2_1
  have push : ∀ {c : Addr} {o : Obj}, p2.get? c = some o → (p2.push { cls := .type "tuple", data := .seq #[x1, x2] }).get? c = some o := fun e => Heap.get?_push_of_some _ e
  have made : IsTupOf2 (p2.push { cls := .type "tuple", data := .seq #[x1, x2] }) p2.objs.size x1 x2 := Heap.get?_push_size _ rfl
  apply wpAny_pure
  refine ⟨_, rfl, ?_⟩
  show Q (.ref p2.objs.size) ⟨p2.push { cls := .type "tuple", data := .seq #[x1, x2] }, g, d, tk2, os⟩
  rw [size2] at made ⊢
  exact hQ x1 x2 _ tk2 hx1 hx2 (push held2) (D1.frame _ _ _ first2 fun b _ o e => push e) (D2.frame _ _ _ sn2 fun b _ o e => push e) made fun c o c1 c2 c3 e => push (kept c o c1 c2 c3 e)
theorem zh_last {Q : Fin → Shared → Prop} (S : ZipSep2 z TI TO i1 i2 fp1 fp2) (D1 : Draws prog w A i1 fp1 n1 P1 St1) (D2 : Draws prog w A i2 fp2 n2 P2 St2) (hz : IsZipHeld s.heap z TI TO T f) (hT : s.heap.get? T = some oT)
    (hTI : IsTupOf2 s.heap TI (.ref i1) (.ref i2)) (st1 : St1 i s.heap) (st2 : St2 i s.heap) (l1 : i ≤ n1) (l2 : i ≤ n2) (le : i = n1 ∨ i = n2)
    (hE : ∀ h' tk e, KeptZ z i1 i2 s.heap h' → (∃ o, h'.get? e = some o ∧ o.cls = .type "StopIteration") → E (.ref e) { s with heap := h', toks := tk }) :
    wpAny (model prog w) A (Builtin.«zip.__next__» ⟨[.ref z], []⟩) Q E s := by
  obtain ⟨hp, g, d, tk0, os⟩ := s
  apply wpAny_bind (m := field (.ref z) 2)
  apply wpAny_field hz rfl (x := .bool false) rfl
  apply wpAny_bind (m := field (.ref z) 3)
  apply wpAny_field hz rfl (x := .ref TI) rfl
  apply wpAny_bind; apply wpAny_seqItems hTI rfl
  apply wpAny_bind (m := Builtin.SmallTypes.ownedTupleIsFree (.ref z))
  apply wpAny_tupleHeld_zip hz hT
  intro g0 hz0 hs0
  simp only [Bool.false_eq_true, if_false]; apply wpAny_bind
  rw [← Array.forIn_toList]; simp only [List.forIn_cons, List.forIn_nil]
  apply wpAny_bind; apply wpAny_bind; apply wpAny_holding
  apply wpAny_bind (m := Builtin.SmallTypes.nextOf (.ref i1))
  by_cases h1 : i < n1
  · refine D1.item i ⟨g0, g, d, tk0, os⟩ _ _ h1 (D1.over st1 hs0 S.zf1) fun x1 p1 tk1 hx1 sn1 hp1 => ?_
    replace hp1 : Heap.SameBut i1 g0 p1 := hp1
    have e2 : i = n2 := by omega
    apply wpAny_pure; apply wpAny_pure
    apply wpAny_bind; apply wpAny_bind; apply wpAny_holding
    apply wpAny_bind (m := Builtin.SmallTypes.nextOf (.ref i2))
    refine D2.done ⟨p1, g, d, tk1, os⟩ _ _ (e2 ▸ D2.over (D2.over st2 hs0 S.zf2) hp1 S.sep1_2) fun q e hq he => ?_
    exact hE q tk1 e (fun c o c1 c2 c3 x => hq _ _ c3 (hp1.extBut _ _ c2 (hs0.extBut _ _ c1 x))) he
  · have e1 : i = n1 := by omega
    refine D1.done ⟨g0, g, d, tk0, os⟩ _ _ (e1 ▸ D1.over st1 hs0 S.zf1) fun q e hq he => ?_
    exact hE q tk0 e (fun c o c1 c2 c3 x => hq _ _ c2 (hs0.extBut _ _ c1 x)) he
theorem zh_pyNext {Q : Option Value → Shared → Prop} (S : ZipSep2 z TI TO i1 i2 fp1 fp2) (D1 : Draws prog w A.in1 i1 fp1 n1 P1 St1) (D2 : Draws prog w A.in1 i2 fp2 n2 P2 St2) (hz : IsZipHeld s.heap z TI TO T f) (hT : s.heap.get? T = some oT)
    (hTI : IsTupOf2 s.heap TI (.ref i1) (.ref i2)) (st1 : St1 i s.heap) (st2 : St2 i s.heap) (l1 : i < n1) (l2 : i < n2)
    (hQ : ∀ x1 x2 h' tk, P1 i x1 → P2 i x2 → IsZipHeld h' z TI TO T true → St1 (i + 1) h' → St2 (i + 1) h' → IsTupOf2 h' s.heap.objs.size x1 x2 → KeptZ z i1 i2 s.heap h' → Q (some (.ref s.heap.objs.size)) { s with heap := h', toks := tk }) :
    wpAny (model prog w) A (pyNext (.ref z)) Q E s := by
  have ty : s.TypeIs (.ref z) "zip" := ⟨_, hz, rfl⟩
  have nx := fun Q' E' => zh_next (Q := Q') (E := E') S D1 D2 hz hT hTI st1 st2 l1 l2
  unfold pyNext
  apply wpAny_bind; apply wpAny_attempt
  apply wpAny_callSpecial?_slot (name := Str.ofString "__next__") ty F.slot_zip_next
  apply wpAny_call_entry F.slot_zip_next ty F.entry_zip_next _ (F.args_zip_next_1 _)
  exact nx _ _ fun x1 x2 h' tk a1 a2 a3 a4 a5 a6 a7 => wpAny_pure (hQ x1 x2 h' tk a1 a2 a3 a4 a5 a6 a7)
theorem zh_pyLast {Q : Option Value → Shared → Prop} (S : ZipSep2 z TI TO i1 i2 fp1 fp2) (D1 : Draws prog w A.in1 i1 fp1 n1 P1 St1) (D2 : Draws prog w A.in1 i2 fp2 n2 P2 St2) (hz : IsZipHeld s.heap z TI TO T f) (hT : s.heap.get? T = some oT)
    (hTI : IsTupOf2 s.heap TI (.ref i1) (.ref i2)) (st1 : St1 i s.heap) (st2 : St2 i s.heap) (l1 : i ≤ n1) (l2 : i ≤ n2) (le : i = n1 ∨ i = n2)
    (hQ : ∀ h' tk, KeptZ z i1 i2 s.heap h' → Q none { s with heap := h', toks := tk }) : wpAny (model prog w) A (pyNext (.ref z)) Q E s := by
  have ty : s.TypeIs (.ref z) "zip" := ⟨_, hz, rfl⟩
  have nx := fun Q' E' => zh_last (Q := Q') (E := E') S D1 D2 hz hT hTI st1 st2 l1 l2 le
  unfold pyNext
  apply wpAny_bind; apply wpAny_attempt
  apply wpAny_callSpecial?_slot (name := Str.ofString "__next__") ty F.slot_zip_next
  apply wpAny_call_entry F.slot_zip_next ty F.entry_zip_next _ (F.args_zip_next_1 _)
  refine nx _ _ fun h' tk e hk he => ?_
  obtain ⟨o, ho, hc⟩ := he
  apply wpAny_bind
  refine wpAny_isInstance (T := "StopIteration") (b := true) ?_ isSubtype_stop (wpAny_pure (hQ h' tk hk))
  exact ⟨o, ho, hc⟩
end
/-! ### dict(zip(xs, ys)) of a list and a tuple -/
section
variable {prog : Program} {w : World} {z TI TO i1 i2 a b : Addr}
/-- the zip as it is made -/
def ZipNew (z TI TO i1 i2 a b : Addr) (xs ys : Array Value) (h : Heap) : Prop :=
  IsZip h z TI TO .none ∧ IsTupOf2 h TI (.ref i1) (.ref i2) ∧ (∃ p q, IsTupOf2 h TO p q) ∧ (h.IsListIter i1 a 0 ∧ h.IsList a xs) ∧ h.IsTupleIter i2 b 0 ∧ h.IsTuple b ys
/-- and in the midst, while a dict is filled at d -/
def ZipMid (d z TI TO i1 i2 a b : Addr) (xs ys : Array Value) (i : Nat) (h : Heap) : Prop :=
  IsTupOf2 h TI (.ref i1) (.ref i2) ∧ (h.IsListIter i1 a i ∧ h.IsList a xs) ∧ (h.IsTupleIter i2 b i ∧ h.IsTuple b ys) ∧
    ((IsZip h z TI TO .none ∧ ∃ p q, IsTupOf2 h TO p q) ∨ ∃ T f oT, IsZipHeld h z TI TO T f ∧ h.get? T = some oT ∧ T ≠ z ∧ T ≠ i1 ∧ T ≠ i2 ∧ T ≠ d)
theorem pairs_zipM (S : ZipSep2 z TI TO i1 i2 [i1, a] [i2, b]) (ha : a ≠ i1) (hb : b ≠ i2) (xs ys : Array Value) :
    PairArg prog w "zip" z [z, TI, TO, i1, i2, a, b] [z, TO, i1, i2] (min xs.size ys.size) (fun i k v => xs[i]? = some k ∧ ys[i]? = some v) (ZipNew z TI TO i1 i2 a b xs ys) where
  type := fun s ok => ⟨_, ok.1, rfl⟩
  notDict := by decide
  keep := fun h h' ok hk => by
    obtain ⟨q1, q2, ⟨p, q, q3⟩, ⟨q4, q5⟩, q6, q7⟩ := ok
    exact ⟨hk _ _ q1, hk _ _ q2, ⟨p, q, hk _ _ q3⟩, ⟨q4.at fun o e => hk _ o e, q5.at fun o e => hk _ o e⟩, q6.at fun o e => hk _ o e, q7.at fun o e => hk _ o e⟩
  there := fun h ok c hc => by
    obtain ⟨q1, q2, ⟨p, q, q3⟩, ⟨⟨_, q4, _⟩, ⟨_, q5, _⟩⟩, ⟨_, q6, _⟩, ⟨_, q7, _⟩⟩ := ok
    have : c = z ∨ c = TI ∨ c = TO ∨ c = i1 ∨ c = i2 ∨ c = a ∨ c = b := by simpa using hc
    rcases this with rfl | rfl | rfl | rfl | rfl | rfl | rfl
    · exact ⟨_, q1⟩
    · exact ⟨_, q2⟩
    · exact ⟨_, q3⟩
    · exact ⟨_, q4⟩
    · exact ⟨_, q6⟩
    · exact ⟨_, q5⟩
    · exact ⟨_, q7⟩
  sub := fun c hc => by
    have : c = z ∨ c = TO ∨ c = i1 ∨ c = i2 := by simpa using hc
    rcases this with rfl | rfl | rfl | rfl <;> simp
  noKeys := fun A s Q E hA ok h => getAttrOr_miss_zip (o := _) ok.1 rfl rfl rfl zip_no_keys (by decide +kernel) hA h
  iter := fun A s d Q E hA ok hd hdf h => by
    obtain ⟨q1, q2, q3, q4, q5⟩ := ok
    have hdn : d ≠ z ∧ d ≠ TI ∧ d ≠ TO ∧ d ≠ i1 ∧ d ≠ i2 ∧ d ≠ a ∧ d ≠ b := by simpa using hdf
    obtain ⟨dz, dTI, dTO, d1, d2, da, db⟩ := hdn
    have D1 := Draws.list (prog := prog) (w := w) (A := A.in1) hA i1 a ha xs
    have D2 := Draws.tuple (prog := prog) (w := w) (A := A.in1) hA i2 b hb ys
    have off4 : ∀ {c : Addr}, c ∉ [z, TO, i1, i2] → c ≠ z ∧ c ≠ TO ∧ c ≠ i1 ∧ c ≠ i2 := fun hc => by simpa using hc
    refine wpAny_pyIter_zip q1 (h z [z, TO, i1, i2] (ZipMid d z TI TO i1 i2 a b xs ys) s.heap s.toks ?_ ⟨q2, q4, q5, .inl ⟨q1, q3⟩⟩ (fun _ _ e => e) fun c hc => .inl hc)
    refine ⟨fun hm => ?_, fun i h₁ h₂ st hk => ?_, fun i s₁ Q₁ E₁ hi st hds hQ => ?_, fun s₁ Q₁ E₁ st hQ => ?_⟩
    · have : d = z ∨ d = TO ∨ d = i1 ∨ d = i2 := by simpa using hm
      rcases this with e | e | e | e
      · exact dz e
      · exact dTO e
      · exact d1 e
      · exact d2 e
    · obtain ⟨t1, ⟨t2, t3⟩, ⟨t4, t5⟩, t6⟩ := st
      refine ⟨hk _ _ (Ne.symm dTI) t1, ⟨t2.at fun o e => hk _ o (Ne.symm d1) e, t3.at fun o e => hk _ o (Ne.symm da) e⟩, ⟨t4.at fun o e => hk _ o (Ne.symm d2) e, t5.at fun o e => hk _ o (Ne.symm db) e⟩, ?_⟩
      rcases t6 with ⟨u1, p, q, u2⟩ | ⟨T, f, oT, u1, u2, r1, r2, r3, r4⟩
      · exact .inl ⟨hk _ _ (Ne.symm dz) u1, p, q, hk _ _ (Ne.symm dTO) u2⟩
      · exact .inr ⟨T, f, oT, hk _ _ (Ne.symm dz) u1, hk _ _ r4 u2, r1, r2, r3, r4⟩
    · obtain ⟨t1, t2, t4, t6⟩ := st
      have k1 : i < xs.size := by omega
      have k2 : i < ys.size := by omega
      have fresh : ∀ {c : Addr} {o : Obj}, s₁.heap.get? c = some o → s₁.heap.objs.size ≠ c := fun e => Nat.ne_of_gt (Heap.lt_size e)
      have n1 : s₁.heap.objs.size ≠ i1 := by obtain ⟨⟨_, e, _⟩, _⟩ := t2; exact fresh e
      have n2 : s₁.heap.objs.size ≠ i2 := by obtain ⟨⟨_, e, _⟩, _⟩ := t4; exact fresh e
      rcases t6 with ⟨u1, p, q, u2⟩ | ⟨T, f, oT, u1, u2, r1, r2, r3, r4⟩
      · refine wpAny_pyNext_zipD2_item S D1 D2 u1 t1 u2 t2 t4 k1 k2 fun x1 x2 h' tk y1 y2 v1 v2 v3 v4 v5 v6 v7 => ?_
        refine hQ s₁.heap.objs.size x1 x2 h' tk ⟨y1, y2⟩ (.inl ⟨_, v5, rfl, _, rfl⟩) ⟨v7 _ _ S.TIz S.TITO S.TIi1 S.TIi2 t1, v3, v4, .inr ⟨s₁.heap.objs.size, false, _, v1, v5, fresh u1, n1, n2, Nat.ne_of_gt hds⟩⟩ fun c o hc e => ?_
        obtain ⟨c1, c2, c3, c4⟩ := off4 hc
        exact v7 c o c1 c2 c3 c4 e
      · refine zh_pyNext S D1 D2 u1 u2 t1 t2 t4 k1 k2 fun x1 x2 h' tk y1 y2 v1 v2 v3 v4 v5 => ?_
        refine hQ s₁.heap.objs.size x1 x2 h' tk ⟨y1, y2⟩ (.inl ⟨_, v4, rfl, _, rfl⟩) ⟨v5 _ _ S.TIz S.TIi1 S.TIi2 t1, v2, v3, .inr ⟨T, true, oT, v1, v5 _ _ r1 r2 r3 u2, r1, r2, r3, r4⟩⟩ fun c o hc e => ?_
        obtain ⟨c1, c2, c3, c4⟩ := off4 hc
        exact v5 c o c1 c3 c4 e
    · obtain ⟨t1, t2, t4, t6⟩ := st
      have k0 : min xs.size ys.size = xs.size ∨ min xs.size ys.size = ys.size := by omega
      rcases t6 with ⟨u1, p, q, u2⟩ | ⟨T, f, oT, u1, u2, r1, r2, r3, r4⟩
      · refine wpAny_pyNext_zipD2_end S D1 D2 u1 t1 u2 t2 t4 (by omega) (by omega) k0 fun h' tk hk => hQ h' tk fun c o hc e => ?_
        obtain ⟨c1, c2, c3, c4⟩ := off4 hc
        exact hk c o c1 c2 c3 c4 e
      · refine zh_pyLast S D1 D2 u1 u2 t1 t2 t4 (by omega) (by omega) k0 fun h' tk hk => hQ h' tk fun c o hc e => ?_
        obtain ⟨c1, c2, c3, c4⟩ := off4 hc
        exact hk c o c1 c3 c4 e
end
end PL
/- part PL8 -/
set_option maxHeartbeats 1000000
namespace PL
open PySem PySem.Spec PyProof.Rows L2
section
variable {X : Cx} {XP : Wish} {pos : Pos} {k : Nat}
def tDictZ (K : Fg) (ta : TA) : TE := fun σ H Q => ta σ H fun vs H1 => ∃ (a b : Addr) (ks : List Key) (qs : List V), vs = [.ref a, .ref b] ∧ SqL K H1 a (ks.map kV) ∧ SqT K H1 b qs ∧ ∀ p, H1 p = none → Q (.ref p) (upd H1 p (.dK (mergeK [] (ks.zip qs))))
theorem zip_pairs {P : Program} {w : World} : ∀ {ks : List Key} {qs : List V} {us us2 : List Value}, Vals (ks.map kV) us → Vals qs us2 →
    ∃ prs : List (Key × Value), KV (ks.zip qs) prs ∧ prs.length = min us.length us2.length ∧ ∀ (i : Nat) (key v : Value), us[i]? = some key → us2[i]? = some v → ∃ k, prs[i]? = some (k, v) ∧ keyIs k key = true
  | [], qs, _, us2, .nil, _ => ⟨[], .nil, by simp, fun i key v h => by simp at h⟩
  | k :: ks, [], _, _, .cons r rr, .nil => ⟨[], .nil, by simp, fun i key v _ h => by simp at h⟩
  | k :: ks, q :: qs, _, _, .cons (b := u) r rr, .cons (b := y) r2 rr2 => by
    obtain ⟨prs, e1, e2, e3⟩ := zip_pairs (P := P) (w := w) rr rr2
    refine ⟨(k, y) :: prs, .cons ⟨rfl, r2⟩ e1, by simp [e2], fun i key v h1 h2 => ?_⟩
    cases i with
    | zero =>
      simp at h1 h2
      subst h1 h2
      exact ⟨k, rfl, kV_is (P := P) (w := w) r⟩
    | succ i =>
      simp at h1 h2
      obtain ⟨k', a, b⟩ := e3 i key v h1 h2
      exact ⟨k', by simpa using a, b⟩
theorem pe_dictZ {e e2 : Expr} {ta : TA} {p p2 q : Pos} (hg : Gl X "dict") (hm : X.mg "dict" = none) (hg2 : Gl X "zip") (hm2 : X.mg "zip" = none) (ha : PA X [e, e2] ta) (hc : X.calm = true)
    (hs : starEach [e, e2] X.env = (false, eval e X.env) :: starEach [e2] X.env) (hpl : (backTo q (starEach [e2] X.env)).any (·.1) = false) : PE X (.Call (.Name "dict" p) [.Call (.Name "zip" p2) [e, e2] [] q] [] pos) (tDictZ X.K ta) := by
  refine ⟨fun pins s σ H Q I h => ?_⟩
  refine Call_ (ld_blt I hg hm PyProof.Rows.boot_dict (PyProof.Rows.callWith_type1 (PyProof.Rows.args_cons ?_ rfl) rfl rfl))
  refine Call_ (ld_blt I hg2 hm2 PyProof.Rows.boot_zip (PyProof.Rows.callWith_type1 (thn (ha.run q pins s σ H _ I h) fun us s1 ⟨vs, H1, I1, r1, q1⟩ => ?_) hs hpl))
  obtain ⟨a, b, ks, qs, rfl, hps, hqs, q1⟩ := q1
  cases r1 with
  | cons ra rr =>
    cases rr with
    | cons rb rr =>
      cases rr
      cases ra
      cases rb
      obtain ⟨its, rv, pl, z1⟩ := I1.list hps
      obtain ⟨its2, rv2, pt, z2⟩ := I1.tuple hqs
      have la : a < s1.heap.objs.size := pl.lt
      have lb : b < s1.heap.objs.size := pt.lt
      obtain ⟨prs, rel, pn, pr⟩ := zip_pairs (P := X.prog) (w := X.w) rv rv2
      refine zip_begins2 (begins_list a its.toArray) (begins_tuple b its2.toArray) pl.isList pt fun h' hz hTI hTO h1 h2 hsz hk => ?_
      apply PyProof.Rows.args_nil
      have sep := zsep s1.heap.objs.size a b la lb
      have arg := pairs_zipM (prog := X.prog) (w := X.w) sep (Nat.ne_of_lt la) (Nat.ne_of_lt (Nat.lt_succ_of_lt lb)) its.toArray its2.toArray
      have I2 : L2.Inv X pins σ H1 { s1 with heap := h' } := I1.kept (t' := s1.toks) hk
      have i1a : h'.IsListIter s1.heap.objs.size a 0 := ⟨_, h1, rfl, rfl⟩
      have i2b : h'.IsTupleIter (s1.heap.objs.size + 1) b 0 := ⟨_, h2, rfl, rfl⟩
      have ok : ZipNew (s1.heap.objs.size + 4) (s1.heap.objs.size + 2) (s1.heap.objs.size + 3) s1.heap.objs.size (s1.heap.objs.size + 1) a b its.toArray its2.toArray h' :=
        ⟨hz, hTI, ⟨_, _, hTO⟩, ⟨i1a, pl.isList.at fun o e => hk _ o e⟩, i2b, by obtain ⟨o, e1, e2⟩ := pt; exact ⟨o, hk _ o e1, e2⟩⟩
      have have' : PairsHave (mixKind X.prog X.w) (min its.toArray.size its2.toArray.size) (fun i k v => its.toArray[i]? = some k ∧ its2.toArray[i]? = some v) prs :=
        ⟨by rw [pn]; simp, fun i key v hh => pr i key v (by simpa using hh.1) (by simpa using hh.2)⟩
      have small : min its.toArray.size its2.toArray.size ≤ sizeLine := by
        have := rv.length
        simp only [List.size_toArray]
        omega
      refine PySem.call_dict_pairs (knd := mixKind X.prog X.w) (kvs := prs) arg (by exact I.ok.hd hc) ok have' small fun h3 tk hd hk3 => ?_
      have hm3 : (h'.objs.size == sysModules) = false := beq_eq_false_iff_ne.mpr (Nat.ne_of_gt I2.big)
      have len3 : (mergeK [] (ks.zip qs)).length ≤ sizeLine := by
        refine Nat.le_trans (length_mergeK _ []) ?_
        rw [List.length_nil, Nat.zero_add, rel.length, pn]
        simpa using small
      have new : ObjOk X.prog X.w (upd H1 h'.objs.size (.dK (mergeK [] (ks.zip qs)))) h3 h'.objs.size (.dK (mergeK [] (ks.zip qs))) := ⟨len3, hm3, merged [] prs, KV.merge rel .nil, hd⟩
      have fp : ∀ c ∈ [s1.heap.objs.size + 4, s1.heap.objs.size + 3, s1.heap.objs.size, s1.heap.objs.size + 1], FpOk X pins H1 c := fun c hcm => by
        have le : s1.heap.objs.size ≤ c := by
          have : c = s1.heap.objs.size + 4 ∨ c = s1.heap.objs.size + 3 ∨ c = s1.heap.objs.size ∨ c = s1.heap.objs.size + 1 := by simpa using hcm
          omega
        exact I1.fpOk le (I1.hok.fresh le)
      have I3 : L2.Inv X pins σ (upd H1 h'.objs.size (.dK (mergeK [] (ks.zip qs)))) { s1 with heap := h3, toks := tk } := I2.turnedNew (t' := tk) (fun c o off e => hk3 c o off e) fp (Nat.le_refl _) new
      exact ⟨.ref h'.objs.size, _, I3, rfl, q1 _ (I2.hok.fresh (Nat.le_refl _))⟩
/-! the mirror -/
def mDictZ (m : MA) : ME := fun E G => (m E G).bind fun ws G1 => match ws with
  | [.ref n, .tup us] => (match rdL G1 n with | some xs => (match keysL xs with | some ks => .ok (.ref G1.length) (G1 ++ [.dct (mergeW [] (ks.zip us))]) | none => .no) | none => .no)
  | _ => .no
theorem kvr_zip {K : Fg} {ρ : List Addr} {H : Hp} : ∀ (ks : List Key) {us : List W} {qs : List V}, VRs K ρ H us qs → KVR K ρ H (ks.zip us) (ks.zip qs)
  | [], _, _, _ => .nil
  | _ :: _, _, _, .nil => .nil
  | _ :: ks, _, _, .cons r rr => .cons r (kvr_zip ks rr)
theorem he_dictZip {e e2 : Expr} {m : MA} {p p2 q : Pos} (c : GC X XP k) (hg : Gl X "dict") (hm : X.mg "dict" = none) (hg2 : Gl X "zip") (hm2 : X.mg "zip" = none) (ha : HA X XP [e, e2] m)
    (hs : starEach [e, e2] X.env = (false, eval e X.env) :: starEach [e2] X.env := by rfl) (hpl : (backTo q (starEach [e2] X.env)).any (·.1) = false := by rfl) : HE X XP (.Call (.Name "dict" p) [.Call (.Name "zip" p2) [e, e2] [] q] [] pos) (mDictZ m) := by
  obtain ⟨t, h1, h2⟩ := ha.ex
  refine ⟨_, pe_dictZ hg hm hg2 hm2 h1 c.calm hs hpl, fun ρ E G σ H Q er sr q => h2 ρ E G σ H _ er sr (q.bind fun ws G1 ρ1 H1 vs e1 s1 r1 k1 => ?_)⟩
  split at k1
  · split at k1
    · rename_i xs hr
      split at k1
      · rename_i ks hk
        cases r1 with
        | cons r rr =>
          cases rr with
          | cons r' rr =>
            cases rr
            cases r with
            | ref hn =>
              cases r' with
              | tup g1 g2 =>
                obtain ⟨vs, q1, q2⟩ := rdL_ok s1 hn hr
                have := keysL_ok q2 hk
                subst this
                refine ⟨_, _, ks, _, rfl, q1, .of g1, fun p hp => ?_⟩
                exact k1 (ρ1 ++ [p]) _ _ (ext_alloc hp) (s1.alloc hp ⟨_, upd_same, KVR.merge ((kvr_zip ks g2).mono (ext_alloc hp)) .nil⟩) (.ref (by rw [← s1.len]; exact last_get _ _))
      · exact k1.elim
    · exact k1.elim
  · exact k1.elim
end
theorem keysL_map (js : List Int) : keysL (js.map W.int) = some (js.map Sum.inl) := by
  induction js with
  | nil => rfl
  | cons x xs ih => simp only [List.map_cons, keysL, keyW, ih]
/-! judged -/
section
variable {b : Bs} {Γ : TEnv} {c1 c2 c3 : Nat} {N : Nat → PEnv → Cells → Prop} {R : RT}
theorem zip_keys_nd {js : List Int} (h : js.Nodup) (us : List W) : ((((js.map Sum.inl : List Key)).zip us).map (·.1)).Nodup := by
  have hsub : ∀ (ks : List Key) (us : List W), (((ks.zip us).map (·.1))).Sublist ks := fun ks => by
    induction ks with
    | nil => intro us; simp
    | cons k ks ih =>
      intro us
      cases us with
      | nil => simp
      | cons u us => simpa using ih us
  refine List.Nodup.sublist (hsub _ us) ?_
  unfold List.Nodup at h ⊢
  rw [List.pairwise_map]
  exact h.imp fun hne e => hne (Sum.inl.inj e)
theorem ev_dictZ {m m' : ME} {js : List Int} {us : List W} (h : Er b Γ m (dL (tEq (js.map W.int))) c1) (h' : Ev b Γ m' (.val (tEq (.tup us))) c2) (hn : js.Nodup) : Ev b Γ (mDictZ (mCons m (mCons m' mNil))) (.new (dD (tEq ((js.map Sum.inl : List Key).zip us)))) (c1 + c2) := fun n S E G hn' e => by
  unfold mDictZ
  rw [sat_bind, s_cons]
  refine (h n S E G (by omega) e).mono fun w G1 q => ?_
  obtain ⟨i1, f1, k, x, rfl, hc, ⟨ws, rfl, q⟩, n0⟩ := q
  obtain rfl : ws = _ := q
  rw [s_cons]
  refine (h' _ S E G1 (by omega) (e.mv i1 f1)).mono fun w2 G2 q2 => ?_
  obtain ⟨i2, f2, q2⟩ := q2
  obtain rfl : w2 = .tup us := q2
  rw [s_nil]
  have hc2 : rdL G2 k = some (js.map W.int) := by unfold rdL; rw [f2.get hc n0]
  simp only [hc2, keysL_map]
  rw [mergeW_nil (zip_keys_nd hn us)]
  refine ⟨b.I.nil Fr.push (b.I.up (by omega) i2), (f1.trans f2).trans Fr.push.of_nil, G2.length, _, rfl, ?_, push_get _ _, _, rfl, rfl⟩
  have := f1.1; have := f2.1; omega
end
end PL
/- part K44m -/
set_option maxHeartbeats 4000000
namespace NS
open PySem PySem.Spec PyProof.Rows L2 PL
/-! ### the text: mirrors -/
def topS (i : Nat) : Stmt := PySem.Challenge.pw_longernearer_k44_whole_choices_that_serv.main.body.getD i (.Pass ⟨0, 0, 0, 0⟩)
def Bchoices_within : MS := sSeq (sAsg (mLst (mCons (mTup (mNil)) (mNil))) (gSet 1)) (sSeq (sForI (mSeq (mVar 0)) (gSet 2) (sAsg (mBin addW (mVar 1) (mLcI (mSeq (mVar 1)) (gSet 3) (mYes) (mBin addW (mVar 3) (mTup (mCons (mVar 2) (mNil)))) [3])) (gSet 1))) (sRet (mVar 1)))
def Mchoices_within : PF := mFun 1 4 Bchoices_within
def Bjumps_of : MS := sRet (mCall tupleW (mCons (mLcI (mEnum (mCons (mVar 0) (mNil))) (gTupW 2 (gsCons 1 (gsCons 2 (gsNil)))) (mTest (mBin eqOp (mBin getW (mVar 2) (mC (.int 0))) (mC (.str "jump")))) (mVar 1) [1, 2]) (mNil)))
def Mjumps_of : PF := mFun 1 3 Bjumps_of
def Bown_bytes : MS := sSeq (sIf (mTest (mBin eqOp (mBin getW (mVar 0) (mC (.int 0))) (mC (.str "label")))) (sRet (mC (.int 0))) (sNext)) (sSeq (sIf (mTest (mBin eqOp (mBin getW (mVar 0) (mC (.int 0))) (mC (.str "fill")))) (sRet (mBin modW (mNeg (mVar 1)) (mBin getW (mVar 0) (mC (.int 1))))) (sNext)) (sRet (mIf (mTru (mVar 2)) (mBin getW (mVar 0) (mC (.int 3))) (mBin getW (mVar 0) (mC (.int 2))))))
def Mown_bytes : PF := mFun 3 3 Bown_bytes
def Blaid : MS := sSeq (sAsg (mLst (mNil)) (gSet 3)) (sSeq (sAsg (mC (.int 0)) (gSet 4)) (sSeq (sForI (mEnum (mCons (mVar 0) (mNil))) (gTupW 2 (gsCons 5 (gsCons 6 (gsNil)))) (sSeq (sAsg (mBin addW (mVar 4) (mBin getW (mVar 1) (mVar 5))) (gSet 7)) (sSeq (sAsg (mBin addW (mVar 7) (mDef Mown_bytes (mCons (mVar 6) (mCons (mVar 7) (mCons (mBin (inW false) (mVar 5) (mVar 2)) (mNil)))))) (gSet 4)) (sExpr (mMeth "list" appendW (mVar 3) (mCons (mTup (mCons (mVar 7) (mCons (mVar 4) (mNil)))) (mNil))))))) (sRet (mCall tupleW (mCons (mVar 3) (mNil))))))
def Mlaid : PF := mFun 3 8 Blaid
def B_way : MS := sSeq (sAsg (mBin getW (mBin getW (mVar 0) (mVar 2)) (mC (.int 1))) (gSet 3)) (sSeq (sIf (mTest (mBin gtW (mVar 3) (mVar 2))) (sRet (mBin subW (mBin getW (mBin getW (mVar 1) (mVar 3)) (mC (.int 0))) (mBin getW (mBin getW (mVar 1) (mVar 2)) (mC (.int 1))))) (sNext)) (sRet (mBin subW (mBin getW (mBin getW (mVar 1) (mVar 2)) (mC (.int 1))) (mBin getW (mBin getW (mVar 1) (mVar 3)) (mC (.int 0))))))
def M_way : PF := mFun 3 4 B_way
def Bstuck : MS := sSeq (sAsg (mVar 0) (gTupW 3 (gsCons 2 (gsCons 3 (gsCons 4 (gsNil)))))) (sSeq (sAsg (mDef Mlaid (mCons (mVar 2) (mCons (mVar 3) (mCons (mVar 1) (mNil))))) (gSet 5)) (sSeq (sAsg (mLst (mNil)) (gSet 6)) (sSeq (sForI (mZip (mCons (mDef Mjumps_of (mCons (mVar 2) (mNil))) (mCons (mVar 4) (mNil)))) (gTupW 2 (gsCons 7 (gsCons 8 (gsNil)))) (sIf (mAndT (mTest (mBin (inW true) (mVar 7) (mVar 1))) (mTest (mBin gtW (mDef M_way (mCons (mVar 2) (mCons (mVar 5) (mCons (mVar 7) (mNil))))) (mVar 8)))) (sExpr (mMeth "list" appendW (mVar 6) (mCons (mVar 7) (mNil)))) (sNext))) (sRet (mCall tupleW (mCons (mVar 6) (mNil)))))))
def Mstuck : PF := mFun 2 9 Bstuck
def Bserves : MS := sRet (mBin eqOp (mCall lenW (mCons (mDef Mstuck (mCons (mVar 0) (mCons (mVar 1) (mNil)))) (mNil))) (mC (.int 0)))
def Mserves : PF := mFun 2 2 Bserves
def Bserving : MS := sSeq (sAsg (mDef Mchoices_within (mCons (mDef Mjumps_of (mCons (mBin getW (mVar 0) (mC (.int 0))) (mNil))) (mNil))) (gSet 1)) (sRet (mCall tupleW (mCons (mCall sortedLW (mCons (mLcI (mSeq (mVar 1)) (gSet 2) (mTru (mDef Mserves (mCons (mVar 0) (mCons (mVar 2) (mNil))))) (mVar 2) [2]) (mNil))) (mNil))))
def Mserving : PF := mFun 1 3 Bserving
def B_law_stock : MS := sSeq (sAsg (mLcI (mSeq (mCut (mVar 0) (mNoPart) (mPart (mC (.int 63))))) (gSet 2) (mYes) (mIf (mTest (mBin geW (mVar 2) (mC (.int 0)))) (mBin mulW (mC (.int 2)) (mVar 2)) (mBin subW (mBin mulW (mNeg (mC (.int 2))) (mVar 2)) (mC (.int 1)))) [2]) (gSet 1)) (sRet (mLst (mCons (mLcI (mSeq (mVar 1)) (gSet 2) (mTest (mBin geW (mVar 2) (mBin powW (mC (.int 10)) (mC (.int 15))))) (mVar 2) [2]) (mCons (mBin addW (mVar 1) (mLst (mCons (mBin addW (mCall lenW (mCons (mVar 1) (mNil))) (mC (.int 761))) (mNil)))) (mCons (mCall sumW (mCons (mVar 1) (mNil))) (mCons (mC (.int 0)) (mNil)))))))
def M_law_stock : PF := mFun 1 3 B_law_stock
def B_law_draw : MS := sSeq (sIf (mTest (mBin neOp (mBin getW (mVar 0) (mC (.int 0))) (mLst (mNil)))) (sSeq (sAsg (mMeth "list" popW (mBin getW (mVar 0) (mC (.int 0))) mNil) (gSet 2)) (sSeq (sIf (mTest (mBin geW (mVar 2) (mVar 1))) (sExpr (mMeth "list" appendW (mBin getW (mVar 0) (mC (.int 0))) (mCons (mBin fdivW (mVar 2) (mVar 1)) (mNil)))) (sNext)) (sRet (mBin modW (mCall intW (mCons (mVar 2) (mNil))) (mVar 1))))) (sNext)) (sSeq (sAsg (mBin addW (mBin getW (mVar 0) (mC (.int 3))) (mC (.int 1))) (gPut (mVar 0) (mC (.int 3)))) (sSeq (sAsg (mBin getW (mVar 0) (mC (.int 3))) (gSet 3)) (sSeq (sAsg (mBin modW (mCall intW (mCons (mBin getW (mBin getW (mVar 0) (mC (.int 1))) (mBin modW (mCall intW (mCons (mVar 3) (mNil))) (mCall lenW (mCons (mBin getW (mVar 0) (mC (.int 1))) (mNil))))) (mNil))) (mC (.int 1000000007))) (gSet 4)) (sSeq (sAsg (mBin modW (mCall intW (mCons (mBin addW (mBin addW (mBin mulW (mVar 4) (mC (.int 48271))) (mBin mulW (mBin modW (mCall intW (mCons (mBin getW (mVar 0) (mC (.int 2))) (mNil))) (mC (.int 998244353))) (mC (.int 69621)))) (mBin mulW (mVar 3) (mC (.int 2654435761)))) (mNil))) (mC (.int 4294967291))) (gSet 5)) (sSeq (sAsg (mBin modW (mCall intW (mCons (mBin addW (mBin addW (mBin mulW (mVar 5) (mVar 5)) (mBin mulW (mVar 3) (mC (.int 362437)))) (mVar 4)) (mNil))) (mC (.int 4294967279))) (gSet 5)) (sRet (mBin modW (mBin fdivW (mBin modW (mCall intW (mCons (mBin addW (mBin mulW (mVar 5) (mC (.int 40692))) (mBin mulW (mVar 3) (mC (.int 65537)))) (mNil))) (mC (.int 4294967231))) (mC (.int 4096))) (mVar 1))))))))
def M_law_draw : PF := mFun 2 6 B_law_draw
def B_law_pick : MS := sRet (mBin getW (mVar 1) (mDef M_law_draw (mCons (mVar 0) (mCons (mCall lenW (mCons (mVar 1) (mNil))) (mNil)))))
def M_law_pick : PF := mFun 2 2 B_law_pick
def B_law_skeleton : MS := sSeq (sPar3 3 4 5 (mCons (mBin addW (mC (.int 1)) (mDef M_law_draw (mCons (mVar 0) (mCons (mVar 1) (mNil))))) (mCons (mLst (mNil)) (mCons (mVar 2) (mNil))))) (sSeq (sForI (mRng1 (mCons (mVar 3) (mNil))) (gSet 6) (sSeq (sAsg (mBin getW (mLst (mCons (mC (.str "label")) (mCons (mC (.str "fill")) (mCons (mC (.str "jump")) (mCons (mC (.str "jump")) (mCons (mC (.str "fill")) (mCons (mC (.str "jump")) (mCons (mC (.str "jump")) (mNil))))))))) (mDef M_law_draw (mCons (mVar 0) (mCons (mC (.int 7)) (mNil))))) (gSet 7)) (sSeq (sAsg (mIf (mAndT (mTest (mBin eqOp (mVar 7) (mC (.str "jump")))) (mTest (mBin eqOp (mVar 5) (mC (.int 0))))) (mC (.str "label")) (mVar 7)) (gSet 7)) (sSeq (sAsg (mBin subW (mVar 5) (mCall intW (mCons (mBin eqOp (mVar 7) (mC (.str "jump"))) (mNil)))) (gSet 5)) (sExpr (mMeth "list" appendW (mVar 4) (mCons (mVar 7) (mNil)))))))) (sSeq (sIf (mTest (mBin (inW true) (mC (.str "label")) (mVar 4))) (sAsg (mC (.str "label")) (gPut (mVar 4) (mDef M_law_pick (mCons (mVar 0) (mCons (mLst (mCons (mBin subW (mVar 3) (mC (.int 1))) (mCons (mBin subW (mVar 3) (mC (.int 1))) (mCons (mDef M_law_draw (mCons (mVar 0) (mCons (mVar 3) (mNil)))) (mNil))))) (mNil)))))) (sNext)) (sSeq (sAsg (mLcI (mEnum (mCons (mVar 4) (mNil))) (gTupW 2 (gsCons 6 (gsCons 7 (gsNil)))) (mTest (mBin eqOp (mVar 7) (mC (.str "label")))) (mVar 6) [6, 7]) (gSet 8)) (sSeq (sAsg (mLst (mNil)) (gSet 9)) (sSeq (sForI (mSeq (mVar 4)) (gSet 7) (sIf (mTest (mBin eqOp (mVar 7) (mC (.str "label")))) (sExpr (mMeth "list" appendW (mVar 9) (mCons (mTup (mCons (mC (.str "label")) (mNil))) (mNil)))) (sIf (mTest (mBin eqOp (mVar 7) (mC (.str "fill")))) (sExpr (mMeth "list" appendW (mVar 9) (mCons (mTup (mCons (mC (.str "fill")) (mCons (mDef M_law_pick (mCons (mVar 0) (mCons (mLst (mCons (mC (.int 2)) (mCons (mC (.int 4)) (mCons (mC (.int 8)) (mCons (mC (.int 4)) (mCons (mC (.int 2)) (mCons (mC (.int 8)) (mCons (mC (.int 16)) (mCons (mC (.int 64)) (mNil)))))))))) (mNil)))) (mNil)))) (mNil)))) (sSeq (sAsg (mDef M_law_pick (mCons (mVar 0) (mCons (mBin addW (mBin mulW (mLst (mCons (mBin addW (mC (.int 1)) (mDef M_law_draw (mCons (mVar 0) (mCons (mC (.int 4)) (mNil))))) (mNil))) (mC (.int 4))) (mLst (mCons (mBin addW (mC (.int 1)) (mDef M_law_draw (mCons (mVar 0) (mCons (mC (.int 998)) (mNil))))) (mNil)))) (mNil)))) (gSet 10)) (sSeq (sAsg (mDef M_law_pick (mCons (mVar 0) (mCons (mLst (mCons (mC (.int 3)) (mCons (mC (.int 1)) (mCons (mC (.int 4)) (mCons (mC (.int 2)) (mCons (mC (.int 6)) (mCons (mC (.int 8)) (mCons (mBin addW (mC (.int 1)) (mDef M_law_draw (mCons (mVar 0) (mCons (mC (.int 20)) (mNil))))) (mCons (mC (.int 64)) (mNil)))))))))) (mNil)))) (gSet 11)) (sExpr (mMeth "list" appendW (mVar 9) (mCons (mTup (mCons (mC (.str "jump")) (mCons (mDef M_law_pick (mCons (mVar 0) (mCons (mBin addW (mCut (mVar 8) (mPart (mNeg (mC (.int 2)))) (mNoPart)) (mVar 8)) (mNil)))) (mCons (mVar 10) (mCons (mCall minW (mCons (mC (.int 999)) (mCons (mBin addW (mVar 10) (mVar 11)) (mNil)))) (mNil)))))) (mNil))))))))) (sRet (mCall tupleW (mCons (mVar 9) (mNil)))))))))
def M_law_skeleton : PF := mFun 3 12 B_law_skeleton
def B_law_eight : MS := sSeq (sAsg (mLst (mCons (mTup (mCons (mC (.str "label")) (mNil))) (mNil))) (gSet 1)) (sSeq (sForI (mRng1 (mCons (mC (.int 8)) (mNil))) (gSet 2) (sSeq (sIf (mTest (mBin eqOp (mBin modW (mCall intW (mCons (mVar 2) (mNil))) (mC (.int 4))) (mC (.int 0)))) (sExpr (mMeth "list" appendW (mVar 1) (mCons (mTup (mCons (mC (.str "fill")) (mCons (mDef M_law_pick (mCons (mVar 0) (mCons (mLst (mCons (mC (.int 2)) (mCons (mC (.int 4)) (mCons (mC (.int 8)) (mCons (mC (.int 64)) (mNil)))))) (mNil)))) (mNil)))) (mNil)))) (sNext)) (sSeq (sAsg (mBin addW (mC (.int 1)) (mDef M_law_draw (mCons (mVar 0) (mCons (mC (.int 4)) (mNil))))) (gSet 3)) (sExpr (mMeth "list" appendW (mVar 1) (mCons (mTup (mCons (mC (.str "jump")) (mCons (mDef M_law_pick (mCons (mVar 0) (mCons (mLst (mCons (mC (.int 0)) (mCons (mC (.int 11)) (mCons (mC (.int 11)) (mNil))))) (mNil)))) (mCons (mVar 3) (mCons (mBin addW (mVar 3) (mDef M_law_pick (mCons (mVar 0) (mCons (mLst (mCons (mC (.int 1)) (mCons (mC (.int 2)) (mCons (mC (.int 3)) (mCons (mC (.int 4)) (mCons (mC (.int 8)) (mNil))))))) (mNil))))) (mNil)))))) (mNil))))))) (sRet (mCall tupleW (mCons (mBin addW (mVar 1) (mLst (mCons (mTup (mCons (mC (.str "label")) (mNil))) (mNil)))) (mNil)))))
def M_law_eight : PF := mFun 1 4 B_law_eight
def B_law_jumps : MS := sRet (mLcI (mEnum (mCons (mVar 0) (mNil))) (gTupW 2 (gsCons 1 (gsCons 2 (gsNil)))) (mTest (mBin eqOp (mBin getW (mVar 2) (mC (.int 0))) (mC (.str "jump")))) (mVar 1) [1, 2])
def M_law_jumps : PF := mFun 1 3 B_law_jumps
def B_law_spots : MS := sSeq (sPar 3 4 (mCons (mC (.int 0)) (mCons (mLst (mNil)) (mNil)))) (sSeq (sForI (mEnum (mCons (mVar 0) (mNil))) (gTupW 2 (gsCons 5 (gsCons 6 (gsNil)))) (sSeq (sAsg (mBin addW (mVar 3) (mBin getW (mVar 1) (mVar 5))) (gSet 7)) (sSeq (sAsg (mVar 7) (gSet 3)) (sSeq (sIf (mTest (mBin eqOp (mBin getW (mVar 6) (mC (.int 0))) (mC (.str "fill")))) (sAsg (mBin addW (mVar 7) (mBin modW (mCall intW (mCons (mBin subW (mC (.int 0)) (mVar 7)) (mNil))) (mBin getW (mVar 6) (mC (.int 1))))) (gSet 3)) (sIf (mTest (mBin eqOp (mBin getW (mVar 6) (mC (.int 0))) (mC (.str "jump")))) (sAsg (mBin addW (mVar 7) (mIf (mTest (mBin (inW false) (mVar 5) (mVar 2))) (mBin getW (mVar 6) (mC (.int 3))) (mBin getW (mVar 6) (mC (.int 2))))) (gSet 3)) (sNext))) (sExpr (mMeth "list" appendW (mVar 4) (mCons (mTup (mCons (mVar 7) (mCons (mVar 3) (mNil)))) (mNil)))))))) (sRet (mVar 4)))
def M_law_spots : PF := mFun 3 8 B_law_spots
def B_law_ways : MS := sSeq (sPar 3 4 (mCons (mDef M_law_spots (mCons (mVar 0) (mCons (mVar 1) (mCons (mVar 2) (mNil))))) (mCons (mDict0) (mNil)))) (sSeq (sForI (mSeq (mDef M_law_jumps (mCons (mVar 0) (mNil)))) (gSet 5) (sSeq (sAsg (mBin getW (mBin getW (mVar 0) (mVar 5)) (mC (.int 1))) (gSet 6)) (sIf (mTest (mBin (inW true) (mVar 5) (mVar 2))) (sAsg (mIf (mTest (mBin gtW (mVar 6) (mVar 5))) (mBin subW (mBin getW (mBin getW (mVar 3) (mVar 6)) (mC (.int 0))) (mBin getW (mBin getW (mVar 3) (mVar 5)) (mC (.int 1)))) (mBin subW (mBin getW (mBin getW (mVar 3) (mVar 5)) (mC (.int 1))) (mBin getW (mBin getW (mVar 3) (mVar 6)) (mC (.int 0))))) (gPut (mVar 4) (mVar 5))) (sNext)))) (sRet (mVar 4)))
def M_law_ways : PF := mFun 3 7 B_law_ways
def B_law_fits : MS := sSeq (sAsg (mVar 0) (gTupW 3 (gsCons 2 (gsCons 3 (gsCons 4 (gsNil)))))) (sSeq (sAsg (mDef M_law_ways (mCons (mVar 2) (mCons (mVar 3) (mCons (mVar 1) (mNil))))) (gSet 5)) (sSeq (sAsg (mDictZ (mCons (mDef M_law_jumps (mCons (mVar 2) (mNil))) (mCons (mVar 4) (mNil)))) (gSet 6)) (sRet (mBin eqOp (mLcD 5 vwK (gSet 7) (mTest (mBin gtW (mBin getW (mVar 5) (mVar 7)) (mBin getW (mVar 6) (mVar 7)))) (mC (.int 1)) [7]) (mLst (mNil))))))
def M_law_fits : PF := mFun 2 8 B_law_fits
def B_law_choices : MS := sSeq (sAsg (mLst (mCons (mTup (mNil)) (mNil))) (gSet 1)) (sSeq (sForI (mSeq (mDef M_law_jumps (mCons (mVar 0) (mNil)))) (gSet 2) (sAsg (mBin addW (mVar 1) (mLcI (mSeq (mVar 1)) (gSet 3) (mYes) (mBin addW (mVar 3) (mTup (mCons (mVar 2) (mNil)))) [3])) (gSet 1))) (sRet (mCall sortedLW (mCons (mVar 1) (mNil)))))
def M_law_choices : PF := mFun 1 4 B_law_choices
def B_law_all : MS := sRet (mLcI (mSeq (mDef M_law_choices (mCons (mBin getW (mVar 0) (mC (.int 0))) (mNil)))) (gSet 1) (mTru (mDef M_law_fits (mCons (mVar 0) (mCons (mVar 1) (mNil))))) (mVar 1) [1])
def M_law_all : PF := mFun 1 2 B_law_all
def B_law_lengths : MS := sSeq (sAsg (mDef M_law_pick (mCons (mVar 0) (mCons (mLst (mCons (mC (.int 0)) (mCons (mC (.int 0)) (mCons (mC (.int 0)) (mCons (mBin subW (mBin powW (mC (.int 10)) (mC (.int 9))) (mC (.int 200))) (mNil)))))) (mNil)))) (gSet 2)) (sSeq (sAsg (mLst (mNil)) (gSet 3)) (sSeq (sForI (mRng1 (mCons (mBin addW (mCall lenW (mCons (mVar 1) (mNil))) (mC (.int 1))) (mNil))) (gSet 4) (sExpr (mMeth "list" appendW (mVar 3) (mCons (mDef M_law_pick (mCons (mVar 0) (mCons (mLst (mCons (mC (.int 0)) (mCons (mC (.int 0)) (mCons (mC (.int 1)) (mCons (mC (.int 2)) (mCons (mDef M_law_draw (mCons (mVar 0) (mCons (mC (.int 9)) (mNil)))) (mCons (mDef M_law_draw (mCons (mVar 0) (mCons (mC (.int 70)) (mNil)))) (mNil)))))))) (mNil)))) (mNil))))) (sSeq (sAsg (mDef M_law_draw (mCons (mVar 0) (mCons (mCall lenW (mCons (mVar 3) (mNil))) (mNil)))) (gSet 5)) (sSeq (sAsg (mBin addW (mBin getW (mVar 3) (mVar 5)) (mVar 2)) (gPut (mVar 3) (mVar 5))) (sRet (mCall tupleW (mCons (mVar 3) (mNil))))))))
def M_law_lengths : PF := mFun 2 6 B_law_lengths
def B_law_program : MS := sSeq (sPar 2 3 (mCons (mDef M_law_lengths (mCons (mVar 0) (mCons (mVar 1) (mNil)))) (mCons (mDef M_law_jumps (mCons (mVar 1) (mNil))) (mNil)))) (sSeq (sAsg (mCall tupleW (mCons (mLcI (mSeq (mVar 3)) (gSet 8) (mTest (mBin eqOp (mDef M_law_draw (mCons (mVar 0) (mCons (mC (.int 3)) (mNil)))) (mC (.int 0)))) (mVar 8) [8]) (mNil))) (gSet 4)) (sSeq (sPar3 5 6 7 (mCons (mDef M_law_ways (mCons (mVar 1) (mCons (mVar 2) (mCons (mTup (mNil)) (mNil))))) (mCons (mDef M_law_ways (mCons (mVar 1) (mCons (mVar 2) (mCons (mVar 4) (mNil))))) (mCons (mLst (mNil)) (mNil))))) (sSeq (sForI (mSeq (mVar 3)) (gSet 8) (sSeq (sAsg (mIf (mOrT (mTest (mBin (inW false) (mVar 8) (mVar 4))) (mTest (mBin eqOp (mDef M_law_draw (mCons (mVar 0) (mCons (mC (.int 2)) (mNil)))) (mC (.int 0))))) (mBin getW (mVar 5) (mVar 8)) (mBin getW (mVar 6) (mVar 8))) (gSet 9)) (sSeq (sAsg (mBin addW (mVar 9) (mDef M_law_pick (mCons (mVar 0) (mCons (mLst (mCons (mC (.int 0)) (mCons (mC (.int 0)) (mCons (mNeg (mC (.int 1))) (mCons (mNeg (mC (.int 1))) (mCons (mC (.int 1)) (mCons (mC (.int 3)) (mCons (mC (.int 40)) (mCons (mNeg (mC (.int 4))) (mNil)))))))))) (mNil))))) (gSet 10)) (sExpr (mMeth "list" appendW (mVar 7) (mCons (mCall maxU (mCons (mC (.int 0)) (mCons (mCall minW (mCons (mBin powW (mC (.int 10)) (mC (.int 9))) (mCons (mVar 10) (mNil)))) (mNil)))) (mNil))))))) (sRet (mTup (mCons (mVar 1) (mCons (mVar 2) (mCons (mCall tupleW (mCons (mVar 7) (mNil))) (mNil)))))))))
def M_law_program : PF := mFun 2 11 B_law_program
def Blaw : MS := sSeq (sAsg (mDef M_law_stock (mCons (mVar 0) (mNil))) (gSet 1)) (sSeq (sIf (mTest (mBin eqOp (mDef M_law_draw (mCons (mVar 1) (mCons (mC (.int 9)) (mNil)))) (mC (.int 0)))) (sSeq (sAsg (mDef M_law_program (mCons (mVar 1) (mCons (mDef M_law_eight (mCons (mVar 1) (mNil))) (mNil)))) (gSet 2)) (sRet (mBin eqOp (mCall reprW (mCons (mDef Mserving (mCons (mVar 2) (mNil))) (mNil))) (mCall reprW (mCons (mCall tupleW (mCons (mDef M_law_all (mCons (mVar 2) (mNil))) (mNil))) (mNil)))))) (sNext)) (sSeq (sForI (mRng1 (mCons (mC (.int 4)) (mNil))) (gSet 3) (sSeq (sAsg (mIf (mTest (mBin eqOp (mDef M_law_draw (mCons (mVar 1) (mCons (mC (.int 2)) (mNil)))) (mC (.int 0)))) (mBin getW (mLst (mCons (mTup (mCons (mC (.int 12)) (mCons (mC (.int 4)) (mNil)))) (mCons (mTup (mCons (mC (.int 12)) (mCons (mC (.int 4)) (mNil)))) (mCons (mTup (mCons (mC (.int 8)) (mCons (mC (.int 3)) (mNil)))) (mCons (mTup (mCons (mC (.int 24)) (mCons (mC (.int 6)) (mNil)))) (mNil)))))) (mVar 3)) (mTup (mCons (mC (.int 10)) (mCons (mC (.int 4)) (mNil))))) (gTupW 2 (gsCons 4 (gsCons 5 (gsNil))))) (sSeq (sAsg (mDef M_law_program (mCons (mVar 1) (mCons (mDef M_law_skeleton (mCons (mVar 1) (mCons (mVar 4) (mCons (mVar 5) (mNil))))) (mNil)))) (gSet 2)) (sSeq (sPar 6 7 (mCons (mCall reprW (mCons (mVar 2) (mNil))) (mCons (mCall reprW (mCons (mCall tupleW (mCons (mDef M_law_all (mCons (mVar 2) (mNil))) (mNil))) (mNil))) (mNil)))) (sSeq (sIf (mOrT (mTest (mBin neOp (mCall reprW (mCons (mDef Mserving (mCons (mVar 2) (mNil))) (mNil))) (mVar 7))) (mOrT (mTest (mBin neOp (mCall reprW (mCons (mDefK Mserving [0] 0 1 mNil (mCons (mVar 2) (mNil))) (mNil))) (mVar 7))) (mTest (mBin neOp (mCall reprW (mCons (mVar 2) (mNil))) (mVar 6))))) (sRet (mC (.bl false))) (sNext)) (sIf (mTest (mBin (inW true) (mCall tupleW (mCons (mDef M_law_jumps (mCons (mBin getW (mVar 2) (mC (.int 0))) (mNil))) (mNil))) (mDef Mserving (mCons (mVar 2) (mNil))))) (sRet (mC (.bl false))) (sNext))))))) (sSeq (sAsg (mTup (mCons (mTup (mCons (mTup (mCons (mC (.str "label")) (mNil))) (mNil))) (mCons (mTup (mCons (mC (.int 7)) (mCons (mBin powW (mC (.int 10)) (mC (.int 9))) (mNil)))) (mCons (mTup (mNil)) (mNil))))) (gSet 8)) (sRet (mBin eqOp (mCall reprW (mCons (mDef Mserving (mCons (mVar 8) (mNil))) (mNil))) (mCall reprW (mCons (mTup (mCons (mTup (mNil)) (mNil))) (mNil))))))))
def Mlaw : PF := mFun 1 9 Blaw
end NS
/- part T1 -/
set_option maxHeartbeats 1000000
namespace NS
open PySem PySem.Spec PyProof.Rows L2 PL

/-! ### the stock -/
structure RI (r d c : Nat) (G : Cells) : Prop where
  ex : ∃ (s k : Int) (ds cs : List Int), r ≠ d ∧ c ≠ r ∧ c ≠ d ∧ G[r]? = some (.lst [.ref d, .ref c, .int s, .int k]) ∧
    G[d]? = some (.lst (ds.map W.int)) ∧ ds.length ≤ 70 ∧ G[c]? = some (.lst (cs.map W.int)) ∧ cs ≠ [] ∧ cs.length ≤ 100
theorem RI.keep {r d c : Nat} {G G' : Cells} (h : RI r d c G) (f : Fr [] G G') : RI r d c G' := by
  obtain ⟨s, k, ds, cs, h1, h2, h3, g1, g2, h4, g3, h5⟩ := h.ex
  exact ⟨s, k, ds, cs, h1, h2, h3, f.get g1 (by simp), f.get g2 (by simp), h4, f.get g3 (by simp), h5⟩
theorem RI.lt {r d c : Nat} {G : Cells} (h : RI r d c G) : r < G.length ∧ d < G.length ∧ c < G.length ∧ r ≠ d ∧ c ≠ r ∧ c ≠ d := by
  obtain ⟨s, k, ds, cs, h1, h2, h3, g1, g2, h4, g3, h5⟩ := h.ex
  exact ⟨lt_of_get g1, lt_of_get g2, lt_of_get g3, h1, h2, h3⟩
theorem RI.keeps {r d c n : Nat} (h1 : r < n) (h2 : d < n) (h3 : c < n) : Keeps n (RI r d c) := by
  intro G1 G2 h hn hl hk
  obtain ⟨s, k, ds, cs, n1, n2, n3, g1, g2, h4, g3, h5⟩ := h.ex
  exact ⟨s, k, ds, cs, n1, n2, n3, (hk r h1).trans g1, (hk d h2).trans g2, h4, (hk c h3).trans g3, h5⟩
theorem dat_ints {G : Cells} {n : Nat} {ds : List Int} (h : G[n]? = some (.lst (ds.map W.int))) : dat G 60 (.ref n) = some (.list (ds.map PyData.int)) := by
  have e : dat G 60 (.ref n) = (mapO (dat G 59) (ds.map W.int)).map PyData.list := by show (match G[n]? with | some (.lst ws) => _ | some (.rol ws) => _ | some (.dct kvs) => _ | _ => none) = _; rw [h]
  have : ∀ ds : List Int, mapO (dat G 59) (ds.map W.int) = some (ds.map PyData.int) := by
    intro ds
    induction ds with
    | nil => rfl
    | cons x xs ih =>
      have : dat G 59 (.int x) = some (.int x) := rfl
      simp only [List.map_cons, mapO, this, ih]
  rw [e, this]; rfl
theorem shaped_all (ds : List Int) : PyData.canLayAll0 (ds.map PyData.int) = true ∧ PyData.depthAll (ds.map PyData.int) = 0 := by
  induction ds with
  | nil => exact ⟨rfl, rfl⟩
  | cons x xs ih => exact ⟨by simp only [List.map_cons, PyData.canLayAll0, PyData.canLay0, ih.1, Bool.and_self], by simp only [List.map_cons, PyData.depthAll, PyData.depth, ih.2, Nat.max_self]⟩
theorem shaped_ints (ds : List Int) : SeqAt.shaped (.list (ds.map PyData.int)) = true := by
  have h1 := shaped_all ds
  simp only [SeqAt.shaped, PyData.canLay0, PyData.depth, h1.1, h1.2]; decide
theorem shaped_tints (ds : List Int) : SeqAt.shaped (.tuple (ds.map PyData.int)) = true := by
  have h1 := shaped_all ds
  simp only [SeqAt.shaped, PyData.canLay0, PyData.depth, h1.1, h1.2]; decide
theorem ne_ints {G : Cells} {n m : Nat} {ds : List Int} (h : G[n]? = some (.lst (ds.map W.int))) (h' : G[m]? = some (.lst [])) : neOp G (.ref n) (.ref m) = .ok (.bl (!ds.isEmpty)) G := by
  have e1 := dat_ints h
  have e2 := dat_ints (ds := []) h'
  have q : neOp G (.ref n) (.ref m) = (match dat G 60 (.ref n), dat G 60 (.ref m) with
    | some d, some e => if SeqAt.shaped d && SeqAt.shaped e then .ok (.bl (!PyData.eqv d e)) G else .no
    | _, _ => .no) := rfl
  rw [q, e1, e2]
  simp only [shaped_ints, List.map_nil]
  have : SeqAt.shaped (.list []) = true := shaped_ints []
  rw [this]
  cases ds <;> simp [PyData.eqv, PyData.eqvAll]
abbrev DrawQ (r d c : Nat) (G : Cells) (size : Int) : W → Cells → Prop := fun w G' => (∃ i, w = .int i ∧ 0 ≤ i ∧ i < size) ∧ RI r d c G' ∧ Fr [r, d] G G'
def B_draw2 : MS := (sSeq (sAsg (mBin addW (mBin getW (mVar 0) (mC (.int 3))) (mC (.int 1))) (gPut (mVar 0) (mC (.int 3)))) (sSeq (sAsg (mBin getW (mVar 0) (mC (.int 3))) (gSet 3)) (sSeq (sAsg (mBin modW (mCall intW (mCons (mBin getW (mBin getW (mVar 0) (mC (.int 1))) (mBin modW (mCall intW (mCons (mVar 3) (mNil))) (mCall lenW (mCons (mBin getW (mVar 0) (mC (.int 1))) (mNil))))) (mNil))) (mC (.int 1000000007))) (gSet 4)) (sSeq (sAsg (mBin modW (mCall intW (mCons (mBin addW (mBin addW (mBin mulW (mVar 4) (mC (.int 48271))) (mBin mulW (mBin modW (mCall intW (mCons (mBin getW (mVar 0) (mC (.int 2))) (mNil))) (mC (.int 998244353))) (mC (.int 69621)))) (mBin mulW (mVar 3) (mC (.int 2654435761)))) (mNil))) (mC (.int 4294967291))) (gSet 5)) (sSeq (sAsg (mBin modW (mCall intW (mCons (mBin addW (mBin addW (mBin mulW (mVar 5) (mVar 5)) (mBin mulW (mVar 3) (mC (.int 362437)))) (mVar 4)) (mNil))) (mC (.int 4294967279))) (gSet 5)) (sRet (mBin modW (mBin fdivW (mBin modW (mCall intW (mCons (mBin addW (mBin mulW (mVar 5) (mC (.int 40692))) (mBin mulW (mVar 3) (mC (.int 65537)))) (mNil))) (mC (.int 4294967231))) (mC (.int 4096))) (mVar 1))))))))
theorem draw2_ok {r d c : Nat} {G : Cells} {size : Int} (h : RI r d c G) (h1 : 1 ≤ size) {N : PEnv → Cells → Prop} :
    (B_draw2 [some (.ref r), some (.int size), none, none, none, none] G).sat N (DrawQ r d c G size) := by
  obtain ⟨s, k, ds, cs, n1, n2, n3, g1, g2, l1, g3, l2, l3⟩ := h.ex
  have fr : Fr [r, d] G (G.set r (.lst [.ref d, .ref c, .int s, .int (k + 1)])) := Fr.set (by simp)
  have p3 : putOp r (.int 3) (.int (k + 1)) G = some (G.set r (.lst [.ref d, .ref c, .int s, .int (k + 1)])) := e_put g1 (by decide) (show (3 : Int) < ((4 : Nat) : Int) by decide)
  have q0 : getW G (.ref r) (.int 3) = .ok (.int k) G := e_getL g1 rfl (by decide)
  have q1 : (G.set r (.lst [.ref d, .ref c, .int s, .int (k + 1)]))[r]? = some (.lst [.ref d, .ref c, .int s, .int (k + 1)]) := get_set (lt_of_get g1)
  have q2 : (G.set r (.lst [.ref d, .ref c, .int s, .int (k + 1)]))[d]? = some (.lst (ds.map W.int)) := by rw [get_set_ne n1]; exact g2
  have q3 : (G.set r (.lst [.ref d, .ref c, .int s, .int (k + 1)]))[c]? = some (.lst (cs.map W.int)) := by rw [get_set_ne (Ne.symm n2)]; exact g3
  have hr : RI r d c (G.set r (.lst [.ref d, .ref c, .int s, .int (k + 1)])) := ⟨s, k + 1, ds, cs, n1, n2, n3, q1, q2, l1, q3, l2, l3⟩
  unfold B_draw2
  refine so_seq ?_
  simp only [p2_c, p3_c, pT2_c, pT3_c, t_asg, t_expr, t_ret, t_if, t_nx, t_par, t_par3, g_set, g_tup2, g_tup3, g_put, s_bin, s_def, s_defK, s_call, s_cons, v_nil, s_var, v_c, s_lst, s_tup, s_test, s_tru, s_notT, s_andT, s_orT, s_and, s_or, s_not, s_if, s_neg, s_meth, s_cut, v_nopart, s_part, s_chain, s_seq, s_rng1, s_rng2, s_enum, s_zipL, s_tupR1, s_tupR2, s_yes, List.getElem?_cons_zero, List.getElem?_cons_succ, Option.some.injEq, exists_eq_left', v_ok, e_add, e_sub, e_int, e_min, e_max, e_maxU, e_lenT, e_tupT, e_lt, e_le, e_gt, e_ge, i_tup, e_cutT, List.set_cons_succ, List.set_cons_zero, List.length_cons, List.length_nil, Nat.reduceAdd, W.int.injEq, W.bl.injEq, W.ref.injEq, W.tup.injEq, W.str.injEq, reduceCtorEq, false_and, and_false, exists_false, or_false, false_or, true_and, and_true, exists_const, exists_eq_left, sz0, sz1, sz2, sz3, sz4, sz5, sz6, sz7, sz8, sz9, sz10, q0, p3]
  generalize (G.set r (.lst [.ref d, .ref c, .int s, .int (k + 1)])) = G1 at *
  generalize k + 1 = k1 at *
  have hcl : 0 < cs.length := List.length_pos_iff.mpr l2
  have z1 : getW G1 (.ref r) (.int 1) = .ok (.ref c) G1 := e_getL q1 rfl (by decide)
  have z2 : getW G1 (.ref r) (.int 2) = .ok (.int s) G1 := e_getL q1 rfl (by decide)
  have z3 : getW G1 (.ref r) (.int 3) = .ok (.int k1) G1 := e_getL q1 rfl (by decide)
  have hm0 : (0 : Int) < ((cs.map W.int).length : Int) := by simp; omega
  obtain ⟨xi, hx2⟩ : ∃ xi, getW G1 (.ref c) (.int (k1 % ((cs.map W.int).length : Int))) = .ok (.int xi) G1 := by
    have a1 := Int.emod_nonneg k1 (show ((cs.map W.int).length : Int) ≠ 0 by omega)
    have a2 := Int.emod_lt_of_pos k1 hm0
    have a3 : (k1 % ((cs.map W.int).length : Int)).toNat < cs.length := by simp at a2 a1 ⊢; omega
    exact ⟨cs[(k1 % ((cs.map W.int).length : Int)).toNat], e_getL q3 (by rw [List.getElem?_map, List.getElem?_eq_getElem a3]; rfl) a1⟩
  refine so_seq ?_
  simp only [p2_c, p3_c, pT2_c, pT3_c, t_asg, t_expr, t_ret, t_if, t_nx, t_par, t_par3, g_set, g_tup2, g_tup3, g_put, s_bin, s_def, s_defK, s_call, s_cons, v_nil, s_var, v_c, s_lst, s_tup, s_test, s_tru, s_notT, s_andT, s_orT, s_and, s_or, s_not, s_if, s_neg, s_meth, s_cut, v_nopart, s_part, s_chain, s_seq, s_rng1, s_rng2, s_enum, s_zipL, s_tupR1, s_tupR2, s_yes, List.getElem?_cons_zero, List.getElem?_cons_succ, Option.some.injEq, exists_eq_left', v_ok, e_add, e_sub, e_int, e_min, e_max, e_maxU, e_lenT, e_tupT, e_lt, e_le, e_gt, e_ge, i_tup, e_cutT, List.set_cons_succ, List.set_cons_zero, List.length_cons, List.length_nil, Nat.reduceAdd, W.int.injEq, W.bl.injEq, W.ref.injEq, W.tup.injEq, W.str.injEq, reduceCtorEq, false_and, and_false, exists_false, or_false, false_or, true_and, and_true, exists_const, exists_eq_left, sz0, sz1, sz2, sz3, sz4, sz5, sz6, sz7, sz8, sz9, sz10, z3]
  refine so_seq ?_
  simp only [p2_c, p3_c, pT2_c, pT3_c, t_asg, t_expr, t_ret, t_if, t_nx, t_par, t_par3, g_set, g_tup2, g_tup3, g_put, s_bin, s_def, s_defK, s_call, s_cons, v_nil, s_var, v_c, s_lst, s_tup, s_test, s_tru, s_notT, s_andT, s_orT, s_and, s_or, s_not, s_if, s_neg, s_meth, s_cut, v_nopart, s_part, s_chain, s_seq, s_rng1, s_rng2, s_enum, s_zipL, s_tupR1, s_tupR2, s_yes, List.getElem?_cons_zero, List.getElem?_cons_succ, Option.some.injEq, exists_eq_left', v_ok, e_add, e_sub, e_int, e_min, e_max, e_maxU, e_lenT, e_tupT, e_lt, e_le, e_gt, e_ge, i_tup, e_cutT, List.set_cons_succ, List.set_cons_zero, List.length_cons, List.length_nil, Nat.reduceAdd, W.int.injEq, W.bl.injEq, W.ref.injEq, W.tup.injEq, W.str.injEq, reduceCtorEq, false_and, and_false, exists_false, or_false, false_or, true_and, and_true, exists_const, exists_eq_left, sz0, sz1, sz2, sz3, sz4, sz5, sz6, sz7, sz8, sz9, sz10, z1, e_lenL q3, e_mod hm0, hx2, e_mod (show (0 : Int) < 1000000007 from by decide)]
  generalize hcell : xi % 1000000007 = cell
  refine so_seq ?_
  simp only [p2_c, p3_c, pT2_c, pT3_c, t_asg, t_expr, t_ret, t_if, t_nx, t_par, t_par3, g_set, g_tup2, g_tup3, g_put, s_bin, s_def, s_defK, s_call, s_cons, v_nil, s_var, v_c, s_lst, s_tup, s_test, s_tru, s_notT, s_andT, s_orT, s_and, s_or, s_not, s_if, s_neg, s_meth, s_cut, v_nopart, s_part, s_chain, s_seq, s_rng1, s_rng2, s_enum, s_zipL, s_tupR1, s_tupR2, s_yes, List.getElem?_cons_zero, List.getElem?_cons_succ, Option.some.injEq, exists_eq_left', v_ok, e_add, e_sub, e_int, e_min, e_max, e_maxU, e_lenT, e_tupT, e_lt, e_le, e_gt, e_ge, i_tup, e_cutT, List.set_cons_succ, List.set_cons_zero, List.length_cons, List.length_nil, Nat.reduceAdd, W.int.injEq, W.bl.injEq, W.ref.injEq, W.tup.injEq, W.str.injEq, reduceCtorEq, false_and, and_false, exists_false, or_false, false_or, true_and, and_true, exists_const, exists_eq_left, sz0, sz1, sz2, sz3, sz4, sz5, sz6, sz7, sz8, sz9, sz10, z2, e_mod (show (0 : Int) < 998244353 from by decide), e_mul (mulOk_r (i := cell) (j := 48271) (by decide)), e_mul (mulOk_r (j := 69621) (by decide)), e_mul (mulOk_r (i := k1) (j := 2654435761) (by decide)), e_mod (show (0 : Int) < 4294967291 from by decide)]
  generalize hm : (cell * 48271 + s % 998244353 * 69621 + k1 * 2654435761) % 4294967291 = m0
  have m1 : 0 ≤ m0 := hm ▸ Int.emod_nonneg _ (by decide)
  have m2 : m0 < 4294967291 := hm ▸ Int.emod_lt_of_pos _ (by decide)
  refine so_seq ?_
  simp only [p2_c, p3_c, pT2_c, pT3_c, t_asg, t_expr, t_ret, t_if, t_nx, t_par, t_par3, g_set, g_tup2, g_tup3, g_put, s_bin, s_def, s_defK, s_call, s_cons, v_nil, s_var, v_c, s_lst, s_tup, s_test, s_tru, s_notT, s_andT, s_orT, s_and, s_or, s_not, s_if, s_neg, s_meth, s_cut, v_nopart, s_part, s_chain, s_seq, s_rng1, s_rng2, s_enum, s_zipL, s_tupR1, s_tupR2, s_yes, List.getElem?_cons_zero, List.getElem?_cons_succ, Option.some.injEq, exists_eq_left', v_ok, e_add, e_sub, e_int, e_min, e_max, e_maxU, e_lenT, e_tupT, e_lt, e_le, e_gt, e_ge, i_tup, e_cutT, List.set_cons_succ, List.set_cons_zero, List.length_cons, List.length_nil, Nat.reduceAdd, W.int.injEq, W.bl.injEq, W.ref.injEq, W.tup.injEq, W.str.injEq, reduceCtorEq, false_and, and_false, exists_false, or_false, false_or, true_and, and_true, exists_const, exists_eq_left, sz0, sz1, sz2, sz3, sz4, sz5, sz6, sz7, sz8, sz9, sz10, e_mul (mulOk_l (i := m0) (j := m0) (by omega)), e_mul (mulOk_r (i := k1) (j := 362437) (by decide)), e_mod (show (0 : Int) < 4294967279 from by decide)]
  generalize (m0 * m0 + k1 * 362437 + cell) % 4294967279 = m3
  simp only [p2_c, p3_c, pT2_c, pT3_c, t_asg, t_expr, t_ret, t_if, t_nx, t_par, t_par3, g_set, g_tup2, g_tup3, g_put, s_bin, s_def, s_defK, s_call, s_cons, v_nil, s_var, v_c, s_lst, s_tup, s_test, s_tru, s_notT, s_andT, s_orT, s_and, s_or, s_not, s_if, s_neg, s_meth, s_cut, v_nopart, s_part, s_chain, s_seq, s_rng1, s_rng2, s_enum, s_zipL, s_tupR1, s_tupR2, s_yes, List.getElem?_cons_zero, List.getElem?_cons_succ, Option.some.injEq, exists_eq_left', v_ok, e_add, e_sub, e_int, e_min, e_max, e_maxU, e_lenT, e_tupT, e_lt, e_le, e_gt, e_ge, i_tup, e_cutT, List.set_cons_succ, List.set_cons_zero, List.length_cons, List.length_nil, Nat.reduceAdd, W.int.injEq, W.bl.injEq, W.ref.injEq, W.tup.injEq, W.str.injEq, reduceCtorEq, false_and, and_false, exists_false, or_false, false_or, true_and, and_true, exists_const, exists_eq_left, sz0, sz1, sz2, sz3, sz4, sz5, sz6, sz7, sz8, sz9, sz10, e_mul (mulOk_r (i := m3) (j := 40692) (by decide)), e_mul (mulOk_r (i := k1) (j := 65537) (by decide)), e_mod (show (0 : Int) < 4294967231 from by decide), e_div (show (0 : Int) < 4096 from by decide) (by decide), e_mod (show 0 < size from by omega)]
  exact ⟨⟨_, rfl, Int.emod_nonneg _ (by omega), Int.emod_lt_of_pos _ (by omega)⟩, hr, fr⟩
theorem draw_ok {r d c : Nat} {G : Cells} {size : Int} (h : RI r d c G) (h1 : 1 ≤ size) (h2 : size < 2 ^ 30) :
    (M_law_draw [.ref r, .int size] G).sat (DrawQ r d c G size) := by
  obtain ⟨s, k, ds, cs, n1, n2, n3, g1, g2, l1, g3, l2, l3⟩ := h.ex
  refine fun_sat rfl ?_
  show (B_law_draw [some (.ref r), some (.int size), none, none, none, none] G).sat _ _
  have q0 : getW G (.ref r) (.int 0) = .ok (.ref d) G := e_getL g1 rfl (by decide)
  have f1 : Fr [] G (G ++ [.lst []]) := Fr.push
  have hr := h.keep f1
  have g1' := f1.get g1 (by simp)
  have g2' := f1.get g2 (by simp)
  have g3' := f1.get g3 (by simp)
  have hne := ne_ints (f1.get g2 (by simp)) (push_get G (.lst []))
  refine so_seq ?_
  simp only [p2_c, p3_c, pT2_c, pT3_c, t_asg, t_expr, t_ret, t_if, t_nx, t_par, t_par3, g_set, g_tup2, g_tup3, g_put, s_bin, s_def, s_defK, s_call, s_cons, v_nil, s_var, v_c, s_lst, s_tup, s_test, s_tru, s_notT, s_andT, s_orT, s_and, s_or, s_not, s_if, s_neg, s_meth, s_cut, v_nopart, s_part, s_chain, s_seq, s_rng1, s_rng2, s_enum, s_zipL, s_tupR1, s_tupR2, s_yes, List.getElem?_cons_zero, List.getElem?_cons_succ, Option.some.injEq, exists_eq_left', v_ok, e_add, e_sub, e_int, e_min, e_max, e_maxU, e_lenT, e_tupT, e_lt, e_le, e_gt, e_ge, i_tup, e_cutT, List.set_cons_succ, List.set_cons_zero, List.length_cons, List.length_nil, Nat.reduceAdd, W.int.injEq, W.bl.injEq, W.ref.injEq, W.tup.injEq, W.str.injEq, reduceCtorEq, false_and, and_false, exists_false, or_false, false_or, true_and, and_true, exists_const, exists_eq_left, sz0, sz1, sz2, sz3, sz4, sz5, sz6, sz7, sz8, sz9, sz10, q0, hne]
  have f1' : Fr [r, d] G (G ++ [.lst []]) := f1.of_nil
  have q0' : getW (G ++ [.lst []]) (.ref r) (.int 0) = .ok (.ref d) (G ++ [.lst []]) := e_getL g1' rfl (by decide)
  generalize G ++ [.lst []] = G1 at *
  refine hif (fun hd => ?_) fun hd => ?_
  · have hne : ds ≠ [] := by rintro rfl; cases hd
    have hl : 0 < ds.length := List.length_pos_iff.mpr hne
    obtain ⟨rest, hrest⟩ : ∃ y, ds[ds.length - 1]? = some y := ⟨ds[ds.length - 1]'(by omega), List.getElem?_eq_getElem (by omega)⟩
    have hp : popW G1 (.ref d) [] = .ok (.int rest) (G1.set d (.lst (ds.dropLast.map W.int))) := by
      unfold popW
      simp only [g2', List.length_map, List.getElem?_map, hrest, Option.map_some, List.map_dropLast]
    have hd2 : (G1.set d (.lst (ds.dropLast.map W.int)))[d]? = some (.lst (ds.dropLast.map W.int)) := get_set (lt_of_get g2')
    have fr2 : Fr [r, d] G1 (G1.set d (.lst (ds.dropLast.map W.int))) := Fr.set (by simp)
    have k1 : (G1.set d (.lst (ds.dropLast.map W.int)))[r]? = some (.lst [.ref d, .ref c, .int s, .int k]) := by rw [get_set_ne (Ne.symm n1)]; exact g1'
    have k3 : (G1.set d (.lst (ds.dropLast.map W.int)))[c]? = some (.lst (cs.map W.int)) := by rw [get_set_ne (Ne.symm n3)]; exact g3'
    refine so_seq ?_
    simp only [p2_c, p3_c, pT2_c, pT3_c, t_asg, t_expr, t_ret, t_if, t_nx, t_par, t_par3, g_set, g_tup2, g_tup3, g_put, s_bin, s_def, s_defK, s_call, s_cons, v_nil, s_var, v_c, s_lst, s_tup, s_test, s_tru, s_notT, s_andT, s_orT, s_and, s_or, s_not, s_if, s_neg, s_meth, s_cut, v_nopart, s_part, s_chain, s_seq, s_rng1, s_rng2, s_enum, s_zipL, s_tupR1, s_tupR2, s_yes, List.getElem?_cons_zero, List.getElem?_cons_succ, Option.some.injEq, exists_eq_left', v_ok, e_add, e_sub, e_int, e_min, e_max, e_maxU, e_lenT, e_tupT, e_lt, e_le, e_gt, e_ge, i_tup, e_cutT, List.set_cons_succ, List.set_cons_zero, List.length_cons, List.length_nil, Nat.reduceAdd, W.int.injEq, W.bl.injEq, W.ref.injEq, W.tup.injEq, W.str.injEq, reduceCtorEq, false_and, and_false, exists_false, or_false, false_or, true_and, and_true, exists_const, exists_eq_left, sz0, sz1, sz2, sz3, sz4, sz5, sz6, sz7, sz8, sz9, sz10, q0', e_isL g2', hp]
    generalize hG2 : G1.set d (.lst (ds.dropLast.map W.int)) = G2 at *
    have q02 : getW G2 (.ref r) (.int 0) = .ok (.ref d) G2 := e_getL k1 rfl (by decide)
    have hr2 : RI r d c G2 := ⟨s, k, ds.dropLast, cs, n1, n2, n3, k1, hd2, by simp; omega, k3, l2, l3⟩
    have hdl : (ds.dropLast.map W.int).length ≤ 100000 := by simp; omega
    have j1 : (G2.set d (.lst ((ds.dropLast ++ [rest / size]).map W.int)))[r]? = some (.lst [.ref d, .ref c, .int s, .int k]) := by rw [get_set_ne (Ne.symm n1)]; exact k1
    have j2 : (G2.set d (.lst ((ds.dropLast ++ [rest / size]).map W.int)))[d]? = some (.lst ((ds.dropLast ++ [rest / size]).map W.int)) := get_set (lt_of_get hd2)
    have j3 : (G2.set d (.lst ((ds.dropLast ++ [rest / size]).map W.int)))[c]? = some (.lst (cs.map W.int)) := by rw [get_set_ne (Ne.symm n3)]; exact k3
    have ha : appendW G2 (.ref d) [.int (rest / size)] = .ok .non (G2.set d (.lst ((ds.dropLast ++ [rest / size]).map W.int))) := by
      rw [e_app hd2 hdl, List.map_append]; rfl
    refine so_seq ?_
    simp only [p2_c, p3_c, pT2_c, pT3_c, t_asg, t_expr, t_ret, t_if, t_nx, t_par, t_par3, g_set, g_tup2, g_tup3, g_put, s_bin, s_def, s_defK, s_call, s_cons, v_nil, s_var, v_c, s_lst, s_tup, s_test, s_tru, s_notT, s_andT, s_orT, s_and, s_or, s_not, s_if, s_neg, s_meth, s_cut, v_nopart, s_part, s_chain, s_seq, s_rng1, s_rng2, s_enum, s_zipL, s_tupR1, s_tupR2, s_yes, List.getElem?_cons_zero, List.getElem?_cons_succ, Option.some.injEq, exists_eq_left', v_ok, e_add, e_sub, e_int, e_min, e_max, e_maxU, e_lenT, e_tupT, e_lt, e_le, e_gt, e_ge, i_tup, e_cutT, List.set_cons_succ, List.set_cons_zero, List.length_cons, List.length_nil, Nat.reduceAdd, W.int.injEq, W.bl.injEq, W.ref.injEq, W.tup.injEq, W.str.injEq, reduceCtorEq, false_and, and_false, exists_false, or_false, false_or, true_and, and_true, exists_const, exists_eq_left, sz0, sz1, sz2, sz3, sz4, sz5, sz6, sz7, sz8, sz9, sz10, q02, e_isL hd2, e_div (show 0 < size from by omega) (show size < 1073741824 from by omega), e_mod (show 0 < size from by omega), ha]
    refine hif (fun hc => ?_) fun hc => ?_
    · exact ⟨⟨_, rfl, Int.emod_nonneg _ (by omega), Int.emod_lt_of_pos _ (by omega)⟩, ⟨s, k, _, cs, n1, n2, n3, j1, j2, by simp; omega, j3, l2, l3⟩, f1'.trans (fr2.trans (Fr.set (by simp)))⟩
    · exact ⟨⟨_, rfl, Int.emod_nonneg _ (by omega), Int.emod_lt_of_pos _ (by omega)⟩, hr2, f1'.trans fr2⟩
  · exact (draw2_ok (N := fun _ _ => False) hr h1).mono (fun _ _ h => h.elim) fun w G' q => ⟨q.1, q.2.1, f1'.trans q.2.2⟩
theorem pick_ok {r d c n : Nat} {G : Cells} {xs : List W} (h : RI r d c G) (hx : G[n]? = some (.lst xs)) (hr : n ≠ r) (hd : n ≠ d) (h1 : 1 ≤ xs.length) (h2 : xs.length ≤ 100000) :
    (M_law_pick [.ref r, .ref n] G).sat fun w G' => w ∈ xs ∧ RI r d c G' ∧ Fr [r, d] G G' := by
  refine fun_sat rfl ?_
  show (B_law_pick [some (.ref r), some (.ref n)] G).sat _ _
  unfold B_law_pick
  simp only [p2_c, p3_c, pT2_c, pT3_c, t_asg, t_expr, t_ret, t_if, t_nx, t_par, t_par3, g_set, g_tup2, g_tup3, g_put, s_bin, s_def, s_defK, s_call, s_cons, v_nil, s_var, v_c, s_lst, s_tup, s_test, s_tru, s_notT, s_andT, s_orT, s_and, s_or, s_not, s_if, s_neg, s_meth, s_cut, v_nopart, s_part, s_chain, s_seq, s_rng1, s_rng2, s_enum, s_zipL, s_tupR1, s_tupR2, s_yes, List.getElem?_cons_zero, List.getElem?_cons_succ, Option.some.injEq, exists_eq_left', v_ok, e_add, e_sub, e_int, e_min, e_max, e_maxU, e_lenT, e_tupT, e_lt, e_le, e_gt, e_ge, i_tup, e_cutT, List.set_cons_succ, List.set_cons_zero, List.length_cons, List.length_nil, Nat.reduceAdd, W.int.injEq, W.bl.injEq, W.ref.injEq, W.tup.injEq, W.str.injEq, reduceCtorEq, false_and, and_false, exists_false, or_false, false_or, true_and, and_true, exists_const, exists_eq_left, sz0, sz1, sz2, sz3, sz4, sz5, sz6, sz7, sz8, sz9, sz10, e_lenL hx]
  refine (draw_ok h (by omega) (by omega)).mono fun w G1 q => ?_
  obtain ⟨⟨i, rfl, i1, i2⟩, h1, f⟩ := q
  have hi : i.toNat < xs.length := by omega
  rw [e_getL (f.get hx (by simp [hr, hd])) (List.getElem?_eq_getElem hi) i1]
  exact ⟨List.getElem_mem hi, h1, f⟩
/-- a pick from a list that is written on the spot -/
theorem picks_ok {r d c : Nat} {G : Cells} {xs : List W} (h : RI r d c G) (h1 : 1 ≤ xs.length) (h2 : xs.length ≤ 100000) :
    (M_law_pick [.ref r, .ref G.length] (G ++ [.lst xs])).sat fun w G' => w ∈ xs ∧ RI r d c G' ∧ Fr [r, d] G G' := by
  have hl := h.lt
  exact (pick_ok (h.keep Fr.push) (push_get G (.lst xs)) (by omega) (by omega) h1 h2).mono fun w G' q => ⟨q.1, q.2.1, Fr.push.trans q.2.2⟩
end NS
/- part IT -/
set_option maxHeartbeats 1000000
namespace NS
open PySem PySem.Spec PyProof.Rows L2 PL

theorem map_at {α β : Type} {f : α → β} {xs : List α} {i : Nat} {w : β} (h : (xs.map f)[i]? = some w) : ∃ x, xs[i]? = some x ∧ w = f x := by
  rw [List.getElem?_map] at h
  obtain ⟨x, h1, h2⟩ := Option.map_eq_some_iff.mp h
  exact ⟨x, h1, h2.symm⟩
/-! ### the skeletons -/
def kw (w : W) : Prop := w = .str "jump" ∨ w = .str "fill" ∨ w = .str "label"
/-! items -/
inductive It where
  | lab
  | fil (a : Int)
  | jmp (g s l : Int)
def It.w : It → W
  | .lab => .tup [.str "label"]
  | .fil a => .tup [.str "fill", .int a]
  | .jmp g s l => .tup [.str "jump", .int g, .int s, .int l]
def It.kind : It → W
  | .lab => .str "label"
  | .fil _ => .str "fill"
  | .jmp _ _ _ => .str "jump"
def fillOk (a : Int) : Prop := a = 2 ∨ a = 4 ∨ a = 8 ∨ a = 16 ∨ a = 32 ∨ a = 64
def itOk (sk : List It) : It → Prop
  | .lab => True
  | .fil a => fillOk a
  | .jmp g s l => 0 ≤ g ∧ sk[g.toNat]? = some .lab ∧ 1 ≤ s ∧ s < l ∧ l ≤ 999
structure Skel (sk : List It) : Prop where
  len1 : 1 ≤ sk.length
  len2 : sk.length ≤ 24
  items : ∀ it ∈ sk, itOk sk it
abbrev skW (sk : List It) : W := .tup (sk.map It.w)
/-- the item that the sampler makes of a word -/
def mkOk (ws : List W) : It → Prop
  | .lab => True
  | .fil a => fillOk a
  | .jmp g s l => 0 ≤ g ∧ g < 24 ∧ ws[g.toNat]? = some (.str "label") ∧ 1 ≤ s ∧ s < l ∧ l ≤ 999
theorem kind_lab {it : It} (h : it.kind = .str "label") : it = .lab := by
  cases it with
  | lab => rfl
  | fil a => exact absurd h (by unfold It.kind; intro z; injection z with z; exact absurd z (by decide +kernel))
  | jmp g s l => exact absurd h (by unfold It.kind; intro z; injection z with z; exact absurd z (by decide +kernel))
theorem skel_of {ws : List W} {sk : List It} (h1 : 1 ≤ ws.length) (hk : sk.map It.kind = ws.take 24) (hm : ∀ it ∈ sk, mkOk ws it) : Skel sk := by
  have hl : sk.length = min 24 ws.length := by have := congrArg List.length hk; simpa using this
  refine ⟨by omega, by omega, fun it hit => ?_⟩
  have := hm it hit
  cases it with
  | lab => trivial
  | fil a => exact this
  | jmp g s l =>
    obtain ⟨g0, g1, g2, s1, s2, s3⟩ := this
    refine ⟨g0, ?_, s1, s2, s3⟩
    have hg : (ws.take 24)[g.toNat]? = some (.str "label") := by rw [List.getElem?_take, if_pos (by omega)]; exact g2
    rw [← hk, List.getElem?_map] at hg
    cases hx : sk[g.toNat]? with
    | none => rw [hx] at hg; cases hg
    | some x => rw [hx] at hg; rw [kind_lab (Option.some.inj hg)]
theorem ss_eq (a b : Str) (G : Cells) : eqOp G (.str a) (.str b) = .ok (.bl (decide (a = b))) G := eqOp_ss a b
def isWd (x : Str) (w : W) : Bool := match w with | .str y => decide (y = x) | _ => false
theorem isWd_eq {x : Str} {w : W} (h : isWd x w = true) : w = .str x := by
  unfold isWd at h
  split at h
  · rw [of_decide_eq_true h]
  · cases h
theorem kw_str {w : W} (h : kw w) : ∃ y, w = .str y := by rcases h with rfl | rfl | rfl <;> exact ⟨_, rfl⟩
theorem e_ins {G : Cells} {n : Nat} {xs : List W} {i : Int} {y : W} (h : G[n]? = some (.lst xs)) (hl : xs.length ≤ 100000) (h0 : 0 ≤ i) (h1 : i < 2 ^ 30) : insertW G (.ref n) [.int i, y] = .ok .non (G.set n (.lst (xs.take i.toNat ++ [y] ++ xs.drop i.toNat))) := by
  unfold insertW
  simp only [h]
  rw [if_pos ⟨big_le hl, h0, by omega⟩]
theorem lab_insert {xs : List W} {i : Nat} (hi : i ≤ xs.length) (h : xs.length ≤ 21 ∨ ∃ p, p ≤ 5 ∧ xs[p]? = some (.str "label")) : ∃ p, p < 24 ∧ (xs.take i ++ [W.str "label"] ++ xs.drop i)[p]? = some (.str "label") := by
  rcases h with h | ⟨p, hp, e⟩
  · refine ⟨i, by omega, ?_⟩
    rw [List.append_assoc, List.getElem?_append_right (by simp; omega)]
    simp [List.length_take, Nat.min_eq_left hi]
  · by_cases hpi : p < i
    · refine ⟨p, by omega, ?_⟩
      rw [List.append_assoc, List.getElem?_append_left (by simp; omega), List.getElem?_take, if_pos hpi]
      exact e
    · refine ⟨p + 1, by omega, ?_⟩
      rw [List.getElem?_append_right (by simp; omega)]
      simp only [List.length_append, List.length_take, Nat.min_eq_left hi, List.length_cons, List.length_nil, List.getElem?_drop]
      rw [show i + (p + 1 - (i + (0 + 1))) = p from by omega]
      exact e
theorem kw_insert {xs : List W} {i : Nat} (h : ∀ x ∈ xs, kw x) : ∀ x ∈ xs.take i ++ [W.str "label"] ++ xs.drop i, kw x := by
  intro x hx
  rcases List.mem_append.mp hx with hx | hx
  · rcases List.mem_append.mp hx with hx | hx
    · exact h x (List.mem_of_mem_take hx)
    · exact .inr (.inr (List.mem_singleton.mp hx))
  · exact h x (List.mem_of_mem_drop hx)
theorem eq_jj (G : Cells) : eqOp G (.str "jump") (.str "jump") = .ok (.bl true) G := by rw [ss_eq, show decide (("jump" : Str) = "jump") = true from by decide +kernel]
theorem eq_fj (G : Cells) : eqOp G (.str "fill") (.str "jump") = .ok (.bl false) G := by rw [ss_eq, show decide (("fill" : Str) = "jump") = false from by decide +kernel]
theorem eq_lj (G : Cells) : eqOp G (.str "label") (.str "jump") = .ok (.bl false) G := by rw [ss_eq, show decide (("label" : Str) = "jump") = false from by decide +kernel]
theorem eq_ff (G : Cells) : eqOp G (.str "fill") (.str "fill") = .ok (.bl true) G := by rw [ss_eq, show decide (("fill" : Str) = "fill") = true from by decide +kernel]
theorem eq_jf (G : Cells) : eqOp G (.str "jump") (.str "fill") = .ok (.bl false) G := by rw [ss_eq, show decide (("jump" : Str) = "fill") = false from by decide +kernel]
theorem eq_lf (G : Cells) : eqOp G (.str "label") (.str "fill") = .ok (.bl false) G := by rw [ss_eq, show decide (("label" : Str) = "fill") = false from by decide +kernel]
theorem eq_ll (G : Cells) : eqOp G (.str "label") (.str "label") = .ok (.bl true) G := by rw [ss_eq, show decide (("label" : Str) = "label") = true from by decide +kernel]
theorem eq_jl (G : Cells) : eqOp G (.str "jump") (.str "label") = .ok (.bl false) G := by rw [ss_eq, show decide (("jump" : Str) = "label") = false from by decide +kernel]
theorem eq_fl (G : Cells) : eqOp G (.str "fill") (.str "label") = .ok (.bl false) G := by rw [ss_eq, show decide (("fill" : Str) = "label") = false from by decide +kernel]
theorem take_one {α : Type} {xs : List α} {i : Nat} {w : α} (h : xs[i]? = some w) : xs.take (i + 1) = xs.take i ++ [w] := by
  rw [List.take_succ, h]; rfl
theorem isWd_t (x : Str) : isWd x (.str x) = true := by unfold isWd; simp
theorem isWd_ne {x y : Str} (h : decide (x = y) = false) : isWd y (.str x) = false := by unfold isWd; simpa using h
theorem wd_jj : isWd "jump" (.str "jump") = true := isWd_t _
theorem wd_fj : isWd "jump" (.str "fill") = false := isWd_ne (by decide +kernel)
theorem wd_lj : isWd "jump" (.str "label") = false := isWd_ne (by decide +kernel)
theorem wd_ll : isWd "label" (.str "label") = true := isWd_t _
theorem wd_fl : isWd "label" (.str "fill") = false := isWd_ne (by decide +kernel)
theorem wd_jl : isWd "label" (.str "jump") = false := isWd_ne (by decide +kernel)
theorem e_pow15 (G : Cells) : powW G (.int 10) (.int 15) = .ok (.int 1000000000000000) G := by show (if (0 : Int) ≤ 15 ∧ (15 : Int) ≤ 1000000 ∧ (10 : Int).natAbs < 2 ^ 64 then Rs.ok (W.int ((10 : Int) ^ (15 : Int).toNat)) G else Rs.no) = _; rw [if_pos (by decide)]; rfl
theorem e_pow9 (G : Cells) : powW G (.int 10) (.int 9) = .ok (.int 1000000000) G := by show (if (0 : Int) ≤ 9 ∧ (9 : Int) ≤ 1000000 ∧ (10 : Int).natAbs < 2 ^ 64 then Rs.ok (W.int ((10 : Int) ^ (9 : Int).toNat)) G else Rs.no) = _; rw [if_pos (by decide)]; rfl
/-! ### the jumps -/
def It.isJ : It → Bool
  | .jmp _ _ _ => true
  | _ => false
def It.isF : It → Bool
  | .fil _ => true
  | _ => false
def It.isL : It → Bool
  | .lab => true
  | _ => false
def isJW : W → Bool
  | .tup (k :: _) => isWd "jump" k
  | _ => false
theorem isJW_w (it : It) : isJW it.w = it.isJ := by cases it <;> first | exact wd_jj | exact wd_fj | exact wd_lj
theorem w_0 (it : It) (G : Cells) : getW G it.w (.int 0) = .ok it.kind G := by cases it <;> exact e_getT rfl (by decide)
theorem kind_J (it : It) (G : Cells) : eqOp G it.kind (.str "jump") = .ok (.bl it.isJ) G := by cases it <;> first | exact eq_jj G | exact eq_fj G | exact eq_lj G
theorem kind_F (it : It) (G : Cells) : eqOp G it.kind (.str "fill") = .ok (.bl it.isF) G := by cases it <;> first | exact eq_ff G | exact eq_jf G | exact eq_lf G
theorem kind_L (it : It) (G : Cells) : eqOp G it.kind (.str "label") = .ok (.bl it.isL) G := by cases it <;> first | exact eq_ll G | exact eq_jl G | exact eq_fl G
theorem places_map {α β : Type} (p : β → Bool) (f : α → β) : ∀ (xs : List α) (k : Nat), places p k (xs.map f) = places (fun x => p (f x)) k xs
  | [], _ => rfl
  | x :: xs, k => by rw [List.map_cons, places, places, places_map p f xs]
abbrev jumpsN (sk : List It) : List Int := places It.isJ 0 sk
theorem jumpsN_len {sk : List It} : (jumpsN sk).length ≤ sk.length := places_len
theorem jumpsN_mem {sk : List It} {j : Int} : j ∈ jumpsN sk ↔ ∃ n g s l, sk[n]? = some (.jmp g s l) ∧ j = ((n : Nat) : Int) := by
  rw [mem_places]
  constructor
  · rintro ⟨n, x, h1, h2, rfl⟩
    cases x with
    | jmp g s l => exact ⟨n, g, s, l, h1, by simp⟩
    | _ => cases h2
  · rintro ⟨n, g, s, l, h1, rfl⟩
    exact ⟨n, _, h1, rfl, by simp⟩
/-! ### laying -/
def ownB (it : It) (x : Int) (lg : Bool) : Int := match it with
  | .lab => 0
  | .fil a => -x % a
  | .jmp _ s l => if lg = true then l else s
def isLong (ch : List Int) (p : Nat) : Bool := decide ((p : Int) ∈ ch)
def atL (ln : List Int) (p : Nat) : Int := (ln[p]?).getD 0
def En (sk : List It) (ln ch : List Int) : Nat → Int
  | 0 => 0
  | p + 1 => match sk[p]? with
    | some it => En sk ln ch p + atL ln p + ownB it (En sk ln ch p + atL ln p) (isLong ch p)
    | none => En sk ln ch p
def Bg (sk : List It) (ln ch : List Int) (p : Nat) : Int := En sk ln ch p + atL ln p
theorem En_succ {sk : List It} {ln ch : List Int} {p : Nat} {it : It} (h : sk[p]? = some it) : En sk ln ch (p + 1) = Bg sk ln ch p + ownB it (Bg sk ln ch p) (isLong ch p) := by
  unfold Bg; rw [En]; simp only [h]
def layW (sk : List It) (ln ch : List Int) (n : Nat) : List W := (List.range n).map fun p => .tup [.int (Bg sk ln ch p), .int (En sk ln ch (p + 1))]
theorem layW_succ (sk : List It) (ln ch : List Int) (n : Nat) : layW sk ln ch (n + 1) = layW sk ln ch n ++ [.tup [.int (Bg sk ln ch n), .int (En sk ln ch (n + 1))]] := by
  unfold layW; rw [List.range_succ, List.map_append]; rfl
theorem layW_len (sk : List It) (ln ch : List Int) (n : Nat) : (layW sk ln ch n).length = n := by unfold layW; simp
theorem layW_get {sk : List It} {ln ch : List Int} {n p : Nat} (h : p < n) : (layW sk ln ch n)[p]? = some (.tup [.int (Bg sk ln ch p), .int (En sk ln ch (p + 1))]) := by
  unfold layW; rw [List.getElem?_map, List.getElem?_range h]; rfl
theorem any_ints (ch : List Int) (i : Int) : ((ch.map PyData.int).any fun z => PyData.eqv z (.int i)) = decide (i ∈ ch) := by
  induction ch with
  | nil => simp
  | cons c ch ih =>
    rw [List.map_cons, List.any_cons, ih]
    have : PyData.eqv (.int c) (.int i) = (c == i) := by simp [PyData.eqv]
    rw [this]
    by_cases h : c = i
    · simp [h]
    · have h2 : ¬ i = c := fun z => h z.symm
      simp [h, h2]
theorem dat_tints (G : Cells) (ds : List Int) : dat G 60 (.tup (ds.map W.int)) = some (.tuple (ds.map PyData.int)) := by
  have e : dat G 60 (.tup (ds.map W.int)) = (mapO (dat G 59) (ds.map W.int)).map PyData.tuple := rfl
  have : ∀ ds : List Int, mapO (dat G 59) (ds.map W.int) = some (ds.map PyData.int) := by
    intro ds
    induction ds with
    | nil => rfl
    | cons x xs ih =>
      have : dat G 59 (.int x) = some (.int x) := rfl
      simp only [List.map_cons, mapO, this, ih]
  rw [e, this]; rfl
/-- a choice: a tuple or a list of ints -/
inductive ChW (G : Cells) (ch : List Int) : W → Prop
  | tup : ChW G ch (.tup (ch.map W.int))
  | lst {n : Nat} : G[n]? = some (.lst (ch.map W.int)) → ChW G ch (.ref n)
theorem ChW.mono {G G' : Cells} {ch : List Int} {w : W} (h : ChW G ch w) (f : Fr [] G G') : ChW G' ch w := by
  cases h with
  | tup => exact .tup
  | lst h => exact .lst (f.get h (by simp))
theorem in_ch {G : Cells} {ch : List Int} {w : W} (h : ChW G ch w) (i : Int) : inW false G (.int i) w = .ok (.bl (decide (i ∈ ch))) G := by
  have q : inW false G (.int i) w = (match dat G 60 (.int i), dat G 60 w with
    | some d, some e => (match itemsD e with
      | some xs => if SeqAt.shaped d && SeqAt.shaped e then .ok (.bl (if false = true then !xs.any fun z => PyData.eqv z d else xs.any fun z => PyData.eqv z d)) G else .no
      | none => .no)
    | _, _ => .no) := rfl
  have d0 : dat G 60 (.int i) = some (.int i) := rfl
  have s0 : SeqAt.shaped (.int i) = true := rfl
  rw [q, d0]
  cases h with
  | tup => rw [dat_tints]; simp only [itemsD, s0, shaped_tints, any_ints, Bool.and_self, if_true, Bool.false_eq_true, if_false]
  | lst h => rw [dat_ints h]; simp only [itemsD, s0, shaped_ints, any_ints, Bool.and_self, if_true, Bool.false_eq_true, if_false]
theorem in_place {G : Cells} {ch : List Int} {w : W} (h : ChW G ch w) (i : Nat) : inW false G (.int ((i : Nat) : Int)) w = .ok (.bl (isLong ch i)) G := in_ch h _
theorem get_ints {G : Cells} {ln : List Int} {p : Nat} (h : p < ln.length) : getW G (.tup (ln.map W.int)) (.int (p : Int)) = .ok (.int (atL ln p)) G := by
  refine e_getT ?_ (by omega)
  rw [Int.toNat_natCast, List.getElem?_map, List.getElem?_eq_getElem h]
  unfold atL
  rw [List.getElem?_eq_getElem h]; rfl
theorem w_f1 (a : Int) (G : Cells) : getW G (It.fil a).w (.int 1) = .ok (.int a) G := e_getT rfl (by decide)
theorem w_j1 (g s l : Int) (G : Cells) : getW G (It.jmp g s l).w (.int 1) = .ok (.int g) G := e_getT rfl (by decide)
theorem w_j2 (g s l : Int) (G : Cells) : getW G (It.jmp g s l).w (.int 2) = .ok (.int s) G := e_getT rfl (by decide)
theorem w_j3 (g s l : Int) (G : Cells) : getW G (It.jmp g s l).w (.int 3) = .ok (.int l) G := e_getT rfl (by decide)
theorem fill_pos {a : Int} (h : fillOk a) : 0 < a ∧ a ≤ 64 := by unfold fillOk at h; omega
theorem up_fill {a x : Int} (h : fillOk a) : (x + a - 1) / a * a = x + -x % a := by
  unfold fillOk at h
  rcases h with rfl | rfl | rfl | rfl | rfl | rfl <;> omega
/-! ### ways -/
def wayN (sk : List It) (ln ch : List Int) (p g : Nat) : Int := if p < g then Bg sk ln ch g - En sk ln ch (p + 1) else En sk ln ch (p + 1) - Bg sk ln ch g
abbrev noJ (ch : List Int) (p : Nat) : List Int := ch.filter fun c => decide (c ≠ (p : Int))
def neF (j : Int) : W → Option W
  | .int i => if i ≠ j then some (.int i) else none
  | _ => none
theorem neF_map (j : Int) (ch : List Int) : (ch.map W.int).filterMap (neF j) = (ch.filter fun c => decide (c ≠ j)).map W.int := by
  induction ch with
  | nil => rfl
  | cons c ch ih => by_cases h : c = j <;> simp [List.filterMap_cons, neF, h, ih]
theorem neOp_i {G : Cells} (i j : Int) : neOp G (.int i) (.int j) = .ok (.bl (!decide (i = j))) G := neOp_int i j
/-- the comprehension that leaves a jump out -/
theorem ne_lc {mi : MI} {vs : List Nat} {E : PEnv} {G : Cells} {Q : W → Cells → Prop} {ch : List Int} {k k' : Nat} {j : Int} (hlen : ch.length ≤ 1000)
    (h : (mi E G).sat fun pit G1 => Fr [] G G1 ∧ ItOk [] pit G1 (ch.map W.int)) (hk : ∀ w : W, ((wipeE E vs).set k (some w))[k]? = some (some w)) (hk' : ∀ w : W, ((wipeE E vs).set k (some w))[k']? = some (some (.int j)))
    (hq : ∀ n G', Fr [] G G' → G.length ≤ n → G'[n]? = some (.lst ((ch.filter fun c => decide (c ≠ j)).map W.int)) → Q (.ref n) G') : (mLcI mi (gSet k) (mTest (mBin neOp (mVar k) (mVar k'))) (mVar k) vs E G).sat Q := by
  refine lc_pure (ch.map W.int) (neF j) h (by simp; omega) ?_ fun n G' f hn hg => hq n G' f hn (by rw [hg, neF_map])
  intro i w G' hw _
  obtain ⟨x, hx, rfl⟩ := map_at hw
  simp only [p2_c, p3_c, pT2_c, pT3_c, t_asg, t_expr, t_ret, t_if, t_nx, t_par, t_par3, g_set, g_tup2, g_tup3, g_put, s_bin, s_def, s_defK, s_call, s_cons, v_nil, s_var, v_c, s_lst, s_tup, s_test, s_tru, s_notT, s_andT, s_orT, s_and, s_or, s_not, s_if, s_neg, s_meth, s_cut, v_nopart, s_part, s_chain, s_seq, s_rng1, s_rng2, s_enum, s_zipL, s_tupR1, s_tupR2, s_yes, List.getElem?_cons_zero, List.getElem?_cons_succ, Option.some.injEq, exists_eq_left', v_ok, e_add, e_sub, e_int, e_min, e_max, e_maxU, e_lenT, e_tupT, e_lt, e_le, e_gt, e_ge, i_tup, e_cutT, List.set_cons_succ, List.set_cons_zero, List.length_cons, List.length_nil, Nat.reduceAdd, W.int.injEq, W.bl.injEq, W.ref.injEq, W.tup.injEq, W.str.injEq, reduceCtorEq, false_and, and_false, exists_false, or_false, false_or, true_and, and_true, exists_const, exists_eq_left, sz0, sz1, sz2, sz3, sz4, sz5, sz6, sz7, sz8, sz9, sz10, hk, hk', neOp_i, neF]
  by_cases e : x = j
  · simp [e, Fr.refl]
  · simp [e, Fr.refl]
theorem sk_get {sk : List It} {p : Nat} {it : It} {G : Cells} (h : sk[p]? = some it) : getW G (skW sk) (.int (p : Int)) = .ok it.w G := by
  refine e_getT ?_ (by omega)
  rw [Int.toNat_natCast, List.getElem?_map, h]; rfl
theorem lay_getT {sk : List It} {ln ch : List Int} {G : Cells} {n p : Nat} (h : p < n) : getW G (.tup (layW sk ln ch n)) (.int (p : Int)) = .ok (.tup [.int (Bg sk ln ch p), .int (En sk ln ch (p + 1))]) G :=
  e_getT (by rw [Int.toNat_natCast]; exact layW_get h) (by omega)
theorem lay_getL {sk : List It} {ln ch : List Int} {G : Cells} {n p m : Nat} (hm : G[m]? = some (.lst (layW sk ln ch n))) (h : p < n) : getW G (.ref m) (.int (p : Int)) = .ok (.tup [.int (Bg sk ln ch p), .int (En sk ln ch (p + 1))]) G :=
  e_getL hm (by rw [Int.toNat_natCast]; exact layW_get h) (by omega)
theorem pr0 (a b : W) (G : Cells) : getW G (.tup [a, b]) (.int 0) = .ok a G := e_getT rfl (by decide)
theorem pr1 (a b : W) (G : Cells) : getW G (.tup [a, b]) (.int 1) = .ok b G := e_getT rfl (by decide)
/-- the jump at p goes to g -/
structure Jmp (sk : List It) (p g : Nat) (s l : Int) : Prop where
  at' : sk[p]? = some (.jmp (g : Int) s l)
  goal : sk[g]? = some .lab
  s1 : 1 ≤ s
  sl : s < l
  l9 : l ≤ 999
theorem Skel.jmp {sk : List It} (hs : Skel sk) {p : Nat} {g s l : Int} (h : sk[p]? = some (.jmp g s l)) : ∃ n : Nat, g = (n : Int) ∧ Jmp sk p n s l := by
  obtain ⟨g0, g1, s1, s2, s3⟩ := hs.items _ (List.mem_of_getElem? h)
  obtain ⟨n, rfl⟩ := Int.eq_ofNat_of_zero_le g0
  exact ⟨n, rfl, h, by simpa using g1, s1, s2, s3⟩
theorem Jmp.lt {sk : List It} {p g : Nat} {s l : Int} (h : Jmp sk p g s l) : p < sk.length ∧ g < sk.length := ⟨(List.getElem?_eq_some_iff.mp h.at').1, (List.getElem?_eq_some_iff.mp h.goal).1⟩
theorem Jmp.ne {sk : List It} {p g : Nat} {s l : Int} (h : Jmp sk p g s l) : p ≠ g := by
  rintro rfl
  have := h.at'.symm.trans h.goal
  cases this
theorem places_lt {α : Type} {p : α → Bool} : ∀ {xs : List α} {k : Nat}, (places p k xs).Pairwise (· < ·) ∧ ∀ i ∈ places p k xs, (k : Int) ≤ i
  | [], k => ⟨.nil, fun i hi => by cases hi⟩
  | x :: xs, k => by
    have ih := places_lt (p := p) (xs := xs) (k := k + 1)
    unfold places
    split
    · refine ⟨List.pairwise_cons.mpr ⟨fun i hi => by have := ih.2 i hi; omega, ih.1⟩, fun i hi => ?_⟩
      rcases List.mem_cons.mp hi with rfl | hi
      · omega
      · have := ih.2 i hi; omega
    · exact ⟨ih.1, fun i hi => by have := ih.2 i hi; omega⟩
theorem places_nd {α : Type} {p : α → Bool} {xs : List α} {k : Nat} : (places p k xs).Nodup := (places_lt (p := p)).1.imp fun h => by omega
end NS
/- part S1 -/
set_option maxHeartbeats 1000000
namespace NS
open PySem PySem.Spec PyProof.Rows L2 PL

/-! ### the stock, typed -/
def stkI (r d c : Nat) : Inv where
  P _ G := RI r d c G
  dom := [r, d, c]
  keep := fun {n G G'} l k h => by
    obtain ⟨s, j, ds, cs, h1, h2, h3, g1, g2, h4, g3, h5⟩ := h.ex
    exact ⟨s, j, ds, cs, h1, h2, h3, (k r (by simp)).trans g1, (k d (by simp)).trans g2, h4, (k c (by simp)).trans g3, h5⟩
  lt := fun {n G} h k hk => by
    obtain ⟨h1, h2, h3, _⟩ := h.lt
    simp only [List.mem_cons, List.not_mem_nil, or_false] at hk
    rcases hk with rfl | rfl | rfl
    · exact h1
    · exact h2
    · exact h3
  up := fun _ h => h
abbrev stkS (r d c : Nat) : Smp := ⟨stkI r d c, [r, d], 0⟩
section
variable {r d c : Nat}
theorem sdraw_ok {size : Int} (h1 : 1 ≤ size) (h2 : size < 2 ^ 30) : Fn (stkS r d c) M_law_draw (cN [tEq (.ref r), tEq (.int size)]) (.val (tI fun i => 0 ≤ i ∧ i < size)) 0 := fun n Sp G ws hn hS hl hI hw => by
  match ws, hw with
  | [x, y], hw =>
    obtain ⟨hx, hy, _⟩ := hw
    obtain rfl : x = .ref r := hx
    obtain rfl : y = .int size := hy
    refine (draw_ok hI h1 h2).mono fun w G' q => ?_
    obtain ⟨⟨i, e, q1, q2⟩, hr, f⟩ := q
    exact ⟨hr, f, i, ⟨q1, q2⟩, e⟩
theorem sdrawT_ok {p : Int → Prop} {m : Int} (hp : ∀ i, p i → 1 ≤ i ∧ i ≤ m) (h2 : m < 2 ^ 30) : Fn (stkS r d c) M_law_draw (cN [tEq (.ref r), tI p]) (.val (tI fun i => 0 ≤ i ∧ i < m)) 0 := fun n Sp G ws hn hS hl hI hw => by
  match ws, hw with
  | [x, y], hw =>
    obtain ⟨hx, ⟨j, hj, hy⟩, _⟩ := hw
    obtain rfl : x = .ref r := hx
    obtain rfl : y = .int j := hy
    have := hp j hj
    refine (draw_ok hI this.1 (by omega)).mono fun w G' q => ?_
    obtain ⟨⟨i, e, q1, q2⟩, hr, f⟩ := q
    exact ⟨hr, f, i, ⟨q1, by omega⟩, e⟩
theorem spick_ok {T : Tp W} {hi : Nat} (h2 : hi ≤ 100000) : Fn (stkS r d c) M_law_pick (cN [tEq (.ref r), tLs (cAll T 1 hi)]) (.val T) 0 := by
  refine fn_of (np := 2) (nn := 2) rfl (fun Sp G0 => ?_) (Nat.le_refl _)
  intro n S E G hn e
  obtain ⟨w0, e0, q0⟩ := e.sl 0 _ rfl
  obtain rfl : w0 = .ref r := q0
  obtain ⟨w1, e1, k, x, rfl, hk, hg, xs, rfl, l1, l2, hT⟩ := e.sl 1 _ rfl
  have h0 : ∃ E', E = some (.ref r) :: some (.ref k) :: E' := by
    match E, e0, e1 with
    | [], e0, _ => simp at e0
    | [_], _, e1 => simp at e1
    | a :: b :: E', e0, e1 => exact ⟨E', by simp at e0 e1; rw [e0, e1]⟩
  obtain ⟨E', rfl⟩ := h0
  have kn : k ≠ r ∧ k ≠ d := ⟨fun z => hk (e.s0 k (by simp [z])), fun z => hk (e.s0 k (by simp [z]))⟩
  show (B_law_pick (some (.ref r) :: some (.ref k) :: E') G).sat _ _
  unfold B_law_pick
  simp only [p2_c, p3_c, pT2_c, pT3_c, t_asg, t_expr, t_ret, t_if, t_nx, t_par, t_par3, g_set, g_tup2, g_tup3, g_put, s_bin, s_def, s_defK, s_call, s_cons, v_nil, s_var, v_c, s_lst, s_tup, s_test, s_tru, s_notT, s_andT, s_orT, s_and, s_or, s_not, s_if, s_neg, s_meth, s_cut, v_nopart, s_part, s_chain, s_seq, s_rng1, s_rng2, s_enum, s_zipL, s_tupR1, s_tupR2, s_yes, List.getElem?_cons_zero, List.getElem?_cons_succ, Option.some.injEq, exists_eq_left', v_ok, e_add, e_sub, e_int, e_min, e_max, e_maxU, e_lenT, e_tupT, e_lt, e_le, e_gt, e_ge, i_tup, e_cutT, List.set_cons_succ, List.set_cons_zero, List.length_cons, List.length_nil, Nat.reduceAdd, W.int.injEq, W.bl.injEq, W.ref.injEq, W.tup.injEq, W.str.injEq, reduceCtorEq, false_and, and_false, exists_false, or_false, false_or, true_and, and_true, exists_const, exists_eq_left, sz0, sz1, sz2, sz3, sz4, sz5, sz6, sz7, sz8, sz9, sz10, e_lenL hg]
  refine (draw_ok (show RI r d c G from e.inv) (size := (xs.length : Int)) (by omega) (by omega)).mono fun w G1 q => ?_
  obtain ⟨⟨i, rfl, hi0, hi1⟩, i1, f⟩ := q
  have hi2 : i.toNat < xs.length := by omega
  have hg1 := f.get hg (by simp [kn.1, kn.2])
  rw [e_getL hg1 (List.getElem?_eq_getElem hi2) hi0]
  refine ⟨i1, e.fr.trans f, T.mono (f.sub fun k hk => e.s0p k hk) (T.sub (fun k hk => (e.sp k hk).1) (hT _ (List.getElem_mem hi2)))⟩
end
section
variable {r d c : Nat} {Sp : List Nat} {G0 : Cells} {gh : Tp Unit} {Γ : TEnv} {T : Tp W} {k n : Nat} {ms : MA}
theorem ev_spick {i0 : Nat} (h0 : Γ[i0]? = some (.ty (tEq (.ref r)))) (h : Ea ⟨stkS r d c, Sp, G0, gh⟩ Γ ms (cAll T n n) k) (h1 : 1 ≤ n := by decide) (h2 : n ≤ 1000 := by decide) : Ev ⟨stkS r d c, Sp, G0, gh⟩ Γ (mDef M_law_pick (mCons (mVar i0) (mCons (mLst ms) mNil))) (.val T) (0 + (k + 0) + 0) :=
  ev_def (spick_ok (hi := 1000) (by decide)) (ea_cons (ev_var h0) (ea_cons (ev_le (ev_nv (ev_lst h fun _ _ _ q => by have := q.2.1; omega)) (tRef_le (dL_le (cAll_le Tle.refl h1 h2)))) ea_nil))
theorem ev_sdraw {i0 : Nat} {i : Int} (h0 : Γ[i0]? = some (.ty (tEq (.ref r)))) (h1 : 1 ≤ i := by decide) (h2 : i < 2 ^ 30 := by decide) : Ev ⟨stkS r d c, Sp, G0, gh⟩ Γ (mDef M_law_draw (mCons (mVar i0) (mCons (mC (.int i)) mNil))) (.val (tI fun j => 0 ≤ j ∧ j < i)) (0 + (0 + 0) + 0) :=
  ev_def (sdraw_ok h1 h2) (ea_cons (ev_var h0) (ea_cons ((ev_c _)) ea_nil))
theorem ev_sdrawT {i0 : Nat} {m : ME} {p : Int → Prop} {i : Int} (h0 : Γ[i0]? = some (.ty (tEq (.ref r)))) (h : Ev ⟨stkS r d c, Sp, G0, gh⟩ Γ m (.val (tI p)) k) (hp : ∀ j, p j → 1 ≤ j ∧ j ≤ i) (h2 : i < 2 ^ 30 := by decide) : Ev ⟨stkS r d c, Sp, G0, gh⟩ Γ (mDef M_law_draw (mCons (mVar i0) (mCons m mNil))) (.val (tI fun j => 0 ≤ j ∧ j < i)) (0 + (k + 0) + 0) :=
  ev_def (sdrawT_ok hp h2) (ea_cons (ev_var h0) (ea_cons (h) ea_nil))
end
/-- from the stock on -/
theorem es_startS {r d c : Nat} {G : Cells} {m : MS} {R : W → Prop} {k : Nat} (h : RI r d c G) (hm : Es ⟨stkS r d c, [r, d], G, tAny⟩ (.no :: .ty (tEq (.ref r)) :: List.replicate k .no) m (fun _ _ _ => False) (.val (tP R)) 0) {w0 : Option W} {N : PEnv → Cells → Prop} : (m (w0 :: some (.ref r) :: List.replicate k none) G).sat N fun w _ => R w := by
  have lt := (stkI r d c).lt (n := 0) h
  refine (hm 0 [r, d] _ G (Nat.le_refl _) ?_).mono (fun _ _ ⟨_, _, z⟩ => z.elim) fun w G' q => q.2.2
  have key : ∀ (i : Nat) (s : Sl), ((.no :: .ty (tEq (.ref r)) :: List.replicate k .no : TEnv))[i]? = some s → s = .no ∨ i = 1 ∧ s = .ty (tEq (.ref r)) := fun i s hs => by
    match i with
    | 0 => simp at hs; exact .inl hs.symm
    | 1 => simp at hs; exact .inr ⟨rfl, hs.symm⟩
    | i + 2 =>
      have := List.mem_of_getElem? (show (List.replicate k Sl.no)[i]? = some s by simpa using hs)
      exact .inl (List.eq_of_mem_replicate this)
  refine ⟨h, Fr.refl, fun n hn => hn, fun n hn => ⟨hn, ?_⟩, fun n hn => .inl hn, fun n hn => lt n hn, trivial, fun i s hs => ?_, fun i D n hs _ => ?_, fun i j D D' n hs _ _ _ => ?_⟩
  · have := lt n (by simp [stkI] at hn ⊢; rcases hn with rfl | rfl <;> simp)
    exact this
  · rcases key i s hs with rfl | ⟨rfl, rfl⟩
    · match i, hs with
      | 0, _ => exact ⟨w0, rfl⟩
      | 1, hs => simp at hs
      | i + 2, hs =>
        have hl : i < k := by have := (List.getElem?_eq_some_iff.mp hs).1; simpa using this
        exact ⟨none, by simp [hl]⟩
    · exact ⟨_, rfl, rfl⟩
  · rcases key i _ hs with h | ⟨_, h⟩ <;> cases h
  · rcases key i _ hs with h | ⟨_, h⟩ <;> cases h
end NS
/- part S2 -/
set_option maxHeartbeats 1000000
namespace NS
open PySem PySem.Spec PyProof.Rows L2 PL

/-! ### the stock is made -/
def zig (i : Int) : Int := if 0 ≤ i then 2 * i else -2 * i - 1
def zigW : W → Option W
  | .int i => some (.int (zig i))
  | _ => none
theorem zig_map (ns : List Int) : (ns.map W.int).filterMap zigW = (ns.map zig).map W.int := by
  induction ns with
  | nil => rfl
  | cons n ns ih => simp [List.filterMap_cons, zigW, ih]
def bigW : W → Option W
  | .int i => if 1000000000000000 ≤ i then some (.int i) else none
  | _ => none
theorem big_map (ns : List Int) : (ns.map W.int).filterMap bigW = (ns.filter fun i => decide (1000000000000000 ≤ i)).map W.int := by
  induction ns with
  | nil => rfl
  | cons n ns ih => by_cases h : (1000000000000000 : Int) ≤ n <;> simp [List.filterMap_cons, bigW, h, ih]
theorem map_get {α β : Type} {f : α → β} {xs : List α} {i : Nat} {w : β} (h : (xs.map f)[i]? = some w) : ∃ x, xs[i]? = some x ∧ w = f x := by
  rw [List.getElem?_map] at h
  obtain ⟨x, h1, h2⟩ := Option.map_eq_some_iff.mp h
  exact ⟨x, h1, h2.symm⟩
theorem stock_ok (ns : List Int) (hn : ns.length ≤ 63) : (M_law_stock [.ref 0] [.rol (ns.map W.int)]).sat fun w G' => ∃ r d c, w = .ref r ∧ RI r d c G' := by
  refine fun_sat rfl ?_
  show (B_law_stock [some (.ref 0), none, none] [.rol (ns.map W.int)]).sat _ _
  unfold B_law_stock
  refine so_seq ?_
  simp only [p2_c, p3_c, pT2_c, pT3_c, t_asg, t_expr, t_ret, t_if, t_nx, t_par, t_par3, g_set, g_tup2, g_tup3, g_put]
  have hcut : cutOp [.rol (ns.map W.int)] (.ref 0) none (some 63) = .ok (.ref 1) [.rol (ns.map W.int), .lst (ns.map W.int)] := by
    show Rs.ok (W.ref 1) ([.rol (ns.map W.int)] ++ [.lst (cutW (ns.map W.int) none (some ((63 : Nat) : Int)))]) = _
    rw [cut_to, List.take_of_length_le (by simp; omega)]; rfl
  have hL : ([Cell.rol (ns.map W.int), .lst (ns.map W.int)] : Cells)[1]? = some (.lst (ns.map W.int)) := rfl
  refine lc_pure (ns.map W.int) zigW ?_ (by simp; omega) ?_ ?_
  · simp only [s_bin, s_def, s_defK, s_call, s_cons, v_nil, s_var, v_c, s_lst, s_tup, s_test, s_tru, s_notT, s_andT, s_orT, s_and, s_or, s_not, s_if, s_neg, s_meth, s_cut, v_nopart, s_part, s_chain, s_seq, s_rng1, s_rng2, s_enum, s_zipL, s_tupR1, s_tupR2, s_yes, List.getElem?_cons_zero, List.getElem?_cons_succ, Option.some.injEq, exists_eq_left', v_ok, e_add, e_sub, e_int, e_min, e_max, e_maxU, e_lenT, e_tupT, e_lt, e_le, e_gt, e_ge, i_tup, e_cutT, List.set_cons_succ, List.set_cons_zero, List.length_cons, List.length_nil, Nat.reduceAdd, W.int.injEq, W.bl.injEq, W.ref.injEq, W.tup.injEq, W.str.injEq, reduceCtorEq, false_and, and_false, exists_false, or_false, false_or, true_and, and_true, exists_const, exists_eq_left, sz0, sz1, sz2, sz3, sz4, sz5, sz6, sz7, sz8, sz9, sz10, hcut, i_lst hL]
    exact ⟨Fr.push, it_lst hL (by simp)⟩
  · intro i w G' hw _
    obtain ⟨x, hx, rfl⟩ := map_get hw
    simp only [wipeE, p2_c, p3_c, pT2_c, pT3_c, t_asg, t_expr, t_ret, t_if, t_nx, t_par, t_par3, g_set, g_tup2, g_tup3, g_put, s_bin, s_def, s_defK, s_call, s_cons, v_nil, s_var, v_c, s_lst, s_tup, s_test, s_tru, s_notT, s_andT, s_orT, s_and, s_or, s_not, s_if, s_neg, s_meth, s_cut, v_nopart, s_part, s_chain, s_seq, s_rng1, s_rng2, s_enum, s_zipL, s_tupR1, s_tupR2, s_yes, List.getElem?_cons_zero, List.getElem?_cons_succ, Option.some.injEq, exists_eq_left', v_ok, e_add, e_sub, e_int, e_min, e_max, e_maxU, e_lenT, e_tupT, e_lt, e_le, e_gt, e_ge, i_tup, e_cutT, List.set_cons_succ, List.set_cons_zero, List.length_cons, List.length_nil, Nat.reduceAdd, W.int.injEq, W.bl.injEq, W.ref.injEq, W.tup.injEq, W.str.injEq, reduceCtorEq, false_and, and_false, exists_false, or_false, false_or, true_and, and_true, exists_const, exists_eq_left, sz0, sz1, sz2, sz3, sz4, sz5, sz6, sz7, sz8, sz9, sz10, if_true, decide_eq_true_eq, zigW, zig]
    refine hif (fun h => ?_) fun h => ?_
    · simp only [s_bin, s_def, s_defK, s_call, s_cons, v_nil, s_var, v_c, s_lst, s_tup, s_test, s_tru, s_notT, s_andT, s_orT, s_and, s_or, s_not, s_if, s_neg, s_meth, s_cut, v_nopart, s_part, s_chain, s_seq, s_rng1, s_rng2, s_enum, s_zipL, s_tupR1, s_tupR2, s_yes, List.getElem?_cons_zero, List.getElem?_cons_succ, Option.some.injEq, exists_eq_left', v_ok, e_add, e_sub, e_int, e_min, e_max, e_maxU, e_lenT, e_tupT, e_lt, e_le, e_gt, e_ge, i_tup, e_cutT, List.set_cons_succ, List.set_cons_zero, List.length_cons, List.length_nil, Nat.reduceAdd, W.int.injEq, W.bl.injEq, W.ref.injEq, W.tup.injEq, W.str.injEq, reduceCtorEq, false_and, and_false, exists_false, or_false, false_or, true_and, and_true, exists_const, exists_eq_left, sz0, sz1, sz2, sz3, sz4, sz5, sz6, sz7, sz8, sz9, sz10, e_mul (mulOk_l (i := 2) (j := x) (by decide)), h, if_true, Fr.refl]
    · simp only [s_bin, s_def, s_defK, s_call, s_cons, v_nil, s_var, v_c, s_lst, s_tup, s_test, s_tru, s_notT, s_andT, s_orT, s_and, s_or, s_not, s_if, s_neg, s_meth, s_cut, v_nopart, s_part, s_chain, s_seq, s_rng1, s_rng2, s_enum, s_zipL, s_tupR1, s_tupR2, s_yes, List.getElem?_cons_zero, List.getElem?_cons_succ, Option.some.injEq, exists_eq_left', v_ok, e_add, e_sub, e_int, e_min, e_max, e_maxU, e_lenT, e_tupT, e_lt, e_le, e_gt, e_ge, i_tup, e_cutT, List.set_cons_succ, List.set_cons_zero, List.length_cons, List.length_nil, Nat.reduceAdd, W.int.injEq, W.bl.injEq, W.ref.injEq, W.tup.injEq, W.str.injEq, reduceCtorEq, false_and, and_false, exists_false, or_false, false_or, true_and, and_true, exists_const, exists_eq_left, sz0, sz1, sz2, sz3, sz4, sz5, sz6, sz7, sz8, sz9, sz10, e_mul (mulOk_l (i := -2) (j := x) (by decide)), h, if_false, Fr.refl]
  intro fn G1 f1 hfn hf
  rw [zig_map] at hf
  generalize hfs : ns.map zig = fs at *
  have hfl : fs.length ≤ 63 := by rw [← hfs]; simpa using hn
  simp only [p2_c, p3_c, pT2_c, pT3_c, t_asg, t_expr, t_ret, t_if, t_nx, t_par, t_par3, g_set, g_tup2, g_tup3, g_put, s_bin, s_def, s_defK, s_call, s_cons, v_nil, s_var, v_c, s_lst, s_tup, s_test, s_tru, s_notT, s_andT, s_orT, s_and, s_or, s_not, s_if, s_neg, s_meth, s_cut, v_nopart, s_part, s_chain, s_seq, s_rng1, s_rng2, s_enum, s_zipL, s_tupR1, s_tupR2, s_yes, List.getElem?_cons_zero, List.getElem?_cons_succ, Option.some.injEq, exists_eq_left', v_ok, e_add, e_sub, e_int, e_min, e_max, e_maxU, e_lenT, e_tupT, e_lt, e_le, e_gt, e_ge, i_tup, e_cutT, List.set_cons_succ, List.set_cons_zero, List.length_cons, List.length_nil, Nat.reduceAdd, W.int.injEq, W.bl.injEq, W.ref.injEq, W.tup.injEq, W.str.injEq, reduceCtorEq, false_and, and_false, exists_false, or_false, false_or, true_and, and_true, exists_const, exists_eq_left, sz0, sz1, sz2, sz3, sz4, sz5, sz6, sz7, sz8, sz9, sz10]
  refine lc_pure (fs.map W.int) bigW ?_ (by simp; omega) ?_ ?_
  · simp only [s_bin, s_def, s_defK, s_call, s_cons, v_nil, s_var, v_c, s_lst, s_tup, s_test, s_tru, s_notT, s_andT, s_orT, s_and, s_or, s_not, s_if, s_neg, s_meth, s_cut, v_nopart, s_part, s_chain, s_seq, s_rng1, s_rng2, s_enum, s_zipL, s_tupR1, s_tupR2, s_yes, List.getElem?_cons_zero, List.getElem?_cons_succ, Option.some.injEq, exists_eq_left', v_ok, e_add, e_sub, e_int, e_min, e_max, e_maxU, e_lenT, e_tupT, e_lt, e_le, e_gt, e_ge, i_tup, e_cutT, List.set_cons_succ, List.set_cons_zero, List.length_cons, List.length_nil, Nat.reduceAdd, W.int.injEq, W.bl.injEq, W.ref.injEq, W.tup.injEq, W.str.injEq, reduceCtorEq, false_and, and_false, exists_false, or_false, false_or, true_and, and_true, exists_const, exists_eq_left, sz0, sz1, sz2, sz3, sz4, sz5, sz6, sz7, sz8, sz9, sz10, i_lst hf]
    exact ⟨Fr.refl, it_lst hf (by simp)⟩
  · intro i w G' hw _
    obtain ⟨x, hx, rfl⟩ := map_get hw
    simp only [wipeE, p2_c, p3_c, pT2_c, pT3_c, t_asg, t_expr, t_ret, t_if, t_nx, t_par, t_par3, g_set, g_tup2, g_tup3, g_put, s_bin, s_def, s_defK, s_call, s_cons, v_nil, s_var, v_c, s_lst, s_tup, s_test, s_tru, s_notT, s_andT, s_orT, s_and, s_or, s_not, s_if, s_neg, s_meth, s_cut, v_nopart, s_part, s_chain, s_seq, s_rng1, s_rng2, s_enum, s_zipL, s_tupR1, s_tupR2, s_yes, List.getElem?_cons_zero, List.getElem?_cons_succ, Option.some.injEq, exists_eq_left', v_ok, e_add, e_sub, e_int, e_min, e_max, e_maxU, e_lenT, e_tupT, e_lt, e_le, e_gt, e_ge, i_tup, e_cutT, List.set_cons_succ, List.set_cons_zero, List.length_cons, List.length_nil, Nat.reduceAdd, W.int.injEq, W.bl.injEq, W.ref.injEq, W.tup.injEq, W.str.injEq, reduceCtorEq, false_and, and_false, exists_false, or_false, false_or, true_and, and_true, exists_const, exists_eq_left, sz0, sz1, sz2, sz3, sz4, sz5, sz6, sz7, sz8, sz9, sz10, e_pow15, decide_eq_true_eq, bigW]
    exact hif (fun h => by simp [h, Fr.refl]) fun h => by simp [h, Fr.refl]
  intro dn G2 f2 hdn hd
  rw [big_map] at hd
  have hf2 := f2.get hf (by simp)
  have hfl' := lt_of_get hf2
  have hdl := lt_of_get hd
  simp only [s_bin, s_def, s_defK, s_call, s_cons, v_nil, s_var, v_c, s_lst, s_tup, s_test, s_tru, s_notT, s_andT, s_orT, s_and, s_or, s_not, s_if, s_neg, s_meth, s_cut, v_nopart, s_part, s_chain, s_seq, s_rng1, s_rng2, s_enum, s_zipL, s_tupR1, s_tupR2, s_yes, List.getElem?_cons_zero, List.getElem?_cons_succ, Option.some.injEq, exists_eq_left', v_ok, e_add, e_sub, e_int, e_min, e_max, e_maxU, e_lenT, e_tupT, e_lt, e_le, e_gt, e_ge, i_tup, e_cutT, List.set_cons_succ, List.set_cons_zero, List.length_cons, List.length_nil, Nat.reduceAdd, W.int.injEq, W.bl.injEq, W.ref.injEq, W.tup.injEq, W.str.injEq, reduceCtorEq, false_and, and_false, exists_false, or_false, false_or, true_and, and_true, exists_const, exists_eq_left, sz0, sz1, sz2, sz3, sz4, sz5, sz6, sz7, sz8, sz9, sz10, e_lenL hf2, List.length_map]
  rw [e_addL ((Fr.push (S := [])).get hf2 (by simp)) (push_get G2 _) (by simp; omega)]
  have fa : Fr [] G2 (G2 ++ [.lst [.int ((fs.length : Int) + 761)]]) := Fr.push
  have la : (G2 ++ [Cell.lst [.int ((fs.length : Int) + 761)]]).length = G2.length + 1 := by simp
  simp only [s_bin, s_def, s_defK, s_call, s_cons, v_nil, s_var, v_c, s_lst, s_tup, s_test, s_tru, s_notT, s_andT, s_orT, s_and, s_or, s_not, s_if, s_neg, s_meth, s_cut, v_nopart, s_part, s_chain, s_seq, s_rng1, s_rng2, s_enum, s_zipL, s_tupR1, s_tupR2, s_yes, List.getElem?_cons_zero, List.getElem?_cons_succ, Option.some.injEq, exists_eq_left', v_ok, e_add, e_sub, e_int, e_min, e_max, e_maxU, e_lenT, e_tupT, e_lt, e_le, e_gt, e_ge, i_tup, e_cutT, List.set_cons_succ, List.set_cons_zero, List.length_cons, List.length_nil, Nat.reduceAdd, W.int.injEq, W.bl.injEq, W.ref.injEq, W.tup.injEq, W.str.injEq, reduceCtorEq, false_and, and_false, exists_false, or_false, false_or, true_and, and_true, exists_const, exists_eq_left, sz0, sz1, sz2, sz3, sz4, sz5, sz6, sz7, sz8, sz9, sz10]
  generalize (G2 ++ [Cell.lst [.int ((fs.length : Int) + 761)]]) = G3 at *
  have fb : Fr [] G3 (G3 ++ [.lst (fs.map W.int ++ [.int ((fs.length : Int) + 761)])]) := Fr.push
  have lb : (G3 ++ [Cell.lst (fs.map W.int ++ [.int ((fs.length : Int) + 761)])]).length = G3.length + 1 := by simp
  have hc := push_get G3 (.lst (fs.map W.int ++ [.int ((fs.length : Int) + 761)]))
  generalize (G3 ++ [Cell.lst (fs.map W.int ++ [.int ((fs.length : Int) + 761)])]) = G4 at *
  rw [e_sum ((fa.trans fb).get hf2 (by simp))]
  simp only [s_bin, s_def, s_defK, s_call, s_cons, v_nil, s_var, v_c, s_lst, s_tup, s_test, s_tru, s_notT, s_andT, s_orT, s_and, s_or, s_not, s_if, s_neg, s_meth, s_cut, v_nopart, s_part, s_chain, s_seq, s_rng1, s_rng2, s_enum, s_zipL, s_tupR1, s_tupR2, s_yes, List.getElem?_cons_zero, List.getElem?_cons_succ, Option.some.injEq, exists_eq_left', v_ok, e_add, e_sub, e_int, e_min, e_max, e_maxU, e_lenT, e_tupT, e_lt, e_le, e_gt, e_ge, i_tup, e_cutT, List.set_cons_succ, List.set_cons_zero, List.length_cons, List.length_nil, Nat.reduceAdd, W.int.injEq, W.bl.injEq, W.ref.injEq, W.tup.injEq, W.str.injEq, reduceCtorEq, false_and, and_false, exists_false, or_false, false_or, true_and, and_true, exists_const, exists_eq_left, sz0, sz1, sz2, sz3, sz4, sz5, sz6, sz7, sz8, sz9, sz10]
  refine ⟨G4.length, dn, G3.length, rfl, ⟨fs.sum, 0, fs.filter fun i => decide (1000000000000000 ≤ i), fs ++ [(fs.length : Int) + 761], by omega, by omega, by omega, push_get G4 _, ?_, ?_, ?_, by simp, by simp; omega⟩⟩
  · exact (Fr.push (S := [])).get ((fa.trans fb).get hd (by simp)) (by simp)
  · have := List.length_filter_le (fun i => decide ((1000000000000000 : Int) ≤ i)) fs
    omega
  · rw [(Fr.push (S := [])).get hc (by simp), List.map_append]; rfl
end NS
/- part I8 -/
set_option maxHeartbeats 1000000
namespace NS
open PySem PySem.Spec PyProof.Rows L2 PL

/-! ### what is shown of skeletons and of ints -/
theorem da_ints (G : Cells) (k : Nat) (xs : List Int) : dat G (k + 2) (.tup (xs.map W.int)) = some (.tuple (xs.map PyData.int)) := da_tup (mo_map fun _ _ => rfl)
theorem da_intsL {G : Cells} {n : Nat} (k : Nat) {xs : List Int} (h : G[n]? = some (.lst (xs.map W.int))) : dat G (k + 2) (.ref n) = some (.list (xs.map PyData.int)) := da_lst h (mo_map fun _ _ => rfl)
theorem sh_ints {xs : List Int} {n : Nat} (hn : xs.length ≤ n) (h : ∀ x ∈ xs, x.natAbs < 10 ^ 40) : Sh (n * 46 + 44) (.tuple (xs.map PyData.int)) :=
  sh_tup (b := 44) (by simpa using hn) fun d hd => by obtain ⟨x, hx, rfl⟩ := List.mem_map.mp hd; exact sh_int (h x hx)
theorem sh_intsL {xs : List Int} {n : Nat} (hn : xs.length ≤ n) (h : ∀ x ∈ xs, x.natAbs < 10 ^ 40) : Sh (n * 46 + 44) (.list (xs.map PyData.int)) :=
  sh_lst (b := 44) (by simpa using hn) fun d hd => by obtain ⟨x, hx, rfl⟩ := List.mem_map.mp hd; exact sh_int (h x hx)
def It.d : It → PyData
  | .lab => .tuple [.str "label"]
  | .fil a => .tuple [.str "fill", .int a]
  | .jmp g s l => .tuple [.str "jump", .int g, .int s, .int l]
abbrev skD (sk : List It) : PyData := .tuple (sk.map It.d)
theorem it_dat (G : Cells) (k : Nat) (it : It) : dat G (k + 2) it.w = some it.d := by cases it <;> rfl
theorem sk_dat (G : Cells) (k : Nat) (sk : List It) : dat G (k + 3) (skW sk) = some (skD sk) := da_tup (mo_map fun it _ => it_dat G k it)
theorem sh_lab : Sh 44 (.str "label") := sh_str (by decide +kernel)
theorem sh_fil : Sh 44 (.str "fill") := sh_str (by decide +kernel)
theorem sh_jmp : Sh 44 (.str "jump") := sh_str (by decide +kernel)
theorem sk_sh {sk : List It} (hs : Skel sk) : Sh 10000 (skD sk) := by
  have h24 := hs.len2
  refine (sh_tup (b := 300) (n := 24) (by simpa using h24) fun d hd => ?_).wide (by decide)
  obtain ⟨it, hit, rfl⟩ := List.mem_map.mp hd
  have ok := hs.items it hit
  cases it with
  | lab => exact (sh_tup (b := 44) (n := 1) (by simp) (by simp [sh_lab])).wide (by decide)
  | fil a =>
    have : a.natAbs < 10 ^ 40 := by have ok : fillOk a := ok; unfold fillOk at ok; omega
    exact (sh_tup (b := 44) (n := 2) (by simp) (by simp [sh_fil, sh_int this])).wide (by decide)
  | jmp g s l =>
    obtain ⟨g0, g1, s1, s2, s3⟩ := ok
    have gl := (List.getElem?_eq_some_iff.mp g1).1
    have a1 : g.natAbs < 10 ^ 40 := by omega
    have a2 : s.natAbs < 10 ^ 40 := by omega
    have a3 : l.natAbs < 10 ^ 40 := by omega
    exact (sh_tup (b := 44) (n := 4) (by simp) (by simp [sh_jmp, sh_int a1, sh_int a2, sh_int a3])).wide (by decide)
theorem sk_repr {sk : List It} (hs : Skel sk) (G : Cells) : reprW G [skW sk] = .ok (.str (skD sk).shown) G := repr_ok (sk_dat G 57 sk) (sk_sh hs) (by decide)
end NS
/- part W1 -/
set_option maxHeartbeats 1000000
namespace NS
open PySem PySem.Spec PyProof.Rows L2 PL

/-! ### the jumps, and what stands in their ways -/
theorem jumps_ok {sk : List It} {G : Cells} (hs : sk.length ≤ 40) : (M_law_jumps [skW sk] G).sat fun w G' => ∃ n, w = .ref n ∧ G.length ≤ n ∧ G'[n]? = some (.lst ((jumpsN sk).map W.int)) ∧ Fr [] G G' := by
  refine fun_sat rfl ?_
  show (B_law_jumps [some (skW sk), none, none] G).sat _ _
  unfold B_law_jumps
  simp only [p2_c, p3_c, pT2_c, pT3_c, t_asg, t_expr, t_ret, t_if, t_nx, t_par, t_par3, g_set, g_tup2, g_tup3, g_put]
  refine lc_pure (enW (sk.map It.w)) (fF isJW) ?_ (by rw [enW_len]; simp; omega) ?_ ?_
  · simp only [s_bin, s_def, s_defK, s_call, s_cons, v_nil, s_var, v_c, s_lst, s_tup, s_test, s_tru, s_notT, s_andT, s_orT, s_and, s_or, s_not, s_if, s_neg, s_meth, s_cut, v_nopart, s_part, s_chain, s_seq, s_rng1, s_rng2, s_enum, s_zipL, s_tupR1, s_tupR2, s_yes, List.getElem?_cons_zero, List.getElem?_cons_succ, Option.some.injEq, exists_eq_left', v_ok, e_add, e_sub, e_int, e_min, e_max, e_maxU, e_lenT, e_tupT, e_lt, e_le, e_gt, e_ge, i_tup, e_cutT, List.set_cons_succ, List.set_cons_zero, List.length_cons, List.length_nil, Nat.reduceAdd, W.int.injEq, W.bl.injEq, W.ref.injEq, W.tup.injEq, W.str.injEq, reduceCtorEq, false_and, and_false, exists_false, or_false, false_or, true_and, and_true, exists_const, exists_eq_left, sz0, sz1, sz2, sz3, sz4, sz5, sz6, sz7, sz8, sz9, sz10]
    exact ⟨Fr.refl, it_enT _ _ _⟩
  · intro i w G' hw _
    obtain ⟨x, hx, rfl⟩ := enW_inv hw
    obtain ⟨it, hit, rfl⟩ := map_at hx
    simp only [wipeE, p2_c, p3_c, pT2_c, pT3_c, t_asg, t_expr, t_ret, t_if, t_nx, t_par, t_par3, g_set, g_tup2, g_tup3, g_put, s_bin, s_def, s_defK, s_call, s_cons, v_nil, s_var, v_c, s_lst, s_tup, s_test, s_tru, s_notT, s_andT, s_orT, s_and, s_or, s_not, s_if, s_neg, s_meth, s_cut, v_nopart, s_part, s_chain, s_seq, s_rng1, s_rng2, s_enum, s_zipL, s_tupR1, s_tupR2, s_yes, List.getElem?_cons_zero, List.getElem?_cons_succ, Option.some.injEq, exists_eq_left', v_ok, e_add, e_sub, e_int, e_min, e_max, e_maxU, e_lenT, e_tupT, e_lt, e_le, e_gt, e_ge, i_tup, e_cutT, List.set_cons_succ, List.set_cons_zero, List.length_cons, List.length_nil, Nat.reduceAdd, W.int.injEq, W.bl.injEq, W.ref.injEq, W.tup.injEq, W.str.injEq, reduceCtorEq, false_and, and_false, exists_false, or_false, false_or, true_and, and_true, exists_const, exists_eq_left, sz0, sz1, sz2, sz3, sz4, sz5, sz6, sz7, sz8, sz9, sz10, w_0, kind_J, fF, isJW_w]
    exact hif (fun h => by simp [h, Fr.refl]) fun h => by simp [h, Fr.refl]
  · intro n G' f hn hg
    unfold enW at hg
    rw [en_places, places_map] at hg
    have e : (fun x => isJW (It.w x)) = It.isJ := by funext it; exact isJW_w it
    rw [e] at hg
    exact ⟨n, rfl, hn, hg, f⟩
theorem jumps_of_ok {sk : List It} {G : Cells} (hs : sk.length ≤ 40) : (Mjumps_of [skW sk] G).sat fun w G' => w = .tup ((jumpsN sk).map W.int) ∧ Fr [] G G' := by
  refine fun_sat rfl ?_
  show (Bjumps_of [some (skW sk), none, none] G).sat _ _
  unfold Bjumps_of
  simp only [p2_c, p3_c, pT2_c, pT3_c, t_asg, t_expr, t_ret, t_if, t_nx, t_par, t_par3, g_set, g_tup2, g_tup3, g_put, s_bin, s_def, s_defK, s_call, s_cons, v_nil, s_var, v_c, s_lst, s_tup, s_test, s_tru, s_notT, s_andT, s_orT, s_and, s_or, s_not, s_if, s_neg, s_meth, s_cut, v_nopart, s_part, s_chain, s_seq, s_rng1, s_rng2, s_enum, s_zipL, s_tupR1, s_tupR2, s_yes, List.getElem?_cons_zero, List.getElem?_cons_succ, Option.some.injEq, exists_eq_left', v_ok, e_add, e_sub, e_int, e_min, e_max, e_maxU, e_lenT, e_tupT, e_lt, e_le, e_gt, e_ge, i_tup, e_cutT, List.set_cons_succ, List.set_cons_zero, List.length_cons, List.length_nil, Nat.reduceAdd, W.int.injEq, W.bl.injEq, W.ref.injEq, W.tup.injEq, W.str.injEq, reduceCtorEq, false_and, and_false, exists_false, or_false, false_or, true_and, and_true, exists_const, exists_eq_left, sz0, sz1, sz2, sz3, sz4, sz5, sz6, sz7, sz8, sz9, sz10]
  refine lc_pure (enW (sk.map It.w)) (fF isJW) ?_ (by rw [enW_len]; simp; omega) ?_ ?_
  · simp only [s_bin, s_def, s_defK, s_call, s_cons, v_nil, s_var, v_c, s_lst, s_tup, s_test, s_tru, s_notT, s_andT, s_orT, s_and, s_or, s_not, s_if, s_neg, s_meth, s_cut, v_nopart, s_part, s_chain, s_seq, s_rng1, s_rng2, s_enum, s_zipL, s_tupR1, s_tupR2, s_yes, List.getElem?_cons_zero, List.getElem?_cons_succ, Option.some.injEq, exists_eq_left', v_ok, e_add, e_sub, e_int, e_min, e_max, e_maxU, e_lenT, e_tupT, e_lt, e_le, e_gt, e_ge, i_tup, e_cutT, List.set_cons_succ, List.set_cons_zero, List.length_cons, List.length_nil, Nat.reduceAdd, W.int.injEq, W.bl.injEq, W.ref.injEq, W.tup.injEq, W.str.injEq, reduceCtorEq, false_and, and_false, exists_false, or_false, false_or, true_and, and_true, exists_const, exists_eq_left, sz0, sz1, sz2, sz3, sz4, sz5, sz6, sz7, sz8, sz9, sz10]
    exact ⟨Fr.refl, it_enT _ _ _⟩
  · intro i w G' hw _
    obtain ⟨x, hx, rfl⟩ := enW_inv hw
    obtain ⟨it, hit, rfl⟩ := map_at hx
    simp only [wipeE, p2_c, p3_c, pT2_c, pT3_c, t_asg, t_expr, t_ret, t_if, t_nx, t_par, t_par3, g_set, g_tup2, g_tup3, g_put, s_bin, s_def, s_defK, s_call, s_cons, v_nil, s_var, v_c, s_lst, s_tup, s_test, s_tru, s_notT, s_andT, s_orT, s_and, s_or, s_not, s_if, s_neg, s_meth, s_cut, v_nopart, s_part, s_chain, s_seq, s_rng1, s_rng2, s_enum, s_zipL, s_tupR1, s_tupR2, s_yes, List.getElem?_cons_zero, List.getElem?_cons_succ, Option.some.injEq, exists_eq_left', v_ok, e_add, e_sub, e_int, e_min, e_max, e_maxU, e_lenT, e_tupT, e_lt, e_le, e_gt, e_ge, i_tup, e_cutT, List.set_cons_succ, List.set_cons_zero, List.length_cons, List.length_nil, Nat.reduceAdd, W.int.injEq, W.bl.injEq, W.ref.injEq, W.tup.injEq, W.str.injEq, reduceCtorEq, false_and, and_false, exists_false, or_false, false_or, true_and, and_true, exists_const, exists_eq_left, sz0, sz1, sz2, sz3, sz4, sz5, sz6, sz7, sz8, sz9, sz10, w_0, kind_J, fF, isJW_w]
    exact hif (fun h => by simp [h, Fr.refl]) fun h => by simp [h, Fr.refl]
  · intro n G' f hn hg
    unfold enW at hg
    rw [en_places, places_map] at hg
    have e : (fun x => isJW (It.w x)) = It.isJ := by funext it; exact isJW_w it
    rw [e] at hg
    rw [e_tupL hg]
    exact ⟨rfl, f⟩
theorem jumps_fn {sk : List It} (hs : sk.length ≤ 24) : Fn sNil M_law_jumps (cN [tEq (skW sk)]) (.new (dL (tEq ((jumpsN sk).map W.int)))) 0 := fn_new1 fun G => jumps_ok (by omega)
theorem jumps_of_fn {sk : List It} (hs : sk.length ≤ 24) : Fn sNil Mjumps_of (cN [tEq (skW sk)]) (.val (tEq (.tup ((jumpsN sk).map W.int)))) 0 := fn_sat1 fun G => jumps_of_ok (by omega)
theorem jumps_of40 {sk : List It} (hs : sk.length ≤ 40) : Fn sNil Mjumps_of (cN [tEq (skW sk)]) (.val (tEq (.tup ((jumpsN sk).map W.int)))) 0 := fn_sat1 fun G => jumps_of_ok hs
theorem min_cast (p g : Nat) : min (p : Int) (g : Int) = ((min p g : Nat) : Int) := by omega
theorem max_cast (p g : Nat) : max (p : Int) (g : Int) = ((max p g : Nat) : Int) := by omega
def rgI (a b : Nat) : List Int := (List.range (b - a)).map fun i => ((a + i : Nat) : Int)
theorem rgW_eq (a b : Nat) : rgW (a : Int) (b : Int) = (rgI a b).map W.int := by
  unfold rgW rgI
  rw [List.map_map, show ((b : Int) - (a : Int)).toNat = b - a from by omega]
  apply List.map_congr_left
  intro i _
  show W.int _ = W.int ((a + i : Nat) : Int)
  rw [Int.natCast_add]
theorem mem_rgI {a b : Nat} {i : Int} : i ∈ rgI a b ↔ (a : Int) ≤ i ∧ i < b := by
  unfold rgI
  rw [List.mem_map]
  constructor
  · rintro ⟨k, hk, rfl⟩
    have := List.mem_range.mp hk
    omega
  · rintro ⟨h1, h2⟩
    exact ⟨(i - a).toNat, List.mem_range.mpr (by omega), by omega⟩
theorem rgI_len {a b : Nat} : (rgI a b).length = b - a := by unfold rgI; simp
/-- the goal of a jump -/
def goalOf (sk : List It) (p : Nat) : Nat := match sk[p]? with
  | some (.jmp g _ _) => g.toNat
  | _ => 0
theorem Jmp.goalOf {sk : List It} {p g : Nat} {s l : Int} (h : Jmp sk p g s l) : NS.goalOf sk p = g := by
  unfold NS.goalOf; rw [h.at']; simp
theorem Skel.jmpN {sk : List It} (hs : Skel sk) {j : Int} (h : j ∈ jumpsN sk) : ∃ (p : Nat) (s l : Int), j = (p : Int) ∧ Jmp sk p (goalOf sk p) s l := by
  obtain ⟨p, g, s, l, hp, rfl⟩ := jumpsN_mem.mp h
  obtain ⟨n, rfl, hj⟩ := hs.jmp hp
  exact ⟨p, s, l, rfl, by rw [hj.goalOf]; exact hj⟩
def lowN (sk : List It) (p : Nat) : Nat := min p (goalOf sk p)
def highN (sk : List It) (p : Nat) : Nat := max p (goalOf sk p)
end NS
/- part W4a -/
set_option maxHeartbeats 1000000
namespace NS
open PySem PySem.Spec PyProof.Rows L2 PL

/-! ### a choice, a tuple or a list -/
theorem ev_inS {b : Bs} {Γ : TEnv} {m m' : ME} {c1 c2 : Nat} {i : Int} {ch : List Int} (h : Ev b Γ m (.val (tEq (.int i))) c1) (h' : Ev b Γ m' (.val (tSeq (ch.map W.int))) c2) : Ev b Γ (mBin (inW false) m m') (.val (tEq (.bl (decide (i ∈ ch))))) (c1 + c2) :=
  ev_binT h h' fun S G x y hx hy => by
    obtain rfl : x = .int i := hx
    rcases hy with hy | ⟨n, z, rfl, _, hg, us, rfl, hu⟩
    · obtain rfl : y = .tup (ch.map W.int) := hy
      rw [in_ch .tup]; exact ⟨Fr.refl, rfl⟩
    · obtain rfl : us = ch.map W.int := hu
      rw [in_ch (.lst hg)]; exact ⟨Fr.refl, rfl⟩
theorem ints_at {ln : List Int} {i : Nat} (h : i < ln.length) : (ln.map W.int)[i]? = some (.int (atL ln i)) := by
  rw [List.getElem?_map, List.getElem?_eq_getElem h]
  unfold atL
  rw [List.getElem?_eq_getElem h]; rfl
theorem up_mod {a x : Int} (h : fillOk a) : (a - x % a) % a = -x % a := by
  unfold fillOk at h
  rcases h with rfl | rfl | rfl | rfl | rfl | rfl <;> omega
theorem notin_ch {G : Cells} {ch : List Int} {w : W} (h : ChW G ch w) (i : Int) : inW true G (.int i) w = .ok (.bl (!decide (i ∈ ch))) G := by
  have q : inW true G (.int i) w = (match dat G 60 (.int i), dat G 60 w with
    | some d, some e => (match itemsD e with
      | some xs => if SeqAt.shaped d && SeqAt.shaped e then .ok (.bl (if true = true then !xs.any fun z => PyData.eqv z d else xs.any fun z => PyData.eqv z d)) G else .no
      | none => .no)
    | _, _ => .no) := rfl
  have d0 : dat G 60 (.int i) = some (.int i) := rfl
  have s0 : SeqAt.shaped (.int i) = true := rfl
  rw [q, d0]
  cases h with
  | tup => rw [dat_tints]; simp only [itemsD, s0, shaped_tints, any_ints, Bool.and_self, if_true, Bool.false_eq_true, if_false]
  | lst h => rw [dat_ints h]; simp only [itemsD, s0, shaped_ints, any_ints, Bool.and_self, if_true, Bool.false_eq_true, if_false]
theorem ev_notinS {b : Bs} {Γ : TEnv} {m m' : ME} {c1 c2 : Nat} {i : Int} {ch : List Int} (h : Ev b Γ m (.val (tEq (.int i))) c1) (h' : Ev b Γ m' (.val (tSeq (ch.map W.int))) c2) : Ev b Γ (mBin (inW true) m m') (.val (tEq (.bl (!decide (i ∈ ch))))) (c1 + c2) :=
  ev_binT h h' fun S G x y hx hy => by
    obtain rfl : x = .int i := hx
    rcases hy with hy | ⟨n, z, rfl, _, hg, us, rfl, hu⟩
    · obtain rfl : y = .tup (ch.map W.int) := hy
      rw [notin_ch .tup]; exact ⟨Fr.refl, rfl⟩
    · obtain rfl : us = ch.map W.int := hu
      rw [notin_ch (.lst hg)]; exact ⟨Fr.refl, rfl⟩
end NS
/- part Y1 -/
set_option maxHeartbeats 1000000
namespace NS
open PySem PySem.Spec PyProof.Rows L2 PL

/-! ### loose triples: what the program tells -/
structure Sk0 (sk : List It) : Prop where
  len2 : sk.length ≤ 40
  goal : ∀ (p : Nat) (g s l : Int), sk[p]? = some (.jmp g s l) → 0 ≤ g ∧ g.toNat < sk.length
  fil : ∀ (p : Nat) (a : Int), sk[p]? = some (.fil a) → fillOk a
theorem Skel.z {sk : List It} (h : Skel sk) : Sk0 sk := ⟨by have := h.len2; omega, fun p g s l e => by
  obtain ⟨g0, g1, _⟩ := h.items _ (List.mem_of_getElem? e)
  exact ⟨g0, (List.getElem?_eq_some_iff.mp g1).1⟩, fun p a e => h.items _ (List.mem_of_getElem? e)⟩
def nW (n : Nat) : W := .int (n : Int)
def It.sz : It → Int
  | .fil a => a
  | _ => 0
def It.gr : It → Int
  | .jmp _ s l => l - s
  | _ => 0
def jmpAt (sk : List It) (p : Nat) : Bool := (sk[p]?).any It.isJ
def filAt (sk : List It) (p : Nat) : Bool := (sk[p]?).any It.isF
def szAt (sk : List It) (p : Nat) : Int := ((sk[p]?).map It.sz).getD 0
def grAt (sk : List It) (p : Nat) : Int := ((sk[p]?).map It.gr).getD 0
theorem jmpAt_iff {sk : List It} {p : Nat} : jmpAt sk p = true ↔ ∃ g s l, sk[p]? = some (.jmp g s l) := by
  unfold jmpAt
  cases h : sk[p]? with
  | none => simp
  | some it => cases it <;> simp [It.isJ]
theorem filAt_iff {sk : List It} {p : Nat} : filAt sk p = true ↔ ∃ a, sk[p]? = some (.fil a) := by
  unfold filAt
  cases h : sk[p]? with
  | none => simp
  | some it => cases it <;> simp [It.isF]
theorem jmpAt_lt {sk : List It} {p : Nat} (h : jmpAt sk p = true) : p < sk.length := by
  obtain ⟨g, s, l, e⟩ := jmpAt_iff.mp h
  exact (List.getElem?_eq_some_iff.mp e).1
theorem filAt_lt {sk : List It} {p : Nat} (h : filAt sk p = true) : p < sk.length := by
  obtain ⟨a, e⟩ := filAt_iff.mp h
  exact (List.getElem?_eq_some_iff.mp e).1
def jps (sk : List It) : List Nat := (List.range sk.length).filter (jmpAt sk)
theorem mem_jps {sk : List It} {p : Nat} : p ∈ jps sk ↔ jmpAt sk p = true := by
  unfold jps
  rw [List.mem_filter, List.mem_range]
  exact ⟨fun h => h.2, fun h => ⟨jmpAt_lt h, h⟩⟩
theorem jps_len {sk : List It} : (jps sk).length ≤ sk.length := by
  unfold jps
  exact Nat.le_trans (List.length_filter_le _ _) (by simp)
theorem places_nat (q : It → Bool) : ∀ (xs : List It) (k : Nat), places q k xs = ((List.range xs.length).filter fun i => (xs[i]?).any q).map fun i => ((k + i : Nat) : Int)
  | [], k => rfl
  | x :: xs, k => by
    rw [places, places_nat q xs (k + 1), List.length_cons, List.range_succ_eq_map, List.filter_cons, List.filter_map]
    have e : ((fun i => (((x :: xs) : List It)[i]?).any q) ∘ Nat.succ) = fun i => (xs[i]?).any q := by funext i; simp
    rw [e]
    have e2 : ∀ l : List Nat, (l.map Nat.succ).map (fun i => ((k + i : Nat) : Int)) = l.map fun i => ((k + 1 + i : Nat) : Int) := fun l => by
      rw [List.map_map]; apply List.map_congr_left; intro i _; show ((k + (i + 1) : Nat) : Int) = _; congr 1; omega
    by_cases h : q x = true
    · simp only [List.getElem?_cons_zero, Option.any_some, h, if_true, List.map_cons, e2]
      simp
    · simp only [List.getElem?_cons_zero, Option.any_some, h, if_false, e2]
      simp
      intro a _ _
      omega
theorem jumps_jps (sk : List It) : (jumpsN sk).map W.int = (jps sk).map nW := by
  unfold jumpsN
  rw [places_nat, List.map_map]
  unfold jps jmpAt
  apply List.map_congr_left
  intro i _
  show W.int ((0 + i : Nat) : Int) = _
  rw [Nat.zero_add]; rfl
theorem goal_lt {sk : List It} (hs : Sk0 sk) {p : Nat} (h : jmpAt sk p = true) : goalOf sk p < sk.length := by
  obtain ⟨g, s, l, e⟩ := jmpAt_iff.mp h
  have := hs.goal p g s l e
  unfold goalOf; rw [e]; exact this.2
theorem jmp_get {sk : List It} (hs : Sk0 sk) {p : Nat} (h : jmpAt sk p = true) : ∃ s l, sk[p]? = some (.jmp ((goalOf sk p : Nat) : Int) s l) := by
  obtain ⟨g, s, l, e⟩ := jmpAt_iff.mp h
  have := hs.goal p g s l e
  refine ⟨s, l, ?_⟩
  unfold goalOf; rw [e]
  show some (It.jmp g s l) = some (It.jmp ((g.toNat : Nat) : Int) s l)
  rw [Int.toNat_of_nonneg this.1]
theorem rg_nW (a n : Nat) : rnW (a : Int) n = (List.range' a n).map nW := by
  unfold rnW
  rw [List.range'_eq_map_range, List.map_map]
  apply List.map_congr_left
  intro i _
  show W.int _ = W.int _
  congr 1
theorem rgW_nW (a b : Nat) : rgW (a : Int) (b : Int) = (List.range' a (b - a)).map nW := by
  rw [rgW_eq]
  unfold rgI
  rw [List.map_map, List.range'_eq_map_range, List.map_map]
  rfl
def hidN (sk : List It) (f o : Nat) : Bool := (((sk.drop (o + 1)).take (f - (o + 1))).map fun it => it.isF && decide (szAt sk f ≤ it.sz)).any id
theorem hidN_iff {sk : List It} {f o : Nat} (hf : f ≤ sk.length) : hidN sk f o = true ↔ ∃ k, o < k ∧ k < f ∧ filAt sk k = true ∧ szAt sk f ≤ szAt sk k := by
  unfold hidN
  rw [List.any_map, List.any_eq_true]
  constructor
  · rintro ⟨it, hm, h⟩
    obtain ⟨i, hi⟩ := List.mem_iff_getElem?.mp hm
    rw [List.getElem?_take] at hi
    split at hi
    · rename_i hlt
      rw [List.getElem?_drop] at hi
      simp only [Function.comp_apply, id, Bool.and_eq_true, decide_eq_true_eq] at h
      refine ⟨o + 1 + i, by omega, by omega, ?_, ?_⟩
      · unfold filAt; rw [hi]; exact h.1
      · unfold szAt; rw [hi]; exact h.2
    · cases hi
  · rintro ⟨k, h1, h2, h3, h4⟩
    obtain ⟨a, e⟩ := filAt_iff.mp h3
    refine ⟨.fil a, List.mem_iff_getElem?.mpr ⟨k - (o + 1), ?_⟩, ?_⟩
    · rw [List.getElem?_take, if_pos (by omega), List.getElem?_drop, show o + 1 + (k - (o + 1)) = k from by omega]; exact e
    · unfold szAt at h4 ⊢
      rw [e] at h4
      simp only [Function.comp_apply, id, Bool.and_eq_true, decide_eq_true_eq]
      exact ⟨rfl, h4⟩
abbrev Tr := Nat × Nat × Nat
def tI3 (t : Tr) : List Int := [(t.1 : Int), (t.2.1 : Int), (t.2.2 : Int)]
def tW (t : Tr) : W := .tup [nW t.1, nW t.2.1, nW t.2.2]
theorem tW_eq (ts : List Tr) : ts.map tW = tupsW (ts.map tI3) := by
  unfold tupsW; rw [List.map_map]; rfl
def innT (sk : List It) (j f o : Nat) : List Tr := if (jmpAt sk o && !hidN sk f o) = true then [(j, f, o)] else []
def midT (sk : List It) (j f : Nat) : List Tr := if filAt sk f = true then (List.range (lowN sk j)).flatMap (innT sk j f) else []
def outT (sk : List It) (j : Nat) : List Tr := (List.range' (lowN sk j + 1) (highN sk j - (lowN sk j + 1))).flatMap (midT sk j)
def possT (sk : List It) : List Tr := (jps sk).flatMap (outT sk)
def looseB (sk : List It) (t : Tr) : Bool := !decide (grAt sk t.2.2 % szAt sk t.2.1 = 0)
def trisT (sk : List It) : List Tr := (possT sk).filter (looseB sk)
theorem mem_possT {sk : List It} {j f o : Nat} : (j, f, o) ∈ possT sk ↔ jmpAt sk j = true ∧ lowN sk j < f ∧ f < highN sk j ∧ filAt sk f = true ∧ o < lowN sk j ∧ jmpAt sk o = true ∧ hidN sk f o = false := by
  unfold possT outT midT innT
  simp only [List.mem_flatMap, mem_jps, List.mem_range'_1]
  constructor
  · rintro ⟨j', hj, f', hf, h⟩
    split at h
    · rename_i hfl
      obtain ⟨o', ho, h⟩ := List.mem_flatMap.mp h
      split at h
      · rename_i hc
        rw [List.mem_singleton] at h
        cases h
        simp only [Bool.and_eq_true, Bool.not_eq_true'] at hc
        exact ⟨hj, by omega, by omega, hfl, List.mem_range.mp ho, hc.1, hc.2⟩
      · cases h
    · cases h
  · rintro ⟨h1, h2, h3, h4, h5, h6, h7⟩
    refine ⟨j, h1, f, by omega, ?_⟩
    rw [if_pos h4]
    refine List.mem_flatMap.mpr ⟨o, List.mem_range.mpr h5, ?_⟩
    rw [if_pos (by simp [h6, h7])]
    simp
/-- a loose triple -/
def Loose (sk : List It) (j f o : Nat) : Prop := jmpAt sk j = true ∧ lowN sk j < f ∧ f < highN sk j ∧ filAt sk f = true ∧ o < lowN sk j ∧ jmpAt sk o = true ∧ hidN sk f o = false ∧ grAt sk o % szAt sk f ≠ 0
theorem mem_trisT {sk : List It} {j f o : Nat} : (j, f, o) ∈ trisT sk ↔ Loose sk j f o := by
  unfold trisT looseB Loose
  rw [List.mem_filter, mem_possT]
  simp only [Bool.not_eq_true', decide_eq_false_iff_not]
  exact ⟨fun ⟨⟨a, b, c, d, e, f, g⟩, h⟩ => ⟨a, b, c, d, e, f, g, h⟩, fun ⟨a, b, c, d, e, f, g, h⟩ => ⟨⟨a, b, c, d, e, f, g⟩, h⟩⟩
/-! their order -/
def TLt (a b : Tr) : Prop := a.1 < b.1 ∨ (a.1 = b.1 ∧ (a.2.1 < b.2.1 ∨ (a.2.1 = b.2.1 ∧ a.2.2 < b.2.2)))
theorem TLt.irr (a : Tr) : ¬ TLt a a := fun h => by unfold TLt at h; omega
theorem TLt.asym (a b : Tr) : TLt a b → ¬ TLt b a := fun h k => by unfold TLt at h k; omega
theorem pw_flat {α β : Type} {r : β → β → Prop} {lt : α → α → Prop} {f : α → List β} : ∀ {xs : List α}, xs.Pairwise lt → (∀ x ∈ xs, (f x).Pairwise r) → (∀ x y, lt x y → ∀ a ∈ f x, ∀ b ∈ f y, r a b) → (xs.flatMap f).Pairwise r
  | [], _, _, _ => by simp
  | x :: xs, h, h1, h2 => by
    rw [List.pairwise_cons] at h
    rw [List.flatMap_cons, List.pairwise_append]
    refine ⟨h1 x (by simp), pw_flat h.2 (fun y hy => h1 y (by simp [hy])) h2, fun a ha b hb => ?_⟩
    obtain ⟨y, hy, hb⟩ := List.mem_flatMap.mp hb
    exact h2 x y (h.1 y hy) a ha b hb
theorem range_pw (n : Nat) : (List.range n).Pairwise (· < ·) := List.pairwise_lt_range
theorem range'_pw (a n : Nat) : (List.range' a n).Pairwise (· < ·) := List.pairwise_lt_range'
theorem mem_midT {sk : List It} {j f : Nat} {t : Tr} (h : t ∈ midT sk j f) : t.1 = j ∧ t.2.1 = f := by
  unfold midT innT at h
  split at h
  · obtain ⟨o, _, h⟩ := List.mem_flatMap.mp h
    split at h
    · rw [List.mem_singleton] at h; subst h; exact ⟨rfl, rfl⟩
    · cases h
  · cases h
theorem mem_outT {sk : List It} {j : Nat} {t : Tr} (h : t ∈ outT sk j) : t.1 = j := by
  unfold outT at h
  obtain ⟨f, _, h⟩ := List.mem_flatMap.mp h
  exact (mem_midT h).1
theorem possT_pw (sk : List It) : (possT sk).Pairwise TLt := by
  unfold possT
  refine pw_flat (lt := (· < ·)) ((range_pw _).filter _) (fun j _ => ?_) fun x y h a ha b hb => ?_
  · unfold outT
    refine pw_flat (lt := (· < ·)) (range'_pw _ _) (fun f _ => ?_) fun x y h a ha b hb => ?_
    · unfold midT
      split
      · refine pw_flat (lt := (· < ·)) (range_pw _) (fun o _ => ?_) fun x y h a ha b hb => ?_
        · unfold innT; split <;> simp
        · unfold innT at ha hb
          split at ha
          · split at hb
            · rw [List.mem_singleton] at ha hb; subst ha; subst hb; exact .inr ⟨rfl, .inr ⟨rfl, h⟩⟩
            · cases hb
          · cases ha
      · simp
    · have := mem_midT ha; have := mem_midT hb
      exact .inr ⟨by omega, .inl (by omega)⟩
  · have := mem_outT ha; have := mem_outT hb
    exact .inl (by omega)
theorem trisT_pw (sk : List It) : (trisT sk).Pairwise TLt := (possT_pw sk).filter _
theorem tlt_lex {a b : Tr} (h : TLt a b) : HT.lexLt (tI3 b) (tI3 a) = false := by
  obtain ⟨a1, a2, a3⟩ := a
  obtain ⟨b1, b2, b3⟩ := b
  unfold TLt at h
  unfold tI3
  simp only at h ⊢
  simp only [HT.lexLt]
  split
  · split
    · split
      · rfl
      · exact decide_eq_false (by omega)
    · exact decide_eq_false (by omega)
  · exact decide_eq_false (by omega)
theorem flat_len0 {α β : Type} (f : α → List β) (m n : Nat) (xs : List α) (hm : xs.length ≤ m) (h : ∀ x ∈ xs, (f x).length ≤ n) : (xs.flatMap f).length ≤ m * n := by
  have key : ∀ ys : List α, (∀ x ∈ ys, (f x).length ≤ n) → (ys.flatMap f).length ≤ ys.length * n := by
    intro ys
    induction ys with
    | nil => intro _; simp
    | cons y ys ih =>
      intro h
      rw [List.flatMap_cons, List.length_append, List.length_cons, Nat.succ_mul]
      have := h y (by simp)
      have := ih fun z hz => h z (by simp [hz])
      omega
  exact Nat.le_trans (key xs h) (Nat.mul_le_mul_right _ hm)
theorem low_le {sk : List It} (hs : Sk0 sk) {j : Nat} (hj : jmpAt sk j = true) : lowN sk j < sk.length ∧ highN sk j < sk.length := by
  have := jmpAt_lt hj; have := goal_lt hs hj
  unfold lowN highN; omega
theorem outT_len {sk : List It} (hs : Sk0 sk) {n j : Nat} (hn : sk.length ≤ n) (hj : jmpAt sk j = true) : (outT sk j).length ≤ n * n := by
  have := low_le hs hj
  unfold outT
  refine flat_len0 _ n n _ (by rw [List.length_range']; omega) fun f _ => ?_
  unfold midT
  split
  · rw [show n = n * 1 from by omega]
    refine flat_len0 _ n 1 _ (by rw [List.length_range]; omega) fun o _ => ?_
    unfold innT; split <;> simp
  · simp
theorem possT_len {sk : List It} (hs : Sk0 sk) {n : Nat} (hn : sk.length ≤ n) : (possT sk).length ≤ n * (n * n) :=
  flat_len0 _ n (n * n) _ (Nat.le_trans jps_len hn) fun j hj => outT_len hs hn (mem_jps.mp hj)
theorem trisT_len {sk : List It} (hs : Sk0 sk) {n : Nat} (hn : sk.length ≤ n) : (trisT sk).length ≤ n * (n * n) := Nat.le_trans (List.length_filter_le _ _) (possT_len hs hn)
def firstW : List Tr → W
  | [] => .non
  | t :: _ => tW t
theorem flat_one0 {α β : Type} (f : α → β) (xs : List α) : (xs.flatMap fun x => [f x]) = xs.map f := by
  induction xs with
  | nil => rfl
  | cons x xs ih => rw [List.flatMap_cons, ih]; rfl
end NS
/- part AH -/
set_option maxHeartbeats 1000000
namespace NS
open PySem PySem.Spec PyProof.Rows L2 PL

/-! ### lists without items, sums of tuples, rows of ints -/
theorem eq_lnil {G : Cells} {n m : Nat} {ws : List W} (h : G[n]? = some (.lst ws)) (h' : G[m]? = some (.lst [])) (hd : ∀ w ∈ ws, Dt w) : eqOp G (.ref n) (.ref m) = .ok (.bl ws.isEmpty) G := by
  obtain ⟨ds, k1, k2, k3, k4⟩ := dt_all hd
  have e1 : dat G 60 (.ref n) = some (.list ds) := da_lst h (k1 G)
  have e2 : dat G 60 (.ref m) = some (.list []) := da_lst h' rfl
  have s1 : SeqAt.shaped (.list ds) = true := by
    simp only [SeqAt.shaped, PyData.canLay0, PyData.depth, k3, Bool.true_and, decide_eq_true_eq]; exact decide_eq_true (by omega)
  have s2 : SeqAt.shaped (.list []) = true := by decide
  have h0 : eqS (.ref n) (.ref m) = none := rfl
  unfold eqOp eqW
  simp only [h0, e1, e2, s1, s2, Bool.and_self, if_true]
  cases ws with
  | nil => obtain rfl : ds = [] := List.length_eq_zero_iff.mp k2; simp [PyData.eqv, PyData.eqvAll]
  | cons w ws =>
    cases ds with
    | nil => simp at k2
    | cons d ds => simp [PyData.eqv, PyData.eqvAll]
theorem ev_eqNil {b : Bs} {Γ : TEnv} {c : Nat} {m : ME} {ws : List W} (h : Er b Γ m (dL (tEq ws)) c) (hd : ∀ w ∈ ws, Dt w) : Ev b Γ (mBin eqOp m (mLst mNil)) (.val (tEq (.bl ws.isEmpty))) (c + 0) :=
  ev_binR (U := tLs (tEq [])) h (ev_nv (ev_one eq_nil)) fun S G n x y hc q hy => by
    obtain ⟨us, rfl, q⟩ := q
    obtain rfl : us = ws := q
    obtain ⟨k, z, rfl, _, hg, vs, rfl, e⟩ := hy
    obtain rfl : vs = [] := e
    rw [eq_lnil hc hg hd]; exact ⟨Fr.refl, rfl⟩
theorem fm_nat (xs : List Nat) (q : Nat → Bool) : xs.filterMap (fun n => if q n = true then some (nW n) else none) = (xs.filter q).map nW := by
  induction xs with
  | nil => rfl
  | cons t ts ih =>
    rw [List.filterMap_cons, List.filter_cons]
    by_cases h : q t = true
    · simp only [h, if_true, List.map_cons, ih]
    · simp only [h, if_false, ih]; rfl
section
variable {b : Bs} {Γ : TEnv} {c c1 c2 : Nat}
theorem ev_listT {m : ME} {xs : List W} (h : Ev b Γ m (.val (tEq (.tup xs))) c) : Ev b Γ (mCall listW (mCons m mNil)) (.new (dL (tEq xs))) c := fun n S E G hn e => by
  rw [s_call, s_cons]
  refine (h n S E G hn e).mono fun w G1 q => ?_
  obtain ⟨i1, f1, rfl⟩ := q
  refine ⟨b.I.up (Nat.le_refl _) (b.I.nil Fr.push i1), f1.trans Fr.push, G1.length, _, rfl, f1.1, push_get _ _, _, rfl, rfl⟩
theorem ev_maxT {m : ME} {is : List Int} (hn : is ≠ []) (h : Ev b Γ m (.val (tEq (.tup (is.map W.int)))) c) : Ev b Γ (mCall maxU (mCons m mNil)) (.val (tEq (.int (maxI is)))) (c + 0) := by
  cases is with
  | nil => exact absurd rfl hn
  | cons i is => exact ev_call (eq_cons (h) eq_nil) fun G => e_maxT
theorem ev_first {m : ME} {ts : List Tr} (h : Ev b Γ m (.val (tEq (firstW ts))) c) : Ev b Γ (mBin (isW false) m (mC .non)) (.val (tEq (.bl ts.isEmpty))) (c + 0) := ev_bin h (ev_c _) fun G => by cases ts <;> rfl
theorem ev_firstN {m : ME} {ts : List Tr} (h : Ev b Γ m (.val (tEq (firstW ts))) c) : Ev b Γ (mBin (isW true) m (mC .non)) (.val (tEq (.bl (!ts.isEmpty)))) (c + 0) := ev_bin h (ev_c _) fun G => by cases ts <;> rfl
end
theorem en_nat (xs : List Nat) : enW (xs.map nW) = (List.range xs.length).map fun i => .tup [nW i, nW ((xs[i]?).getD 0)] := by
  refine List.ext_getElem? fun i => ?_
  rw [enW_get, List.getElem?_map, List.getElem?_map]
  by_cases h : i < xs.length
  · rw [List.getElem?_eq_getElem h, List.getElem?_range h]
    simp only [Option.map_some]
    rw [List.getElem?_eq_getElem h]; rfl
  · rw [List.getElem?_eq_none_iff.mpr (by omega), List.getElem?_eq_none_iff.mpr (by simp; omega)]; rfl
theorem cut_last1 (xs : List W) : cutW xs (some (-1)) none = xs.drop (xs.length - 1) := by
  unfold cutW
  have h1 : HT.sIx xs.length 0 (some (-1)) = xs.length - 1 := by
    show (if (-1 : Int) < 0 then ((-1 : Int) + (xs.length : Int)).toNat else min (-1 : Int).toNat xs.length) = _
    rw [if_pos (by decide)]; omega
  have h2 : HT.sIx xs.length xs.length none = xs.length := rfl
  rw [h1, h2, List.take_of_length_le (by simp)]
theorem ev_addTp {b : Bs} {Γ : TEnv} {c1 c2 : Nat} {m m' : ME} {xs ys : List W} (h : Ev b Γ m (.val (tEq (.tup xs))) c1) (h' : Ev b Γ m' (.val (tEq (.tup ys))) c2) (hl : xs.length + ys.length ≤ 100000) : Ev b Γ (mBin addW m m') (.val (tEq (.tup (xs ++ ys)))) (c1 + c2) := ev_bin h h' fun G => e_addT hl
theorem ne_lnil {b : Bs} {Γ : TEnv} {c : Nat} {m : ME} {ws : List W} (h : Er b Γ m (dL (tEq ws)) c) (hd : ∀ w ∈ ws, Dt w) : Ev b Γ (mBin neOp m (mLst mNil)) (.val (tEq (.bl (!ws.isEmpty)))) (c + 0) :=
  ev_binR (U := tLs (tEq [])) h (ev_nv (ev_one eq_nil)) fun S G n x y hc q hy => by
    obtain ⟨us, rfl, q⟩ := q
    obtain rfl : us = ws := q
    obtain ⟨k, z, rfl, _, hg, vs, rfl, e⟩ := hy
    obtain rfl : vs = [] := e
    rw [ne_data hc hg hd]; exact ⟨Fr.refl, rfl⟩
theorem eqv_ints : ∀ xs ys : List Int, PyData.eqvAll (xs.map PyData.int) (ys.map PyData.int) = decide (xs = ys)
  | [], [] => rfl
  | [], y :: ys => rfl
  | x :: xs, [] => rfl
  | x :: xs, y :: ys => by
    have ih := eqv_ints xs ys
    simp only [List.map_cons, PyData.eqvAll, PyData.eqv, ih]
    by_cases h : x = y <;> by_cases k : xs = ys <;> simp [h, k]
theorem eq_rowsT {G : Cells} (xs ys : List Int) : eqOp G (.tup (xs.map W.int)) (.tup (ys.map W.int)) = .ok (.bl (decide (xs = ys))) G := by
  have e1 : dat G 60 (.tup (xs.map W.int)) = some (.tuple (xs.map PyData.int)) := da_ints G 58 xs
  have e2 : dat G 60 (.tup (ys.map W.int)) = some (.tuple (ys.map PyData.int)) := da_ints G 58 ys
  have h0 : eqS (.tup (xs.map W.int)) (.tup (ys.map W.int)) = none := rfl
  unfold eqOp eqW
  simp only [h0, e1, e2, shaped_tints, Bool.and_self, if_true]
  congr 2
  simp only [PyData.eqv, eqv_ints]
theorem int_dt (i : Int) : Dt (.int i) := ⟨.int i, fun _ => rfl, rfl, by simp only [PyData.depth]; decide⟩
theorem ne_rowsT {G : Cells} (xs ys : List Int) : neOp G (.tup (xs.map W.int)) (.tup (ys.map W.int)) = .ok (.bl (!decide (xs = ys))) G := by
  have e1 : dat G 60 (.tup (xs.map W.int)) = some (.tuple (xs.map PyData.int)) := da_ints G 58 xs
  have e2 : dat G 60 (.tup (ys.map W.int)) = some (.tuple (ys.map PyData.int)) := da_ints G 58 ys
  have q : neOp G (.tup (xs.map W.int)) (.tup (ys.map W.int)) = (match dat G 60 (.tup (xs.map W.int)), dat G 60 (.tup (ys.map W.int)) with
    | some d, some e => if SeqAt.shaped d && SeqAt.shaped e then .ok (.bl (!PyData.eqv d e)) G else .no
    | _, _ => .no) := rfl
  rw [q, e1, e2]
  simp only [shaped_tints, Bool.and_self, if_true]
  congr 2
  simp only [PyData.eqv, eqv_ints]
theorem en_its (sk : List It) : enW (sk.map It.w) = (List.range sk.length).map fun i => .tup [nW i, ((sk[i]?).getD .lab).w] := by
  refine List.ext_getElem? fun i => ?_
  rw [enW_get, List.getElem?_map, List.getElem?_map]
  by_cases h : i < sk.length
  · rw [List.getElem?_eq_getElem h, List.getElem?_range h]
    simp only [Option.map_some]
    rw [List.getElem?_eq_getElem h]; rfl
  · rw [List.getElem?_eq_none_iff.mpr (by omega), List.getElem?_eq_none_iff.mpr (by simp; omega)]; rfl
def fls (sk : List It) : List Nat := (List.range sk.length).filter (filAt sk)
theorem mem_fls {sk : List It} {p : Nat} : p ∈ fls sk ↔ filAt sk p = true := by
  unfold fls
  rw [List.mem_filter, List.mem_range]
  exact ⟨fun h => h.2, fun h => ⟨filAt_lt h, h⟩⟩
theorem fls_len {sk : List It} : (fls sk).length ≤ sk.length := Nat.le_trans (List.length_filter_le _ _) (by simp)
theorem fn_ex1 {α : Type} {s : Smp} {F : PF} {p : α → Prop} {A Rf : α → Tp W} {T0 T2 : Tp W} {c : Nat} (h : ∀ x, p x → Fn s F (cN [T0, A x, T2]) (.val (Rf x)) c) : Fn s F (cN [T0, tXp p A, T2]) (.val (tXp p Rf)) c := fun n Sp G ws hn hS hl hI hw => by
  match ws, hw with
  | [a, b, c], hw =>
    obtain ⟨h0, ⟨x, hx, h1⟩, h2, _⟩ := hw
    exact (h x hx n Sp G [a, b, c] hn hS hl hI ⟨h0, h1, h2, trivial⟩).mono fun w G' q => ⟨q.1, q.2.1, x, hx, q.2.2⟩
theorem noOwn_all {Γ : TEnv} (h : ∀ s ∈ Γ, ∀ D, s ≠ .own D) : NoOwn Γ := fun i D e => h _ (List.mem_of_getElem? e) D rfl
theorem kF {b : Bs} {Γ : TEnv} {m : ME} {it : It} {c : Nat} (h : Ev b Γ m (.val (tEq it.w)) c) : Et b Γ (mTest (mBin eqOp (mBin getW m (mC (.int 0))) (mC (.str "fill")))) (it.isF = true) (it.isF = false) (c + 0 + 0) := et_test (ev_bin (ev_bin h (ev_c _) fun G => w_0 it G) (ev_c _) fun G => kind_F it G)
theorem kJ {b : Bs} {Γ : TEnv} {m : ME} {it : It} {c : Nat} (h : Ev b Γ m (.val (tEq it.w)) c) : Et b Γ (mTest (mBin eqOp (mBin getW m (mC (.int 0))) (mC (.str "jump")))) (it.isJ = true) (it.isJ = false) (c + 0 + 0) := et_test (ev_bin (ev_bin h (ev_c _) fun G => w_0 it G) (ev_c _) fun G => kind_J it G)
section
variable {b : Bs} {Γ : TEnv} {c c1 c2 : Nat} {R : RT} {N : Nat → PEnv → Cells → Prop}
theorem es_asgGX {α : Type} {p : α → Prop} {A : α → Tp W} {m : ME} {g : MG} {m' : MS} {Γ' : α → TEnv} (h : Ev b Γ m (.val (tXp p A)) c1) (hg : ∀ x, p x → Eg b Γ g (A x) (Γ' x)) (k : ∀ x, p x → Es b (Γ' x) m' N R c2) : Es b Γ (sSeq (sAsg m g) m') N R (c1 + c2) := fun n S E G hn e => by
  refine so_seq ?_
  rw [t_asg]
  refine (h n S E G (by omega) e).mono fun w G1 q => ?_
  obtain ⟨i1, f1, x, hx, q⟩ := q
  refine (hg x hx (n + c1) S E G1 w (e.mv i1 f1) q).mono fun E2 G2 z => ?_
  obtain ⟨rfl, e2⟩ := z
  exact (k x hx (n + c1) S E2 G2 (by omega) e2).mono (fun E3 G3 ⟨i, q⟩ => ⟨i, by omega, q.2⟩) fun _ _ q => ⟨b.I.up (by omega) q.1, q.2⟩
/-! own lists read without giving them away -/
theorem ev_borV {i : Nat} {D : Tp Cell} {m : ME} {w : W} (hs : Γ[i]? = some (.own D)) (h : Ev b (Γ.set i (.ty (tRef D))) m (.val (tEq w)) c) : Ev b Γ m (.val (tEq w)) c := fun n S E G hn e => by
  obtain ⟨S', _, e'⟩ := e.rel hs
  exact (h n S' E G hn e').mono fun x G1 q => q
theorem ev_borN {i : Nat} {D : Tp Cell} {m : ME} {ws : List W} (hs : Γ[i]? = some (.own D)) (h : Ev b (Γ.set i (.ty (tRef D))) m (.new (dL (tEq ws))) c) : Ev b Γ m (.new (dL (tEq ws))) c := fun n S E G hn e => by
  obtain ⟨S', _, e'⟩ := e.rel hs
  exact (h n S' E G hn e').mono fun x G1 q => q
theorem et_bor {i : Nat} {D : Tp Cell} {t : MT} {p q : Prop} (hs : Γ[i]? = some (.own D)) (h : Et b (Γ.set i (.ty (tRef D))) t p q c) : Et b Γ t p q c := fun n S E G hn e => by
  obtain ⟨S', _, e'⟩ := e.rel hs
  exact h n S' E G hn e'
end
abbrev chW (c : List Int) : W := .tup (c.map W.int)
theorem tup_dt (c : List Int) : Dt (chW c) := ⟨.tuple (c.map PyData.int), fun G => da_ints G 57 c, by simp only [PyData.canLay0]; exact (shaped_all c).1, by simp only [PyData.depth]; rw [(shaped_all c).2]; decide⟩
theorem ne_bl2 (G : Cells) (x y : Bool) : neOp G (.bl x) (.bl y) = .ok (.bl (!decide (x = y))) G := by cases x <;> cases y <;> rfl
theorem eq_bl3 (G : Cells) (x y : Bool) : eqOp G (.bl x) (.bl y) = .ok (.bl (decide (x = y))) G := by cases x <;> cases y <;> rfl
/-! a tuple of ints in a list of such ones -/
theorem any_tups (cs : List (List Int)) (c : List Int) : ((cs.map fun c => PyData.tuple (c.map PyData.int)).any fun z => PyData.eqv z (.tuple (c.map PyData.int))) = decide (c ∈ cs) := by
  induction cs with
  | nil => simp
  | cons x cs ih =>
    rw [List.map_cons, List.any_cons, ih]
    have : PyData.eqv (.tuple (x.map PyData.int)) (.tuple (c.map PyData.int)) = decide (x = c) := by simp only [PyData.eqv, eqv_ints]
    rw [this]
    by_cases h : x = c
    · simp [h]
    · have h2 : ¬ c = x := fun z => h z.symm
      simp [h, h2]
theorem in_tups {G : Cells} {n : Nat} {cs : List (List Int)} (neg : Bool) (h : G[n]? = some (.lst (cs.map chW))) (c : List Int) : inW neg G (chW c) (.ref n) = .ok (.bl (if neg = true then !decide (c ∈ cs) else decide (c ∈ cs))) G := by
  have q : inW neg G (chW c) (.ref n) = (match dat G 60 (chW c), dat G 60 (.ref n) with
    | some d, some e => (match itemsD e with
      | some xs => if SeqAt.shaped d && SeqAt.shaped e then .ok (.bl (if neg = true then !xs.any fun z => PyData.eqv z d else xs.any fun z => PyData.eqv z d)) G else .no
      | none => .no)
    | _, _ => .no) := rfl
  have d0 : dat G 60 (chW c) = some (.tuple (c.map PyData.int)) := da_ints G 58 c
  have d1 : dat G 60 (.ref n) = some (.list (cs.map fun c => PyData.tuple (c.map PyData.int))) := da_lst h (mo_map fun c _ => da_ints G 57 c)
  have s0 : SeqAt.shaped (.tuple (c.map PyData.int)) = true := shaped_tints c
  have s1 : SeqAt.shaped (.list (cs.map fun c => PyData.tuple (c.map PyData.int))) = true := by
    obtain ⟨ds, k1, k2, k3, k4⟩ := dt_all (ws := cs.map chW) fun w hw => by obtain ⟨c, _, rfl⟩ := List.mem_map.mp hw; exact tup_dt c
    have e : ds = cs.map fun c => PyData.tuple (c.map PyData.int) := Option.some.inj ((k1 G).symm.trans (mo_map fun c _ => da_ints G 57 c))
    rw [← e]
    simp only [SeqAt.shaped, PyData.canLay0, PyData.depth, k3, Bool.true_and, decide_eq_true_eq]; exact decide_eq_true (by omega)
  rw [q, d0, d1]
  simp only [itemsD, s0, s1, any_tups, Bool.and_self, if_true]
theorem ev_inTups {b : Bs} {Γ : TEnv} {m m' : ME} {c1 c2 : Nat} {c : List Int} {cs : List (List Int)} (h : Ev b Γ m (.val (tEq (chW c))) c1) (h' : Ev b Γ m' (.val (tLs (tEq (cs.map chW)))) c2) : Ev b Γ (mBin (inW false) m m') (.val (tEq (.bl (decide (c ∈ cs))))) (c1 + c2) :=
  ev_binT h h' fun S G x y hx hy => by
    obtain rfl : x = chW c := hx
    obtain ⟨n, z, rfl, _, hg, us, rfl, hu⟩ := hy
    obtain rfl : us = cs.map chW := hu
    rw [in_tups false hg]; exact ⟨Fr.refl, rfl⟩
/-- the first so many of a list of known length -/
theorem ev_cutK {b : Bs} {Γ : TEnv} {m : ME} {T : Tp W} {c1 k n : Nat} (hk : k ≤ n) (h : Er b Γ m (dL (cAll T n n)) c1) : Ev b Γ (mCut m mNoPart (mPart (mC (.int (k : Int))))) (.new (dL (cAll T k k))) (c1 + 0) := fun n' S E G hn e => by
  rw [s_cut]
  refine (h n' S E G (by omega) e).mono fun w G1 q => ?_
  obtain ⟨i1, f1, z, x, rfl, hc, ⟨ws, rfl, q1, q2, q3⟩, n0⟩ := q
  rw [s_nopart, s_part]
  refine (ev_c (b := b) (Γ := Γ) (.int (k : Int)) _ S E G1 (by omega) (e.mv i1 f1)).mono fun y G2 q => ?_
  obtain ⟨i2, f2, rfl⟩ := q
  have hc2 := f2.get hc n0
  refine ⟨_, rfl, ?_⟩
  rw [e_cutL hc2, cut_to]
  refine ⟨b.I.up (by omega) (b.I.nil Fr.push i2), (f1.trans f2).trans Fr.push, G2.length, _, rfl, by have := f1.1; have := f2.1; omega, push_get _ _, _, rfl, by rw [List.length_take]; omega, by rw [List.length_take]; omega, fun w hw => ?_⟩
  exact T.mono Fr.push (T.wid (Nat.le_refl _) (T.mono (f2.sub e.s0) (q3 w (List.mem_of_mem_take hw))))
end NS
/- part Z1 -/
set_option maxHeartbeats 1000000
namespace NS
open PySem PySem.Spec PyProof.Rows L2 PL

/-! ### what one jump more that is long shifts -/
theorem low_notF {sk : List It} (hS : Skel sk) {j : Nat} (hj : jmpAt sk j = true) : filAt sk (lowN sk j) = false ∧ filAt sk (highN sk j) = false := by
  obtain ⟨s, l, e⟩ := jmp_get hS.z hj
  obtain ⟨_, hg, _⟩ := hS.items _ (List.mem_of_getElem? e)
  rw [Int.toNat_natCast] at hg
  have a : filAt sk j = false := by unfold filAt; rw [e]; rfl
  have b : filAt sk (goalOf sk j) = false := by unfold filAt; rw [hg]; rfl
  unfold lowN highN
  refine ⟨?_, ?_⟩
  · rcases Nat.le_total j (goalOf sk j) with h | h
    · rw [Nat.min_eq_left h]; exact a
    · rw [Nat.min_eq_right h]; exact b
  · rcases Nat.le_total j (goalOf sk j) with h | h
    · rw [Nat.max_eq_right h]; exact b
    · rw [Nat.max_eq_left h]; exact a
theorem goal_notJ {sk : List It} (hS : Skel sk) {j : Nat} (hj : jmpAt sk j = true) : sk[goalOf sk j]? = some .lab := by
  obtain ⟨s, l, e⟩ := jmp_get hS.z hj
  obtain ⟨_, hg, _⟩ := hS.items _ (List.mem_of_getElem? e)
  rw [Int.toNat_natCast] at hg; exact hg
theorem sz_ok {sk : List It} (hs : Sk0 sk) {q : Nat} (h : filAt sk q = true) : fillOk (szAt sk q) := by
  obtain ⟨a, e⟩ := filAt_iff.mp h
  have : szAt sk q = a := by unfold szAt; rw [e]; rfl
  rw [this]; exact hs.fil q a e
theorem fil_get {sk : List It} {q : Nat} (h : filAt sk q = true) : sk[q]? = some (.fil (szAt sk q)) := by
  obtain ⟨a, e⟩ := filAt_iff.mp h
  rw [e]; congr 2; unfold szAt; rw [e]; rfl
theorem fill_dv {a m x : Int} (ha : fillOk a) (hm : fillOk m) (h : a ≤ m) (hx : x % m = 0) : x % a = 0 := by
  unfold fillOk at ha hm
  rcases ha with rfl | rfl | rfl | rfl | rfl | rfl <;> rcases hm with rfl | rfl | rfl | rfl | rfl | rfl <;> omega
/-- o is long by ch', not by ch; all else is alike -/
structure One (ch ch' : List Int) (o : Nat) : Prop where
  nin : (o : Int) ∉ ch
  iff : ∀ i, i ∈ ch' ↔ i ∈ ch ∨ i = (o : Int)
theorem One.long {ch ch' : List Int} {o q : Nat} (h : One ch ch' o) (hq : q ≠ o) : isLong ch' q = isLong ch q := by
  unfold isLong
  refine decide_eq_decide.mpr ?_
  rw [h.iff]
  exact ⟨fun z => z.elim id fun z => absurd (by omega) hq, .inl⟩
theorem One.longO {ch ch' : List Int} {o : Nat} (h : One ch ch' o) : isLong ch' o = true ∧ isLong ch o = false := by
  unfold isLong
  exact ⟨decide_eq_true ((h.iff _).mpr (.inr rfl)), decide_eq_false h.nin⟩
def Df (sk : List It) (ln ch ch' : List Int) (q : Nat) : Int := En sk ln ch' q - En sk ln ch q
section
variable {sk : List It} {ln ch ch' : List Int} {o : Nat}
theorem Df_bg (q : Nat) : Bg sk ln ch' q - Bg sk ln ch q = Df sk ln ch ch' q := by unfold Bg Df; omega
theorem Df_step (h : One ch ch' o) {q : Nat} (hf : filAt sk q = false) (hq : q ≠ o) : Df sk ln ch ch' (q + 1) = Df sk ln ch ch' q := by
  cases hit : sk[q]? with
  | none => unfold Df; rw [En, En]; simp only [hit]
  | some it =>
    have b := Df_bg (sk := sk) (ln := ln) (ch := ch) (ch' := ch') q
    unfold Df at b ⊢
    rw [En_succ hit, En_succ hit, h.long hq]
    cases it with
    | lab => simp only [ownB]; omega
    | fil a => unfold filAt at hf; rw [hit] at hf; cases hf
    | jmp g s l => simp only [ownB]; omega
theorem Df_fill (hs : Sk0 sk) {q : Nat} (hf : filAt sk q = true) : (Df sk ln ch ch' q % szAt sk q = 0 → Df sk ln ch ch' (q + 1) = Df sk ln ch ch' q) ∧ Df sk ln ch ch' (q + 1) % szAt sk q = 0 ∧ (0 ≤ Df sk ln ch ch' q → 0 ≤ Df sk ln ch ch' (q + 1)) := by
  have ha := sz_ok hs hf
  have hit := fil_get hf
  have b := Df_bg (sk := sk) (ln := ln) (ch := ch) (ch' := ch') q
  unfold Df at b ⊢
  rw [En_succ hit, En_succ hit]
  simp only [ownB]
  generalize szAt sk q = a at *
  generalize Bg sk ln ch' q = x at *
  generalize Bg sk ln ch q = y at *
  rw [← b]
  unfold fillOk at ha
  rcases ha with rfl | rfl | rfl | rfl | rfl | rfl <;> refine ⟨fun _ => ?_, ?_, fun _ => ?_⟩ <;> omega
theorem Df_zero (h : One ch ch' o) : ∀ q, q ≤ o → Df sk ln ch ch' q = 0
  | 0, _ => by unfold Df; rw [En, En]; rfl
  | q + 1, hq => by
    have ih := Df_zero h q (by omega)
    cases hit : sk[q]? with
    | none => unfold Df at ih ⊢; rw [En, En]; simp only [hit]; exact ih
    | some it =>
      have b := Df_bg (sk := sk) (ln := ln) (ch := ch) (ch' := ch') q
      rw [ih] at b
      have : Bg sk ln ch' q = Bg sk ln ch q := by omega
      unfold Df
      rw [En_succ hit, En_succ hit, h.long (by omega), this]; omega
theorem Df_o (h : One ch ch' o) (ho : jmpAt sk o = true) : Df sk ln ch ch' (o + 1) = grAt sk o := by
  obtain ⟨g, s, l, e⟩ := jmpAt_iff.mp ho
  have b := Df_bg (sk := sk) (ln := ln) (ch := ch) (ch' := ch') o
  rw [Df_zero h o (Nat.le_refl _)] at b
  have hg : grAt sk o = l - s := by unfold grAt; rw [e]; rfl
  unfold Df
  rw [En_succ e, En_succ e, h.longO.1, h.longO.2, hg]
  simp only [ownB, if_true, Bool.false_eq_true, if_false]; omega
theorem Df_mul (hs : Sk0 sk) (h : One ch ch' o) : ∀ q k, o < k → k < q → filAt sk k = true → Df sk ln ch ch' q % szAt sk k = 0
  | 0, k, _, hk, _ => by omega
  | q + 1, k, hok, hk, hf => by
    have hak := sz_ok hs hf
    by_cases e : k = q
    · subst e; exact (Df_fill hs hf).2.1
    · have ih := Df_mul hs h q k hok (by omega) hf
      cases hq : filAt sk q with
      | false => rw [Df_step h hq (by omega)]; exact ih
      | true =>
        have haq := sz_ok hs hq
        obtain ⟨f1, f2, _⟩ := Df_fill (ln := ln) (ch := ch) (ch' := ch') hs hq
        rcases Int.le_total (szAt sk q) (szAt sk k) with z | z
        · rw [f1 (fill_dv haq hak z ih)]; exact ih
        · exact fill_dv hak haq z f2
theorem Df_even (hs : Sk0 sk) (h : One ch ch' o) (ho : jmpAt sk o = true) {b : Int} (hb : fillOk b) (hg : grAt sk o % b = 0) : ∀ q, o < q → (∀ k, o < k → k < q → filAt sk k = true → szAt sk k ≤ b) → Df sk ln ch ch' q = grAt sk o
  | 0, hq, _ => by omega
  | q + 1, hq, hk => by
    by_cases e : q = o
    · subst e; exact Df_o h ho
    · have ih := Df_even hs h ho hb hg q (by omega) fun k h1 h2 h3 => hk k h1 (by omega) h3
      cases hf : filAt sk q with
      | false => rw [Df_step h hf (by omega)]; exact ih
      | true =>
        rw [(Df_fill hs hf).1, ih]
        rw [ih]; exact fill_dv (sz_ok hs hf) hb (hk q (by omega) (by omega) hf) hg
theorem Df_pos (hs : Sk0 sk) (h : One ch ch' o) (ho : jmpAt sk o = true) (hg : 0 ≤ grAt sk o) : ∀ q, 0 ≤ Df sk ln ch ch' q
  | 0 => by rw [Df_zero h 0 (by omega)]; omega
  | q + 1 => by
    have ih := Df_pos hs h ho hg q
    by_cases e : q = o
    · subst e; rw [Df_o h ho]; exact hg
    · cases hf : filAt sk q with
      | false => rw [Df_step h hf e]; exact ih
      | true => exact (Df_fill hs hf).2.2 ih
/-- in a steady skeleton's way nothing changes by a jump ahead -/
theorem Df_steady (hs : Sk0 sk) (h : One ch ch' o) (ho : jmpAt sk o = true) {j : Nat} (hj : jmpAt sk j = true) (hol : o < lowN sk j) (hst : ∀ f, ¬ Loose sk j f o) : ∀ q, lowN sk j < q → q ≤ highN sk j → Df sk ln ch ch' q = Df sk ln ch ch' (lowN sk j + 1)
  | 0, hq, _ => by omega
  | q + 1, hq, hq2 => by
    by_cases e : q = lowN sk j
    · rw [e]
    · have ih := Df_steady hs h ho hj hol hst q (by omega) (by omega)
      cases hf : filAt sk q with
      | false => rw [Df_step h hf (by omega)]; exact ih
      | true =>
        refine (Eq.trans ((Df_fill hs hf).1 ?_) ih)
        have haq := sz_ok hs hf
        by_cases hh : hidN sk q o = true
        · obtain ⟨k, k1, k2, k3, k4⟩ := (hidN_iff (Nat.le_of_lt (filAt_lt hf))).mp hh
          exact fill_dv haq (sz_ok hs k3) k4 (Df_mul hs h q k k1 k2 k3)
        · have hg : grAt sk o % szAt sk q = 0 := Decidable.byContradiction fun z => hst q ⟨hj, by omega, by omega, hf, hol, ho, by simpa using hh, z⟩
          have : Df sk ln ch ch' q = grAt sk o := Df_even hs h ho haq hg q (by omega) fun k h1 h2 h3 => Int.not_lt.mp fun z => hh ((hidN_iff (Nat.le_of_lt (filAt_lt hf))).mpr ⟨k, h1, h2, h3, by omega⟩)
          rw [this]; exact hg
/-- by how much a way changes -/
theorem way_df (hS : Skel sk) (h : One ch ch' o) {j : Nat} (hj : jmpAt sk j = true) (hoj : o ≠ j) (ho : jmpAt sk o = true) : wayN sk ln ch' j (goalOf sk j) - wayN sk ln ch j (goalOf sk j) = Df sk ln ch ch' (highN sk j) - Df sk ln ch ch' (lowN sk j) := by
  have hgl := goal_notJ hS hj
  have nf := low_notF hS hj
  have hne : goalOf sk j ≠ j := fun z => by
    obtain ⟨s, l, e⟩ := jmp_get hS.z hj
    rw [z, e] at hgl; cases hgl
  have hog : o ≠ goalOf sk j := fun z => by
    obtain ⟨g, s, l, e⟩ := jmpAt_iff.mp ho
    rw [z, hgl] at e; cases e
  have s1 := Df_step (ln := ln) h nf.1 (q := lowN sk j) (by unfold lowN; rcases Nat.le_total j (goalOf sk j) with z | z <;> omega)
  have s2 := Df_step (ln := ln) h nf.2 (q := highN sk j) (by unfold highN; rcases Nat.le_total j (goalOf sk j) with z | z <;> omega)
  unfold wayN
  unfold lowN highN at *
  by_cases hlt : j < goalOf sk j
  · rw [Nat.min_eq_left (by omega)] at *
    rw [Nat.max_eq_right (by omega)] at *
    have b := Df_bg (sk := sk) (ln := ln) (ch := ch) (ch' := ch') (goalOf sk j)
    rw [if_pos hlt, if_pos hlt]
    unfold Df at *
    omega
  · rw [Nat.min_eq_right (by omega)] at *
    rw [Nat.max_eq_left (by omega)] at *
    have b := Df_bg (sk := sk) (ln := ln) (ch := ch) (ch' := ch') (goalOf sk j)
    rw [if_neg hlt, if_neg hlt]
    unfold Df at *
    omega
theorem gr_pos (hS : Skel sk) (ho : jmpAt sk o = true) : 0 < grAt sk o := by
  obtain ⟨g, s, l, e⟩ := jmpAt_iff.mp ho
  obtain ⟨_, _, h1, h2, h3⟩ := hS.items _ (List.mem_of_getElem? e)
  have hg : grAt sk o = l - s := by unfold grAt; rw [e]; rfl
  omega
/-- no way gets shorter by one more -/
theorem way_up1 (hS : Skel sk) (hst : trisT sk = []) (h : One ch ch' o) {j : Nat} (hj : jmpAt sk j = true) (hoj : o ≠ j) (ho : jmpAt sk o = true) : wayN sk ln ch j (goalOf sk j) ≤ wayN sk ln ch' j (goalOf sk j) := by
  have hs := hS.z
  have d := way_df (ln := ln) hS h hj hoj ho
  have hgl := goal_notJ hS hj
  have nf := low_notF hS hj
  have hog : o ≠ goalOf sk j := fun z => by
    obtain ⟨g, s, l, e⟩ := jmpAt_iff.mp ho
    rw [z, hgl] at e; cases e
  have hlo : o ≠ lowN sk j := by unfold lowN; rcases Nat.le_total j (goalOf sk j) with z | z <;> omega
  have hne : goalOf sk j ≠ j := fun z => by
    obtain ⟨s, l, e⟩ := jmp_get hS.z hj
    rw [z, e] at hgl; cases hgl
  have hlh : lowN sk j < highN sk j := by unfold lowN highN; omega
  by_cases hol : o < lowN sk j
  · have := Df_steady (ln := ln) hs h ho hj hol (fun f hf => by
      have := mem_trisT.mpr hf
      rw [hst] at this; cases this) (highN sk j) hlh (Nat.le_refl _)
    rw [Df_step h nf.1 (by omega)] at this
    omega
  · have z := Df_zero (sk := sk) (ln := ln) h (lowN sk j) (by omega)
    have p := Df_pos (ln := ln) hs h ho (Int.le_of_lt (gr_pos hS ho)) (highN sk j)
    omega
end
theorem En_cg {sk : List It} {ln ch ch' : List Int} (h : ∀ i, i ∈ ch ↔ i ∈ ch') : ∀ p, En sk ln ch p = En sk ln ch' p
  | 0 => rfl
  | p + 1 => by
    have ih := En_cg (sk := sk) (ln := ln) h p
    cases hp : sk[p]? with
    | none => rw [En, En]; simp only [hp]; exact ih
    | some it =>
      have : isLong ch p = isLong ch' p := by unfold isLong; exact decide_eq_decide.mpr (h _)
      rw [En_succ hp, En_succ hp, this]; unfold Bg; rw [ih]
theorem way_cg {sk : List It} {ln ch ch' : List Int} (h : ∀ i, i ∈ ch ↔ i ∈ ch') (p g : Nat) : wayN sk ln ch p g = wayN sk ln ch' p g := by
  unfold wayN Bg; rw [En_cg h, En_cg h]
theorem jmpAt_N {sk : List It} {p : Nat} : (p : Int) ∈ jumpsN sk ↔ jmpAt sk p = true := by
  rw [jumpsN_mem, jmpAt_iff]
  constructor
  · rintro ⟨n, g, s, l, h, e⟩
    obtain rfl : p = n := by omega
    exact ⟨g, s, l, h⟩
  · rintro ⟨g, s, l, h⟩
    exact ⟨p, g, s, l, h, rfl⟩
/-- no way of a steady skeleton gets shorter by more long jumps -/
theorem way_up {sk : List It} {ln : List Int} (hS : Skel sk) (hst : trisT sk = []) {ch ch' : List Int} {j : Nat} (hj : jmpAt sk j = true) (hn : (j : Int) ∉ ch') (hc : ∀ i ∈ ch', i ∈ jumpsN sk) (hsub : ∀ i ∈ ch, i ∈ ch') : wayN sk ln ch j (goalOf sk j) ≤ wayN sk ln ch' j (goalOf sk j) := by
  have key : ∀ ds ch : List Int, (∀ i ∈ ds, i ∈ jumpsN sk ∧ i ≠ (j : Int)) → wayN sk ln ch j (goalOf sk j) ≤ wayN sk ln (ch ++ ds) j (goalOf sk j) := by
    intro ds
    induction ds with
    | nil => intro ch _; rw [List.append_nil]; exact Int.le_refl _
    | cons x ds ih =>
      intro ch hd
      have e : wayN sk ln (ch ++ x :: ds) j (goalOf sk j) = wayN sk ln ((ch ++ [x]) ++ ds) j (goalOf sk j) := by rw [List.append_assoc]; rfl
      rw [e]
      refine Int.le_trans ?_ (ih (ch ++ [x]) fun i hi => hd i (by simp [hi]))
      obtain ⟨hx, hxj⟩ := hd x (by simp)
      by_cases hm : x ∈ ch
      · rw [way_cg (ch := ch ++ [x]) (ch' := ch) fun i => by
          rw [List.mem_append, List.mem_singleton]
          exact ⟨fun z => z.elim id fun z => z ▸ hm, .inl⟩]
        exact Int.le_refl _
      · obtain ⟨n, g, s, l, hp, rfl⟩ := jumpsN_mem.mp hx
        exact way_up1 hS hst ⟨hm, fun i => by rw [List.mem_append, List.mem_singleton]⟩ hj (fun z => hxj (by omega)) (jmpAt_iff.mpr ⟨g, s, l, hp⟩)
  have := key ch' ch fun i hi => ⟨hc i hi, fun z => hn (z ▸ hi)⟩
  rw [way_cg (ch := ch ++ ch') (ch' := ch') fun i => by
    rw [List.mem_append]
    exact ⟨fun z => z.elim (hsub i) id, .inr⟩] at this
  exact this
end NS
/- part A0 -/
set_option maxHeartbeats 1000000
namespace NS
open PySem PySem.Spec PyProof.Rows L2 PL

/-! ### laying, and what is stuck: the program's own -/
def Wy (sk : List It) (ln ch : List Int) (j : Int) : Int := wayN sk ln ch j.toNat (goalOf sk j.toNat)
theorem Wy_eq {sk : List It} {ln ch : List Int} {p g : Nat} {s l : Int} (h : Jmp sk p g s l) : Wy sk ln ch (p : Int) = wayN sk ln ch p g := by
  unfold Wy; rw [Int.toNat_natCast, h.goalOf]
def stF (sk : List It) (ln ch : List Int) (p : Int × Int) : Option Int := if p.1 ∈ ch then none else if p.2 < Wy sk ln ch p.1 then some p.1 else none
def stuckN (sk : List It) (ln rs ch : List Int) : List Int := ((jumpsN sk).zip rs).filterMap (stF sk ln ch)
/-- a program's reaches -/
structure Rea (sk : List It) (rs : List Int) : Prop where
  len : rs.length = (jumpsN sk).length
abbrev prW (sk : List It) (ln rs : List Int) : W := .tup [skW sk, .tup (ln.map W.int), .tup (rs.map W.int)]
theorem zi_get {js rs : List Int} {i : Nat} {w : W} (h : (ziW (js.map W.int) (rs.map W.int))[i]? = some w) : ∃ j r, js[i]? = some j ∧ rs[i]? = some r ∧ w = .tup [.int j, .int r] := by
  obtain ⟨x, y, hx, hy, rfl⟩ := ziW_inv h
  obtain ⟨j, hj, rfl⟩ := map_at hx
  obtain ⟨r, hr, rfl⟩ := map_at hy
  exact ⟨j, r, hj, hr, rfl⟩
theorem take_fm {α β : Type} (f : α → Option β) (xs : List α) (i : Nat) (w : α) (h : xs[i]? = some w) : (xs.take (i + 1)).filterMap f = (xs.take i).filterMap f ++ (f w).toList := by
  rw [take_one h, List.filterMap_append]
  cases hf : f w <;> simp [hf]
theorem ev_negA {b : Bs} {Γ : TEnv} {m : ME} {i : Int} {c : Nat} (h : Ev b Γ m (.val (tEq (.int i))) c) : Ev b Γ (mNeg m) (.val (tEq (.int (-i)))) c := fun n S E G hn e => by
  rw [s_neg]
  refine (h n S E G hn e).mono fun w G1 q => ?_
  obtain ⟨i1, f1, rfl⟩ := q
  exact ⟨i, rfl, i1, f1, rfl⟩
theorem own_fn {it : It} {x : Int} {lg : Bool} (hf : ∀ a, it = .fil a → 0 < a) : Fn sNil Mown_bytes (cN [tEq it.w, tEq (.int x), tEq (.bl lg)]) (.val (tEq (.int (ownB it x lg)))) 0 := by
  apply fn_of (np := 3) (nn := 3)
  · rfl
  · intro Sp G0
    show Es (nilB Sp G0 tAny) [.ty (tEq it.w), .ty (tEq (.int x)), .ty (tEq (.bl lg))] Bown_bytes _ _ _
    unfold Bown_bytes
    apply es_ifR (c2 := 0)
    · exact et_test (ev_bin (ev_bin (ev_var rfl) (ev_c _) fun G => w_0 it G) (ev_c _) fun G => kind_L it G)
    · intro h
      obtain rfl : it = .lab := by cases it <;> first | rfl | cases h
      exact es_ret (ev_c _)
    intro h
    apply es_ifR (c2 := 0)
    · exact et_test (ev_bin (ev_bin (ev_var rfl) (ev_c _) fun G => w_0 it G) (ev_c _) fun G => kind_F it G)
    · intro h2
      obtain ⟨a, rfl⟩ : ∃ a, it = .fil a := by cases it <;> first | exact ⟨_, rfl⟩ | cases h2
      apply es_ret
      exact ev_bin (ev_negA (ev_var rfl)) (ev_bin (ev_var rfl) (ev_c _) fun G => w_f1 a G) fun G => e_mod (hf a rfl)
    intro h2
    obtain ⟨g, s, l, rfl⟩ : ∃ g s l, it = .jmp g s l := by
      cases it with
      | jmp g s l => exact ⟨g, s, l, rfl⟩
      | lab => simp [It.isL] at h
      | fil a => simp [It.isF] at h2
    apply es_ret
    refine ev_if (c2 := 0) (c3 := 0) (et_tru (x := lg) (ev_var rfl) fun G => rfl) (fun h => ev_le (ev_bin (ev_var rfl) (ev_c _) fun G => w_j3 g s l G) fun S G w e => ?_) fun h => ev_le (ev_bin (ev_var rfl) (ev_c _) fun G => w_j2 g s l G) fun S G w e => ?_
    · rw [show w = _ from e]; show _ = W.int (if lg = true then l else s); rw [if_pos h]
    · rw [show w = _ from e]; show _ = W.int (if lg = true then l else s); rw [if_neg (by rw [h]; decide)]
  · decide
theorem laid_fn {sk : List It} {ln ch : List Int} (h24 : sk.length ≤ 40) (hf : ∀ a, It.fil a ∈ sk → fillOk a) (hl : sk.length ≤ ln.length) : Fn sNil Mlaid (cN [tEq (skW sk), tSeq (ln.map W.int), tSeq (ch.map W.int)]) (.val (tEq (.tup (layW sk ln ch sk.length)))) 0 := by
  apply fn_of (np := 3) (nn := 8)
  · rfl
  · intro Sp G0
    show Es (nilB Sp G0 tAny) [.ty (tEq (skW sk)), .ty (tSeq (ln.map W.int)), .ty (tSeq (ch.map W.int)), .no, .no, .no, .no, .no] Blaid _ _ _
    unfold Blaid
    apply es_asg (R0 := .new (dL (tEq [])))
    · exact ev_one eq_nil
    · simp
    apply es_asg (R0 := .val (tEq (.int 0)))
    · exact (ev_c _)
    · simp
    apply es_for (p := fun xs => xs = enW (sk.map It.w)) 40 (fun _ _ (_ : Unit) => True) (fun _ i _ => [.ty (tEq (skW sk)), .ty (tSeq (ln.map W.int)), .ty (tSeq (ch.map W.int)), .own (dL (tEq (layW sk ln ch i))), .ty (tEq (.int (En sk ln ch i))), .no, .no, .no]) (fun _ _ w => tEq w)
    · exact ei_enS (ev_le (ev_var rfl) seq_t)
    · exact fun S G xs q => ⟨q, by rw [show xs = _ from q, enW_len]; simpa using h24⟩
    · exact fun _ _ _ _ _ _ _ => rfl
    · rintro xs rfl
      exact ⟨(), trivial, EnvLe.refl _⟩
    · rintro xs i w _ pit rfl hw _
      obtain ⟨x, hx, rfl⟩ := enW_inv hw
      obtain ⟨it, hit, rfl⟩ := map_at hx
      have hil : i < sk.length := (List.getElem?_eq_some_iff.mp hit).1
      have e2 := En_succ (ln := ln) (ch := ch) hit
      refine ⟨_, eg_le (eg_tup2 (by simp) (by simp)) tPair, ?_⟩
      apply es_asg (R0 := .val (tEq (.int (Bg sk ln ch i))))
      · exact ev_bin (ev_var rfl) (ev_getS (ev_var rfl) (ev_var rfl) (ints_at (by omega))) fun G => e_add G _ _
      · simp
      apply es_asg (R0 := .val (tEq (.int (En sk ln ch (i + 1)))))
      · rw [e2]
        exact ev_bin (ev_var rfl) (ev_def (own_fn (lg := isLong ch i) fun a e => (fill_pos (hf a (e ▸ List.mem_of_getElem? hit))).1).lift (ea_cons ((ev_var rfl)) (ea_cons ((ev_var rfl)) (ea_cons (ev_inS (ev_var rfl) (ev_var rfl)) ea_nil)))) fun G => e_add G _ _
      · simp
      apply es_end
      apply es_app (i := 3) (C' := tEq (layW sk ln ch (i + 1))) rfl
      · exact ev_tupE (eq_cons ((ev_var rfl)) (eq_cons ((ev_var rfl)) eq_nil))
      · intro S G ws w e1 e2
        rw [show ws = _ from e1, show w = _ from e2]
        exact ⟨(layW_succ sk ln ch i).symm, by rw [layW_len]; omega⟩
      exact es_nxX () trivial (.cons (SlLe.refl _) (.cons (SlLe.refl _) (.cons (SlLe.refl _) (.cons (SlLe.refl _) (.cons (SlLe.refl _) (.cons (.no _) (.cons (.no _) (.cons (.no _) .nil))))))))
    · rintro xs _ rfl _
      rw [enW_len, List.length_map]
      apply es_rel (i := 3) rfl
      apply es_ret
      refine ev_le (ev_tupOf (er_val (ev_var rfl))) tTup_eq
  · decide
theorem pway_fn {sk : List It} {ln ch : List Int} {p g : Nat} {s l : Int} (hj : Jmp sk p g s l) : Fn sNil M_way (cN [tEq (skW sk), tSeq (layW sk ln ch sk.length), tEq (.int (p : Int))]) (.val (tEq (.int (wayN sk ln ch p g)))) 0 := by
  have hl := hj.lt
  apply fn_of (np := 3) (nn := 4)
  · rfl
  · intro Sp G0
    show Es (nilB Sp G0 tAny) [.ty (tEq (skW sk)), .ty (tSeq (layW sk ln ch sk.length)), .ty (tEq (.int (p : Int))), .no] B_way _ _ _
    unfold B_way
    apply es_asg (R0 := .val (tEq (.int (g : Int))))
    · exact ev_bin (ev_bin (ev_var rfl) (ev_var rfl) fun G => sk_get hj.at') (ev_c _) fun G => w_j1 _ _ _ G
    · simp
    apply es_ifR (c2 := 0)
    · exact et_gtI (i := (g : Int)) (j := (p : Int)) (ev_var rfl) (ev_var rfl)
    · intro h
      apply es_ret
      exact ev_le (ev_bin (ev_bin (ev_getS (ev_var rfl) (ev_var rfl) (layW_get hl.2)) (ev_c _) fun G => pr0 _ _ G) (ev_bin (ev_getS (ev_var rfl) (ev_var rfl) (layW_get hl.1)) (ev_c _) fun G => pr1 _ _ G) fun G => e_sub G _ _) fun S G w e => by rw [show w = _ from e]; unfold wayN; rw [if_pos (by omega)]; rfl
    intro h
    apply es_ret
    exact ev_le (ev_bin (ev_bin (ev_getS (ev_var rfl) (ev_var rfl) (layW_get hl.1)) (ev_c _) fun G => pr1 _ _ G) (ev_bin (ev_getS (ev_var rfl) (ev_var rfl) (layW_get hl.2)) (ev_c _) fun G => pr0 _ _ G) fun G => e_sub G _ _) fun S G w e => by rw [show w = _ from e]; unfold wayN; rw [if_neg (by omega)]; rfl
  · decide
theorem stuck_fn {sk : List It} {ln rs ch : List Int} (hs : Skel sk) (hl : sk.length ≤ ln.length) (hr : Rea sk rs) : Fn sNil Mstuck (cN [tEq (prW sk ln rs), tSeq (ch.map W.int)]) (.val (tEq (.tup ((stuckN sk ln rs ch).map W.int)))) 0 := by
  have h24 := hs.len2
  have jl := jumpsN_len (sk := sk)
  have hrl := hr.len
  apply fn_of (np := 2) (nn := 9)
  · rfl
  · intro Sp G0
    show Es (nilB Sp G0 tAny) [.ty (tEq (prW sk ln rs)), .ty (tSeq (ch.map W.int)), .no, .no, .no, .no, .no, .no, .no] Bstuck _ _ _
    unfold Bstuck
    apply es_asgG (ev_var rfl) (eg_le (eg_tup3 (by simp) (by simp) (by simp)) tTrip)
    apply es_asg (R0 := .val (tEq (.tup (layW sk ln ch sk.length))))
    · exact ev_def (laid_fn (by omega) (fun a h => hs.items _ h) hl) (ea_cons ((ev_var rfl)) (ea_cons (ev_le (ev_var rfl) seq_t) (ea_cons ((ev_var rfl)) ea_nil)))
    · simp
    apply es_asg (R0 := .new (dL (tEq [])))
    · exact ev_one eq_nil
    · simp
    apply es_for (p := fun xs => xs = ziW ((jumpsN sk).map W.int) (rs.map W.int)) 24 (fun _ _ (_ : Unit) => True) (fun _ i _ => [.ty (tEq (prW sk ln rs)), .ty (tSeq (ch.map W.int)), .ty (tEq (skW sk)), .ty (tEq (.tup (ln.map W.int))), .ty (tEq (.tup (rs.map W.int))), .ty (tEq (.tup (layW sk ln ch sk.length))), .own (dL (tEq (((((jumpsN sk).zip rs).take i).filterMap (stF sk ln ch)).map W.int))), .no, .no]) (fun _ _ w => tEq w)
    · exact ei_zipT (ev_def (jumps_of_fn h24) (ea_cons ((ev_var rfl)) ea_nil)) (ev_var rfl)
    · exact fun S G xs q => ⟨q, by rw [show xs = _ from q, ziW_len]; simp; omega⟩
    · exact fun _ _ _ _ _ _ _ => rfl
    · rintro xs rfl
      exact ⟨(), trivial, EnvLe.refl _⟩
    · rintro xs i w _ pit rfl hw _
      obtain ⟨j, r, hj, hrr, rfl⟩ := zi_get hw
      obtain ⟨p, s, l, rfl, hjm⟩ := hs.jmpN (List.mem_of_getElem? hj)
      have et := take_fm (stF sk ln ch) ((jumpsN sk).zip rs) i ((p : Int), r) (List.getElem?_zip_eq_some.mpr ⟨hj, hrr⟩)
      have al : ((((jumpsN sk).zip rs).take i).filterMap (stF sk ln ch)).length ≤ 24 := by
        refine Nat.le_trans (List.length_filterMap_le _ _) ?_
        simp; omega
      refine ⟨_, eg_le (eg_tup2 (by simp) (by simp)) tPair, ?_⟩
      apply es_end
      apply es_ifE [.ty (tEq (prW sk ln rs)), .ty (tSeq (ch.map W.int)), .ty (tEq (skW sk)), .ty (tEq (.tup (ln.map W.int))), .ty (tEq (.tup (rs.map W.int))), .ty (tEq (.tup (layW sk ln ch sk.length))), .own (dL (tEq (((((jumpsN sk).zip rs).take (i + 1)).filterMap (stF sk ln ch)).map W.int))), .no, .no]
      · exact et_and (et_test (ev_notinS (ev_var rfl) (ev_var rfl))) fun _ => et_gtI (ev_def (pway_fn hjm).lift (ea_cons ((ev_var rfl)) (ea_cons (ev_le (ev_var rfl) seq_t) (ea_cons ((ev_var rfl)) ea_nil)))) (ev_var rfl)
      · rintro ⟨h1, h2⟩
        have h1' : (p : Int) ∉ ch := by simpa using h1
        have : stF sk ln ch ((p : Int), r) = some (p : Int) := by unfold stF; rw [if_neg h1', Wy_eq hjm, if_pos h2]
        apply es_end
        apply es_app (i := 6) (C' := tEq (((((jumpsN sk).zip rs).take (i + 1)).filterMap (stF sk ln ch)).map W.int)) rfl
        · exact (ev_var rfl)
        · intro S G ws w e1 e2
          rw [show ws = _ from e1, show w = _ from e2]
          refine ⟨?_, by simp only [List.length_map]; omega⟩
          show _ = _
          rw [et, this, List.map_append]; rfl
        exact es_nxL (.cons (SlLe.refl _) (.cons (SlLe.refl _) (.cons (SlLe.refl _) (.cons (SlLe.refl _) (.cons (SlLe.refl _) (.cons (SlLe.refl _) (.cons (SlLe.refl _) (.cons (.no _) (.cons (.no _) .nil)))))))))
      · intro h
        have : stF sk ln ch ((p : Int), r) = none := by
          unfold stF
          rcases h with h | ⟨h1, h2⟩
          · rw [if_pos (by simpa using h)]
          · rw [if_neg (by simpa using h1), Wy_eq hjm, if_neg h2]
        have e : ((((jumpsN sk).zip rs).take (i + 1)).filterMap (stF sk ln ch)) = ((((jumpsN sk).zip rs).take i).filterMap (stF sk ln ch)) := by rw [et, this, Option.toList_none, List.append_nil]
        rw [e]
        exact es_nxL (.cons (SlLe.refl _) (.cons (SlLe.refl _) (.cons (SlLe.refl _) (.cons (SlLe.refl _) (.cons (SlLe.refl _) (.cons (SlLe.refl _) (.cons (SlLe.refl _) (.cons (.no _) (.cons (.no _) .nil)))))))))
      exact es_nxX () trivial (EnvLe.refl _)
    · rintro xs _ rfl _
      have e : ((jumpsN sk).zip rs).take (ziW ((jumpsN sk).map W.int) (rs.map W.int)).length = (jumpsN sk).zip rs := by
        refine List.take_of_length_le ?_
        rw [ziW_len]; simp
      rw [e]
      apply es_rel (i := 6) rfl
      apply es_ret
      exact ev_le (ev_tupOf (er_val (ev_var rfl))) tTup_eq
  · decide
end NS
/- part A0s -/
set_option maxHeartbeats 1000000
namespace NS
open PySem PySem.Spec PyProof.Rows L2 PL

theorem serves_fn {sk : List It} {ln rs ch : List Int} (hs : Skel sk) (hl : sk.length ≤ ln.length) (hr : Rea sk rs) : Fn sNil Mserves (cN [tEq (prW sk ln rs), tSeq (ch.map W.int)]) (.val (tEq (.bl (decide (stuckN sk ln rs ch = []))))) 0 := by
  apply fn_of (np := 2) (nn := 2)
  · rfl
  · intro Sp G0
    show Es (nilB Sp G0 tAny) [.ty (tEq (prW sk ln rs)), .ty (tSeq (ch.map W.int))] Bserves _ _ _
    unfold Bserves
    apply es_ret
    refine ev_le (ev_bin (ev_lenS (ev_le (ev_def (stuck_fn hs hl hr) (ea_cons ((ev_var rfl)) (ea_cons ((ev_var rfl)) ea_nil))) seq_t)) (ev_c _) fun G => eqOp_int _ _) fun S G w e => ?_
    rw [show w = _ from e]
    show W.bl _ = W.bl _
    congr 1
    refine decide_eq_decide.mpr ⟨fun h => ?_, fun h => by rw [h]; rfl⟩
    rw [List.length_map] at h
    exact List.length_eq_zero_iff.mp (by omega)
  · decide
end NS
/- part Z2 -/
set_option maxHeartbeats 1000000
namespace NS
open PySem PySem.Spec PyProof.Rows L2 PL

/-! ### which choices serve, and what all of them have -/
theorem stuck_nil {sk : List It} {ln rs ch : List Int} : stuckN sk ln rs ch = [] ↔ ∀ (i : Nat) (j r : Int), (jumpsN sk)[i]? = some j → rs[i]? = some r → j ∈ ch ∨ Wy sk ln ch j ≤ r := by
  unfold stuckN
  rw [List.filterMap_eq_nil_iff]
  constructor
  · intro h i j r hj hr
    have := h (j, r) (List.mem_of_getElem? (List.getElem?_zip_eq_some.mpr ⟨hj, hr⟩))
    unfold stF at this
    by_cases hc : j ∈ ch
    · exact .inl hc
    · rw [if_neg hc] at this
      by_cases hw : r < Wy sk ln ch j
      · rw [if_pos hw] at this; cases this
      · exact .inr (by omega)
  · rintro h ⟨j, r⟩ hm
    obtain ⟨i, hi⟩ := List.mem_iff_getElem?.mp hm
    obtain ⟨hj, hr⟩ := List.getElem?_zip_eq_some.mp hi
    unfold stF
    rcases h i j r hj hr with h | h
    · rw [if_pos h]
    · by_cases hc : j ∈ ch
      · rw [if_pos hc]
      · rw [if_neg hc, if_neg (by show ¬ r < Wy sk ln ch j; omega)]
theorem all_serve0 (sk : List It) (ln rs : List Int) : stuckN sk ln rs (jumpsN sk) = [] := stuck_nil.mpr fun i j r hj _ => .inl (List.mem_of_getElem? hj)
theorem Wy_cg {sk : List It} {ln ch ch' : List Int} (h : ∀ i, i ∈ ch ↔ i ∈ ch') (j : Int) : Wy sk ln ch j = Wy sk ln ch' j := way_cg h _ _
theorem stuck_cg {sk : List It} {ln rs ch ch' : List Int} (h : ∀ i, i ∈ ch ↔ i ∈ ch') : stuckN sk ln rs ch = stuckN sk ln rs ch' := by
  unfold stuckN
  congr 1
  funext p
  unfold stF
  rw [Wy_cg h]
  by_cases hc : p.1 ∈ ch
  · rw [if_pos hc, if_pos ((h _).mp hc)]
  · rw [if_neg hc, if_neg fun z => hc ((h _).mpr z)]
theorem Wy_up {sk : List It} {ln : List Int} (hS : Skel sk) (hst : trisT sk = []) {ch ch' : List Int} {j : Int} (hj : j ∈ jumpsN sk) (hn : j ∉ ch') (hc : ∀ i ∈ ch', i ∈ jumpsN sk) (hsub : ∀ i ∈ ch, i ∈ ch') : Wy sk ln ch j ≤ Wy sk ln ch' j := by
  obtain ⟨n, g, s, l, hp, rfl⟩ := jumpsN_mem.mp hj
  unfold Wy
  rw [Int.toNat_natCast]
  exact way_up hS hst (jmpAt_iff.mpr ⟨g, s, l, hp⟩) hn hc hsub
/-- what all of some choices that serve have serves, too -/
theorem steady_common {sk : List It} {ln rs : List Int} (hS : Skel sk) (hst : trisT sk = []) {good : List (List Int)} (hg : ∀ c ∈ good, (∀ i ∈ c, i ∈ jumpsN sk) ∧ stuckN sk ln rs c = []) {com : List Int} (hcom : ∀ i, i ∈ com ↔ i ∈ jumpsN sk ∧ ∀ c ∈ good, i ∈ c) : stuckN sk ln rs com = [] := by
  refine stuck_nil.mpr fun i j r hj hr => ?_
  by_cases hc : j ∈ com
  · exact .inl hc
  · right
    have hjm := List.mem_of_getElem? hj
    have : ∃ c, c ∈ good ∧ j ∉ c := Decidable.byContradiction fun z => hc ((hcom j).mpr ⟨hjm, fun c hc => Decidable.byContradiction fun y => z ⟨c, hc, y⟩⟩)
    obtain ⟨c, hcg, hjc⟩ := this
    obtain ⟨h1, h2⟩ := hg c hcg
    refine Int.le_trans (Wy_up hS hst hjm hjc h1 fun i hi => ((hcom i).mp hi).2 c hcg) ?_
    exact (stuck_nil.mp h2 i j r hj hr).resolve_left hjc
/-! ### all choices of some jumps -/
def chL (js : List Int) : List (List Int) := js.foldl (fun f j => f ++ f.map (· ++ [j])) [[]]
theorem chL_snoc (js : List Int) (j : Int) : chL (js ++ [j]) = chL js ++ (chL js).map (· ++ [j]) := by unfold chL; rw [List.foldl_append]; rfl
theorem rev_ind {α : Type} {P : List α → Prop} (h0 : P []) (h1 : ∀ xs x, P xs → P (xs ++ [x])) (xs : List α) : P xs := by
  have : ∀ n (xs : List α), xs.length = n → P xs := by
    intro n
    induction n with
    | zero => intro xs h; rw [List.length_eq_zero_iff.mp h]; exact h0
    | succ n ih =>
      intro xs h
      have hne : xs ≠ [] := fun z => by rw [z] at h; simp at h
      rw [← List.dropLast_concat_getLast hne]
      exact h1 _ _ (ih _ (by rw [List.length_dropLast]; omega))
  exact this _ xs rfl
theorem mem_chL {js c : List Int} : c ∈ chL js ↔ c.Sublist js := by
  revert c
  refine rev_ind (P := fun js => ∀ {c : List Int}, c ∈ chL js ↔ c.Sublist js) ?_ ?_ js
  · intro c; unfold chL; simp
  · intro js x ih c
    rw [chL_snoc, List.mem_append, List.mem_map]
    constructor
    · rintro (h | ⟨c', h, rfl⟩)
      · exact (ih.mp h).trans (List.sublist_append_left _ _)
      · exact (ih.mp h).append (List.Sublist.refl _)
    · intro h
      obtain ⟨l1, l2, rfl, h1, h2⟩ := List.sublist_append_iff.mp h
      match l2, h2 with
      | [], _ => left; rw [List.append_nil]; exact ih.mpr h1
      | [y], h2 =>
        right
        have : y ∈ [x] := h2.subset (by simp)
        rw [List.mem_singleton] at this
        subst this
        exact ⟨l1, ih.mpr h1, rfl⟩
      | y :: z :: r, h2 => have := h2.length_le; simp at this
theorem chL_len (js : List Int) : (chL js).length = 2 ^ js.length := by
  refine rev_ind (P := fun js => (chL js).length = 2 ^ js.length) ?_ ?_ js
  · rfl
  · intro js x ih
    rw [chL_snoc, List.length_append, List.length_map, ih, List.length_append, List.length_singleton, Nat.pow_succ]; omega
theorem chL_last (js : List Int) : ∃ r, chL js = r ++ [js] := by
  refine rev_ind (P := fun js => ∃ r, chL js = r ++ [js]) ?_ ?_ js
  · exact ⟨[], rfl⟩
  · rintro js x ⟨r, ih⟩
    refine ⟨chL js ++ r.map (· ++ [x]), ?_⟩
    rw [chL_snoc]
    conv => lhs; rhs; rw [ih]
    rw [List.map_append, List.append_assoc]; rfl
theorem chL_mem {js c : List Int} (h : c ∈ chL js) : ∀ i ∈ c, i ∈ js := fun i hi => (mem_chL.mp h).subset hi
def goodL (sk : List It) (ln rs : List Int) : List (List Int) := (chL (jumpsN sk)).filter fun c => decide (stuckN sk ln rs c = [])
theorem mem_goodL {sk : List It} {ln rs c : List Int} : c ∈ goodL sk ln rs ↔ c.Sublist (jumpsN sk) ∧ stuckN sk ln rs c = [] := by
  unfold goodL
  rw [List.mem_filter, mem_chL, decide_eq_true_eq]
theorem goodL_last (sk : List It) (ln rs : List Int) : ∃ r, goodL sk ln rs = r ++ [jumpsN sk] := by
  obtain ⟨r, h⟩ := chL_last (jumpsN sk)
  refine ⟨r.filter fun c => decide (stuckN sk ln rs c = []), ?_⟩
  unfold goodL
  rw [h, List.filter_append]
  congr 1
  simp [all_serve0]
theorem goodL_len {sk : List It} {ln rs : List Int} {n : Nat} (h : (jumpsN sk).length ≤ n) : (goodL sk ln rs).length ≤ 2 ^ n := by
  unfold goodL
  refine Nat.le_trans (List.length_filter_le _ _) ?_
  rw [chL_len]
  exact Nat.pow_le_pow_right (by decide) h
/-- the jumps that are long in each that serves -/
def leastN (sk : List It) (ln rs : List Int) : List Int := (jumpsN sk).filter fun j => (goodL sk ln rs).all fun c => decide (j ∈ c)
theorem mem_leastN {sk : List It} {ln rs : List Int} {i : Int} : i ∈ leastN sk ln rs ↔ i ∈ jumpsN sk ∧ ∀ c ∈ goodL sk ln rs, i ∈ c := by
  unfold leastN
  rw [List.mem_filter, List.all_eq_true]
  exact ⟨fun h => ⟨h.1, fun c hc => of_decide_eq_true (h.2 c hc)⟩, fun h => ⟨h.1, fun c hc => decide_eq_true (h.2 c hc)⟩⟩
theorem leastN_sub (sk : List It) (ln rs : List Int) : (leastN sk ln rs).Sublist (jumpsN sk) := List.filter_sublist
theorem leastN_good {sk : List It} {ln rs : List Int} : leastN sk ln rs ∈ goodL sk ln rs ↔ stuckN sk ln rs (leastN sk ln rs) = [] := by
  rw [mem_goodL]
  exact ⟨fun h => h.2, fun h => ⟨leastN_sub sk ln rs, h⟩⟩
theorem steady_least {sk : List It} {ln rs : List Int} (hS : Skel sk) (hst : trisT sk = []) : stuckN sk ln rs (leastN sk ln rs) = [] :=
  steady_common (good := goodL sk ln rs) hS hst (fun c hc => ⟨fun i hi => (mem_goodL.mp hc).1.subset hi, (mem_goodL.mp hc).2⟩) fun i => mem_leastN
end NS
/- part A3h -/
set_option maxHeartbeats 1000000
namespace NS
open PySem PySem.Spec PyProof.Rows L2 PL

/-! ### drawn lengths, drawn programs -/
def LnOk (sk : List It) (ln : List Int) : Prop := ln.length = sk.length + 1 ∧ ∀ x ∈ ln, 0 ≤ x ∧ x ≤ 1000000000
def PrOk (sk : List It) (x : List Int × List Int) : Prop := LnOk sk x.1 ∧ Rea sk x.2 ∧ ∀ r ∈ x.2, 0 ≤ r ∧ r ≤ 1000000000
section
variable {b : Bs} {Γ : TEnv} {c : Nat}
theorem ev_anyI {m : ME} {i : Int} (h : Ev b Γ m (.val (tEq (.int i))) c) : Ev b Γ m (.val (tI fun _ => True)) c := ev_le h (tI_c trivial)
end
end NS
/- part AP -/
set_option maxHeartbeats 1000000
namespace NS
open PySem PySem.Spec PyProof.Rows L2 PL

section
variable {b : Bs} {Γ : TEnv} {c c1 c2 c3 : Nat} {R : RT} {N : Nat → PEnv → Cells → Prop}
/-- two names at once, either may get a new list -/
theorem es_parT {i j : Nat} {m m1 : ME} {m' : MS} {R0 R1 : RT} (h : Ev b Γ m R0 c1) (h1 : Ev b Γ m1 R1 c2) (hi : i < Γ.length) (hj : j < Γ.length) (k : Es b ((Γ.set i R0.sl).set j R1.sl) m' N R c3) : Es b Γ (sSeq (sAsg (mTup (mCons m (mCons m1 mNil))) (gTupW 2 (gsCons i (gsCons j gsNil)))) m') N R (c1 + c2 + c3) := fun n S E G hn e => by
  refine so_seq ?_
  rw [t_asg, s_tup, s_cons]
  refine (h n S E G (by omega) e).mono fun w G1 q => ?_
  obtain ⟨i1, f1, q⟩ := q
  rw [s_cons]
  cases R0 with
  | val T =>
    have e1 := e.mv i1 f1
    refine (h1 _ S E G1 (by omega) e1).mono fun w' G2 q2 => ?_
    rw [v_nil]
    refine ⟨by simp [sizeLine], ?_⟩
    obtain ⟨i2, f2, q2⟩ := q2
    have e2 := e1.setTy (i := i) (T := T) hi q
    obtain ⟨S', e'⟩ := e2.setR (i := j) (by simpa using hj) i2 f2 q2
    exact (k _ S' _ _ (by omega) e').mono (fun E2 G2 ⟨i, q⟩ => ⟨i, by omega, q.2⟩) fun _ _ q => ⟨b.I.up (by omega) q.1, q.2⟩
  | new D =>
    obtain ⟨n', x, rfl, hn', hc, q⟩ := q
    have e0 := e.wid hn' i1 f1 (lt_of_get hc)
    refine (h1 _ (n' :: S) E G1 (by omega) e0).mono fun w' G2 q2 => ?_
    rw [v_nil]
    refine ⟨by simp [sizeLine], ?_⟩
    obtain ⟨i2, f2, q2⟩ := q2
    have e2 := e.setOwn (i := i) hi hn' i1 f1 hc q
    obtain ⟨S', e'⟩ := e2.setR (i := j) (by simpa using hj) i2 f2 q2
    exact (k _ S' _ _ (by omega) e').mono (fun E2 G2 ⟨i, q⟩ => ⟨i, by omega, q.2⟩) fun _ _ q => ⟨b.I.up (by omega) q.1, q.2⟩
/-- three names, the first two get new lists -/
theorem es_par3N {i j l : Nat} {m m1 m2 : ME} {m' : MS} {D0 D1 : Tp Cell} {T2 : Tp W} {c4 : Nat} (h : Ev b Γ m (.new D0) c1) (h1 : Ev b Γ m1 (.new D1) c2) (h2 : Ev b Γ m2 (.val T2) c3) (hi : i < Γ.length) (hj : j < Γ.length) (hl : l < Γ.length) (k : Es b (((Γ.set i (.own D0)).set j (.own D1)).set l (.ty T2)) m' N R c4) : Es b Γ (sSeq (sPar3 i j l (mCons m (mCons m1 (mCons m2 mNil)))) m') N R (c1 + c2 + c3 + c4) := fun n S E G hn e => by
  refine so_seq ?_
  rw [t_par3, s_cons]
  refine (h n S E G (by omega) e).mono fun w G1 q => ?_
  obtain ⟨i1, f1, n0, x0, rfl, hn0, hc0, q0⟩ := q
  rw [s_cons]
  have e0 := e.wid hn0 i1 f1 (lt_of_get hc0)
  refine (h1 _ (n0 :: S) E G1 (by omega) e0).mono fun w' G2 q => ?_
  obtain ⟨i2, f2, n1, x1, rfl, hn1, hc1, q1⟩ := q
  rw [s_cons]
  have e1 := e0.wid hn1 i2 f2 (lt_of_get hc1)
  refine (h2 _ (n1 :: n0 :: S) E G2 (by omega) e1).mono fun w2 G3 q => ?_
  obtain ⟨i3, f3, q2⟩ := q
  rw [s_nil, p3_c]
  have a0 := e.setOwn (i := i) hi hn0 i1 f1 hc0 q0
  have a1 := a0.setOwn (i := j) (by simpa using hj) hn1 i2 f2 hc1 q1
  have a2 := (a1.mv i3 f3).setTy (i := l) (T := T2) (by simpa using hl) q2
  exact (k _ _ _ _ (by omega) a2).mono (fun E2 G2 ⟨i, q⟩ => ⟨i, by omega, q.2⟩) fun _ _ q => ⟨b.I.up (by omega) q.1, q.2⟩
/-- three names, the first two get new cells -/
theorem es_par3X {i j l : Nat} {m m1 m2 : ME} {m' : MS} {D0 D1 : Tp Cell} {R2 : RT} {c4 : Nat} (h : Ev b Γ m (.new D0) c1) (h1 : Ev b Γ m1 (.new D1) c2) (h2 : Ev b Γ m2 R2 c3) (hi : i < Γ.length) (hj : j < Γ.length) (hl : l < Γ.length) (k : Es b (((Γ.set i (.own D0)).set j (.own D1)).set l R2.sl) m' N R c4) : Es b Γ (sSeq (sPar3 i j l (mCons m (mCons m1 (mCons m2 mNil)))) m') N R (c1 + c2 + c3 + c4) := fun n S E G hn e => by
  refine so_seq ?_
  rw [t_par3, s_cons]
  refine (h n S E G (by omega) e).mono fun w G1 q => ?_
  obtain ⟨i1, f1, n0, x0, rfl, hn0, hc0, q0⟩ := q
  rw [s_cons]
  have e0 := e.wid hn0 i1 f1 (lt_of_get hc0)
  refine (h1 _ (n0 :: S) E G1 (by omega) e0).mono fun w' G2 q => ?_
  obtain ⟨i2, f2, n1, x1, rfl, hn1, hc1, q1⟩ := q
  rw [s_cons]
  have e1 := e0.wid hn1 i2 f2 (lt_of_get hc1)
  refine (h2 _ (n1 :: n0 :: S) E G2 (by omega) e1).mono fun w2 G3 q => ?_
  obtain ⟨i3, f3, q2⟩ := q
  rw [s_nil, p3_c]
  have a0 := e.setOwn (i := i) hi hn0 i1 f1 hc0 q0
  have a1 := a0.setOwn (i := j) (by simpa using hj) hn1 i2 f2 hc1 q1
  obtain ⟨S', a2⟩ := a1.setR (i := l) (by simpa using hl) i3 f3 q2
  exact (k _ _ _ _ (by omega) a2).mono (fun E2 G2 ⟨i, q⟩ => ⟨i, by omega, q.2⟩) fun _ _ q => ⟨b.I.up (by omega) q.1, q.2⟩
theorem ev_notinTups {m m' : ME} {c : List Int} {cs : List (List Int)} (h : Ev b Γ m (.val (tEq (chW c))) c1) (h' : Ev b Γ m' (.val (tLs (tEq (cs.map chW)))) c2) : Ev b Γ (mBin (inW true) m m') (.val (tEq (.bl (!decide (c ∈ cs))))) (c1 + c2) :=
  ev_binT h h' fun S G x y hx hy => by
    obtain rfl : x = chW c := hx
    obtain ⟨n, z, rfl, _, hg, us, rfl, hu⟩ := hy
    obtain rfl : us = cs.map chW := hu
    rw [in_tups true hg]; exact ⟨Fr.refl, rfl⟩
theorem in_tupsT {G : Cells} (neg : Bool) (cs : List (List Int)) (c : List Int) : inW neg G (chW c) (.tup (cs.map chW)) = .ok (.bl (if neg = true then !decide (c ∈ cs) else decide (c ∈ cs))) G := by
  have q : inW neg G (chW c) (.tup (cs.map chW)) = (match dat G 60 (chW c), dat G 60 (.tup (cs.map chW)) with
    | some d, some e => (match itemsD e with
      | some xs => if SeqAt.shaped d && SeqAt.shaped e then .ok (.bl (if neg = true then !xs.any fun z => PyData.eqv z d else xs.any fun z => PyData.eqv z d)) G else .no
      | none => .no)
    | _, _ => .no) := rfl
  have d0 : dat G 60 (chW c) = some (.tuple (c.map PyData.int)) := da_ints G 58 c
  have d1 : dat G 60 (.tup (cs.map chW)) = some (.tuple (cs.map fun c => PyData.tuple (c.map PyData.int))) := da_tup (mo_map fun c _ => da_ints G 57 c)
  have s0 : SeqAt.shaped (.tuple (c.map PyData.int)) = true := shaped_tints c
  have s1 : SeqAt.shaped (.tuple (cs.map fun c => PyData.tuple (c.map PyData.int))) = true := by
    obtain ⟨ds, k1, k2, k3, k4⟩ := dt_all (ws := cs.map chW) fun w hw => by obtain ⟨c, _, rfl⟩ := List.mem_map.mp hw; exact tup_dt c
    have e : ds = cs.map fun c => PyData.tuple (c.map PyData.int) := Option.some.inj ((k1 G).symm.trans (mo_map fun c _ => da_ints G 57 c))
    rw [← e]
    simp only [SeqAt.shaped, PyData.canLay0, PyData.depth, k3, Bool.true_and, decide_eq_true_eq]; exact decide_eq_true (by omega)
  rw [q, d0, d1]
  simp only [itemsD, s0, s1, any_tups, Bool.and_self, if_true]
theorem ev_notinTT {m m' : ME} {c : List Int} {cs : List (List Int)} (h : Ev b Γ m (.val (tEq (chW c))) c1) (h' : Ev b Γ m' (.val (tEq (.tup (cs.map chW)))) c2) : Ev b Γ (mBin (inW true) m m') (.val (tEq (.bl (!decide (c ∈ cs))))) (c1 + c2) := ev_bin h h' fun G => in_tupsT true cs c
/-! two lists of tuples -/
theorem ne_tupsL {G : Cells} {n m : Nat} {xs ys : List (List Int)} (h : G[n]? = some (.lst (xs.map chW))) (h' : G[m]? = some (.lst (ys.map chW))) (he : xs = ys) : neOp G (.ref n) (.ref m) = .ok (.bl false) G := by
  subst he
  obtain ⟨ds, k1, k2, k3, k4⟩ := dt_all (ws := xs.map chW) fun w hw => by obtain ⟨c, _, rfl⟩ := List.mem_map.mp hw; exact tup_dt c
  have e1 : dat G 60 (.ref n) = some (.list ds) := da_lst h (k1 G)
  have e2 : dat G 60 (.ref m) = some (.list ds) := da_lst h' (k1 G)
  have s1 : SeqAt.shaped (.list ds) = true := by
    simp only [SeqAt.shaped, PyData.canLay0, PyData.depth, k3, Bool.true_and, decide_eq_true_eq]; exact decide_eq_true (by omega)
  have q : neOp G (.ref n) (.ref m) = (match dat G 60 (.ref n), dat G 60 (.ref m) with
    | some d, some e => if SeqAt.shaped d && SeqAt.shaped e then .ok (.bl (!PyData.eqv d e)) G else .no
    | _, _ => .no) := rfl
  rw [q, e1, e2]
  have eds : ds = xs.map fun c => PyData.tuple (c.map PyData.int) := Option.some.inj ((k1 G).symm.trans (mo_map fun c _ => da_ints G 57 c))
  have eq : ∀ zs : List (List Int), PyData.eqvAll (zs.map fun c => PyData.tuple (c.map PyData.int)) (zs.map fun c => PyData.tuple (c.map PyData.int)) = true := fun zs => by
    induction zs with
    | nil => rfl
    | cons z zs ih => simp only [List.map_cons, PyData.eqvAll, PyData.eqv, eqv_ints, ih]; simp
  simp only [s1, Bool.and_self, if_true, PyData.eqv]
  rw [eds, eq]; rfl
theorem et_neTups {m m' : ME} {xs : List (List Int)} (h : Er b Γ m (dL (tEq (xs.map chW))) c1) (h' : Ev b Γ m' (.val (tLs (tEq (xs.map chW)))) c2) : Et b Γ (mTest (mBin neOp m m')) False True (c1 + c2) :=
  et_le (et_test (x := false) (ev_binR (U := tLs (tEq (xs.map chW))) h h' fun S G n x y hc q hy => by
    obtain ⟨us, rfl, q⟩ := q
    obtain rfl : us = xs.map chW := q
    obtain ⟨k, z, rfl, _, hg, vs, rfl, e⟩ := hy
    obtain rfl : vs = xs.map chW := e
    rw [ne_tupsL hc hg rfl]; exact ⟨Fr.refl, rfl⟩)) (fun z => by cases z) fun _ => trivial
end
/-! ### a program shown -/
def prD (sk : List It) (ln rs : List Int) : PyData := .tuple [skD sk, .tuple (ln.map PyData.int), .tuple (rs.map PyData.int)]
theorem pr_dat0 (G : Cells) (sk : List It) (ln rs : List Int) : dat G 60 (.tup [skW sk, .tup (ln.map W.int), .tup (rs.map W.int)]) = some (prD sk ln rs) := by
  refine da_tup ?_
  simp only [mapO, sk_dat G 56 sk, da_ints G 57 ln, da_ints G 57 rs]
theorem pr_sh0 {sk : List It} {ln rs : List Int} (hs : Skel sk) (h1 : ln.length ≤ 40) (h2 : rs.length ≤ 40) (k1 : ∀ x ∈ ln, 0 ≤ x ∧ x ≤ 1000000000) (k2 : ∀ x ∈ rs, 0 ≤ x ∧ x ≤ 1000000000) : Sh 50000 (prD sk ln rs) :=
  (sh_tup (b := 10000) (n := 3) (by simp) fun d hd => by
    simp only [List.mem_cons, List.not_mem_nil, or_false] at hd
    rcases hd with rfl | rfl | rfl
    · exact sk_sh hs
    · exact (sh_ints h1 fun x hx => by have := k1 x hx; omega).wide (by decide)
    · exact (sh_ints h2 fun x hx => by have := k2 x hx; omega).wide (by decide)).wide (by decide)
end NS
/- part GS -/
set_option maxHeartbeats 1000000
namespace NS
open PySem PySem.Spec PyProof.Rows L2 PL

/-! ### all that serve, in order -/
theorem cwithin_fn {js : List Int} (hl : js.length ≤ 13) : Fn sNil Mchoices_within (cN [tEq (chW js)]) (.val (tLs (tEq ((chL js).map chW)))) 0 := by
  have hp : ∀ i, (chL (js.take i)).length ≤ 8192 := fun i => by
    rw [chL_len]
    exact Nat.pow_le_pow_right (by decide) (show _ ≤ 13 by rw [List.length_take]; omega)
  apply fn_of (np := 1) (nn := 4)
  · rfl
  · intro Sp G0
    show Es (nilB Sp G0 tAny) [.ty (tEq (chW js)), .no, .no, .no] Bchoices_within _ _ _
    unfold Bchoices_within
    apply es_asg (R0 := .new (dL (tEq [chW []])))
    · exact ev_one (eq_cons (ev_tupE eq_nil) eq_nil)
    · simp
    apply es_rel (i := 1) rfl
    apply es_for (p := fun xs => xs = js.map W.int) 13 (fun _ _ (_ : Unit) => True) (fun _ i _ => [.ty (tEq (chW js)), .ty (tLs (tEq ((chL (js.take i)).map chW))), .no, .no]) (fun _ _ w => tEq w)
    · exact ei_seqS (ev_le (ev_var rfl) seq_t)
    · exact fun S G xs q => ⟨q, by rw [show xs = _ from q, List.length_map]; exact hl⟩
    · exact fun _ _ _ _ _ _ _ => rfl
    · rintro xs rfl
      exact ⟨(), trivial, EnvLe.refl _⟩
    · rintro xs i w _ pit rfl hw _
      obtain ⟨j, hj, rfl⟩ := map_at hw
      have hh := hp i
      have ht : chL (js.take (i + 1)) = chL (js.take i) ++ (chL (js.take i)).map (· ++ [j]) := by rw [take_one hj, chL_snoc]
      refine ⟨_, eg_set (by simp), ?_⟩
      apply es_end
      apply es_asg (R0 := .new (dL (tEq ((chL (js.take (i + 1))).map chW))))
      · apply ev_nle
        · refine ev_addE (er_val (ev_var rfl)) (er_new (ev_lcM 8192 (chL (js.take i)) chW (fun c => chW (c ++ [j])) (ei_seqS (ev_le (ev_var rfl) seq_l)) hh (by decide) fun c hc => ⟨_, eg_set (by simp [wipeG]), ev_bin (ev_var rfl) (ev_tupE (eq_cons (ev_var rfl) eq_nil)) fun G => ?_⟩)) ?_
          · show addW G (.tup (c.map W.int)) (.tup [W.int j]) = .ok (.tup ((c ++ [j]).map W.int)) G
            have hcl : c.length ≤ 13 := by
              have h1 := (mem_chL.mp hc).length_le
              rw [List.length_take] at h1
              omega
            rw [e_addT (by simp; omega), List.map_append]; rfl
          · simp only [List.length_map]; omega
        · refine dL_le fun S G ws q => ?_
          rw [show ws = _ from q, ht]
          show _ = _
          rw [List.map_append, List.map_map]; rfl
      · simp
      apply es_rel (i := 1) rfl
      exact es_nxX () trivial (.cons (SlLe.refl _) (.cons (SlLe.refl _) (.cons (.no _) (.cons (SlLe.refl _) .nil))))
    · rintro xs _ rfl _
      rw [List.length_map, List.take_length]
      exact es_ret (ev_var rfl)
  · decide
theorem ev_sortLG {b : Bs} {Γ : TEnv} {c : Nat} {m : ME} {nss : List (List Int)} (h : Er b Γ m (dL (tEq (tupsW nss))) c) : Ev b Γ (mCall sortedLW (mCons m mNil)) (.new (dL (tEq (tupsW (nss.mergeSort leL))))) c :=
  ev_read h fun S G n x hc q => by
    obtain ⟨ws, rfl, q⟩ := q
    obtain rfl : ws = tupsW nss := q
    rw [e_sortL hc]
    exact ⟨Fr.push, G.length, _, rfl, Nat.le_refl _, push_get _ _, _, rfl, rfl⟩
/-- all that serve, in order -/
theorem serving_fn {sk : List It} {ln rs : List Int} (hs : Skel sk) (hl : ln.length = sk.length + 1) (hr : Rea sk rs) (h13 : (jumpsN sk).length ≤ 13) : Fn sNil Mserving (cN [tEq (prW sk ln rs)]) (.val (tEq (.tup (tupsW ((goodL sk ln rs).mergeSort leL))))) 0 := by
  have h24 := hs.len2
  have hn : (chL (jumpsN sk)).length ≤ 8192 := by
    rw [chL_len]
    exact Nat.pow_le_pow_right (by decide) h13
  have p0 : ∀ G : Cells, getW G (prW sk ln rs) (.int 0) = .ok (skW sk) G := fun G => e_getT rfl (by decide)
  apply fn_of (np := 1) (nn := 3)
  · rfl
  · intro Sp G0
    show Es (nilB Sp G0 tAny) [.ty (tEq (prW sk ln rs)), .no, .no] Bserving _ _ _
    unfold Bserving
    apply es_asg (R0 := .val (tLs (tEq ((chL (jumpsN sk)).map chW))))
    · exact ev_def (cwithin_fn h13) (ea_cons (ev_def (jumps_of_fn h24) (ea_cons (ev_bin (ev_var rfl) (ev_c _) p0) ea_nil)) ea_nil)
    · simp
    apply es_ret
    refine ev_le (ev_tupOf (er_new (ev_sortLG (nss := goodL sk ln rs) (er_new (ev_nle (ev_lcFM (c2 := 0) 8192 (chL (jumpsN sk)) chW (fun c => if decide (stuckN sk ln rs c = []) = true then some (chW c) else none) (ei_seqS (ev_le (ev_var rfl) seq_l)) hn (by decide) fun c _ => ⟨_, _, _, eg_set (by simp [wipeG]), et_tru (x := decide (stuckN sk ln rs c = [])) (ev_def (serves_fn (ch := c) hs (by omega) hr) (ea_cons (ev_var rfl) (ea_cons (ev_le (ev_var rfl) seq_t) ea_nil))) fun G => rfl, fun h => ⟨_, if_pos h, ev_var rfl⟩, fun h => if_neg (by rw [h]; simp)⟩) (dL_le fun S G ws q => ?_)))))) tTup_eq
    rw [show ws = _ from q]
    show _ = _
    unfold goodL tupsW
    generalize chL (jumpsN sk) = xs
    induction xs with
    | nil => rfl
    | cons x xs ih =>
      rw [List.filterMap_cons, List.filter_cons]
      cases h : decide (stuckN sk ln rs x = []) with
      | true => simp only [if_true, List.map_cons, ih]
      | false => simp only [Bool.false_eq_true, if_false, ih]
  · decide
end NS
/- part LA -/
set_option maxHeartbeats 1000000
namespace NS
open PySem PySem.Spec PyProof.Rows L2 PL

/-! ### dicts of whole numbers, judged -/
section
variable {b : Bs} {Γ : TEnv} {c1 c2 c3 : Nat} {N : Nat → PEnv → Cells → Prop} {R : RT}
theorem ev_dict0 : Ev b Γ mDict0 (.new (dD (tEq []))) 0 := fun n S E G hn e =>
  ⟨b.I.nil Fr.push e.inv, Fr.push, G.length, _, rfl, Nat.le_refl _, push_get _ _, _, rfl, rfl⟩
theorem es_dput {i : Nat} {m mk : ME} {m' : MS} {kvs : List (Key × W)} {y : W} {j : Int} (hs : Γ[i]? = some (.own (dD (tEq kvs)))) (h : Ev b Γ m (.val (tEq y)) c1) (hk : Ev b Γ mk (.val (tEq (.int j))) c2) (hne : ∀ p ∈ kvs, p.1 ≠ Sum.inl j) (hl : kvs.length ≤ 10000) (k : Es b (Γ.set i (.own (dD (tEq (kvs ++ [(Sum.inl j, y)]))))) m' N R c3) : Es b Γ (sSeq (sAsg m (gPut (mVar i) mk)) m') N R (c1 + c2 + c3) := fun n S E G hn e => by
  refine so_seq ?_
  rw [t_asg]
  refine (h n S E G (by omega) e).mono fun w G1 q1 => ?_
  obtain ⟨i1, f1, q1⟩ := q1
  obtain rfl : w = y := q1
  have e1 := e.mv i1 f1
  obtain ⟨a, x, he, _, _⟩ := e1.sl i _ hs
  rw [g_put, s_var]
  refine ⟨_, he, ?_⟩
  refine (hk _ S E G1 (by omega) e1).mono fun y G2 q2 => ?_
  obtain ⟨i2, f2, q2⟩ := q2
  obtain rfl : y = .int j := q2
  have e2 := e1.mv i2 f2
  obtain ⟨a', x', he', hc', us, rfl, q'⟩ := e2.sl i _ hs
  rw [he] at he'; cases he'
  obtain rfl : us = kvs := q'
  have hp : putOp a (.int j) w G2 = some (G2.set a (.dct (us ++ [(Sum.inl j, w)]))) := by
    unfold putOp
    simp only [hc', keyW]
    rw [if_pos (by unfold sizeLine; omega), putW_new hne]
  refine ⟨_, rfl, _, hp, ?_⟩
  exact (k _ _ _ _ (by omega) (e2.write hs he ⟨_, rfl, rfl⟩)).mono (fun E2 G2 ⟨i, q⟩ => ⟨i, by omega, q.2⟩) fun _ _ q => ⟨b.I.up (by omega) q.1, q.2⟩
theorem ev_dget {m mk : ME} {kvs : List (Key × W)} {j : Int} {y : W} (h : Er b Γ m (dD (tEq kvs)) c1) (hk : Ev b Γ mk (.val (tEq (.int j))) c2) (hv : valW kvs (Sum.inl j) = some y) : Ev b Γ (mBin getW m mk) (.val (tEq y)) (c1 + c2) :=
  ev_binR h hk fun S G n x z hc q hz => by
    obtain ⟨us, rfl, q⟩ := q
    obtain rfl : us = kvs := q
    obtain rfl : z = .int j := hz
    have : getW G (.ref n) (.int j) = .ok y G := by
      unfold getW
      simp only [hc, keyW, hv]
    rw [this]; exact ⟨Fr.refl, rfl⟩
end
/-! ### what is laid, and the ways of short jumps -/
theorem spots_fn {sk : List It} {ln ch : List Int} (h24 : sk.length ≤ 24) (hf : ∀ a, It.fil a ∈ sk → fillOk a) (hl : sk.length ≤ ln.length) : Fn sNil M_law_spots (cN [tEq (skW sk), tSeq (ln.map W.int), tSeq (ch.map W.int)]) (.new (dL (tEq (layW sk ln ch sk.length)))) 0 := by
  apply fn_of (np := 3) (nn := 8)
  · rfl
  · intro Sp G0
    show Es (nilB Sp G0 tAny) [.ty (tEq (skW sk)), .ty (tSeq (ln.map W.int)), .ty (tSeq (ch.map W.int)), .no, .no, .no, .no, .no] B_law_spots _ _ _
    unfold B_law_spots
    apply es_par (R0 := .val (tEq (.int 0))) (R1 := .new (dL (tEq [])))
    · exact (ev_c _)
    · exact ev_one eq_nil
    · simp
    · simp
    apply es_for (p := fun xs => xs = enW (sk.map It.w)) 24 (fun _ _ (_ : Unit) => True) (fun _ i _ => [.ty (tEq (skW sk)), .ty (tSeq (ln.map W.int)), .ty (tSeq (ch.map W.int)), .ty (tEq (.int (En sk ln ch i))), .own (dL (tEq (layW sk ln ch i))), .no, .no, .no]) (fun _ _ w => tEq w)
    · exact ei_enS (ev_le (ev_var rfl) seq_t)
    · exact fun S G xs q => ⟨q, by rw [show xs = _ from q, enW_len]; simpa using h24⟩
    · exact fun _ _ _ _ _ _ _ => rfl
    · rintro xs rfl
      exact ⟨(), trivial, EnvLe.refl _⟩
    · rintro xs i w _ pit rfl hw _
      obtain ⟨x, hx, rfl⟩ := enW_inv hw
      obtain ⟨it, hit, rfl⟩ := map_at hx
      have hil : i < sk.length := (List.getElem?_eq_some_iff.mp hit).1
      have e2 := En_succ (ln := ln) (ch := ch) hit
      refine ⟨_, eg_le (eg_tup2 (by simp) (by simp)) tPair, ?_⟩
      apply es_asg (R0 := .val (tEq (.int (Bg sk ln ch i))))
      · exact ev_bin (ev_var rfl) (ev_getS (ev_var rfl) (ev_var rfl) (ints_at (by omega))) fun G => e_add G _ _
      · simp
      apply es_asg (R0 := .val (tEq (.int (Bg sk ln ch i))))
      · exact (ev_var rfl)
      · simp
      show Es _ [.ty (tEq (skW sk)), .ty (tSeq (ln.map W.int)), .ty (tSeq (ch.map W.int)), .ty (tEq (.int (Bg sk ln ch i))), .own (dL (tEq (layW sk ln ch i))), .ty (tEq (.int (i : Int))), .ty (tEq it.w), .ty (tEq (.int (Bg sk ln ch i)))] _ _ _ _
      apply es_ifE [.ty (tEq (skW sk)), .ty (tSeq (ln.map W.int)), .ty (tSeq (ch.map W.int)), .ty (tEq (.int (En sk ln ch (i + 1)))), .own (dL (tEq (layW sk ln ch i))), .ty (tEq (.int (i : Int))), .ty (tEq it.w), .ty (tEq (.int (Bg sk ln ch i)))]
      · exact kF (ev_var rfl)
      · intro hF
        obtain ⟨a, rfl⟩ : ∃ a, it = .fil a := by cases it <;> first | exact ⟨_, rfl⟩ | cases hF
        have ha := hf a (List.mem_of_getElem? hit)
        apply es_end
        apply es_asg (R0 := .val (tEq (.int (En sk ln ch (i + 1)))))
        · refine ev_le (ev_bin (ev_var rfl) (ev_bin (ev_call (eq_cons (ev_bin (ev_c _) (ev_var rfl) fun G => e_sub G _ _) eq_nil) fun G => e_int G _) (ev_bin (ev_var rfl) (ev_c _) fun G => w_f1 a G) fun G => e_mod (fill_pos ha).1) fun G => e_add G _ _) fun S G w e => ?_
          rw [show w = _ from e, e2, show (0 : Int) - Bg sk ln ch i = -Bg sk ln ch i from by omega]; rfl
        · simp
        exact es_nx
      · intro hF
        apply es_if
        · exact kJ (ev_var rfl)
        · intro hJ
          obtain ⟨g, s, l, rfl⟩ : ∃ g s l, it = .jmp g s l := by cases it <;> first | exact ⟨_, _, _, rfl⟩ | cases hJ
          apply es_end
          apply es_asg (R0 := .val (tEq (.int (En sk ln ch (i + 1)))))
          · refine ev_le (ev_bin (ev_var rfl) (ev_if (R := .val (tEq (.int (ownB (.jmp g s l) (Bg sk ln ch i) (isLong ch i))))) (et_test (ev_inS (ev_var rfl) (ev_var rfl))) (fun h => ev_le (ev_bin (ev_var rfl) (ev_c _) fun G => w_j3 g s l G) fun S G w e => by rw [show w = _ from e]; show _ = W.int (if isLong ch i = true then l else s); rw [if_pos (show isLong ch i = true from h)]) fun h => ev_le (ev_bin (ev_var rfl) (ev_c _) fun G => w_j2 g s l G) fun S G w e => by rw [show w = _ from e]; show _ = W.int (if isLong ch i = true then l else s); rw [if_neg (by rw [show isLong ch i = false from h]; exact Bool.false_ne_true)]) fun G => e_add G _ _) fun S G w e => ?_
            rw [show w = _ from e, e2]; rfl
          · simp
          exact es_nx
        · intro hJ
          apply es_nxL
          refine .cons (SlLe.refl _) (.cons (SlLe.refl _) (.cons (SlLe.refl _) (.cons (.ty fun S G w e => ?_) (EnvLe.refl _))))
          cases it with
          | lab => rw [show w = _ from e, e2]; show W.int _ = W.int (_ + 0); rw [Int.add_zero]
          | fil a => cases hF
          | jmp g s l => cases hJ
      apply es_end
      apply es_app (i := 4) (C' := tEq (layW sk ln ch (i + 1))) rfl
      · exact ev_tupE (eq_cons ((ev_var rfl)) (eq_cons ((ev_var rfl)) eq_nil))
      · intro S G ws w e1 e2
        rw [show ws = _ from e1, show w = _ from e2]
        exact ⟨(layW_succ sk ln ch i).symm, by rw [layW_len]; omega⟩
      exact es_nxX () trivial (.cons (SlLe.refl _) (.cons (SlLe.refl _) (.cons (SlLe.refl _) (.cons (SlLe.refl _) (.cons (SlLe.refl _) (.cons (.no _) (.cons (.no _) (.cons (.no _) .nil))))))))
    · rintro xs _ rfl _
      rw [enW_len, List.length_map]
      exact es_retO (i := 4) rfl Tle.refl
  · decide
theorem js_nd (sk : List It) : (jumpsN sk).Nodup := (places_lt (p := It.isJ)).1.imp fun h => by omega
/-- the ways of those of js that are not long -/
def waysK (sk : List It) (ln ch js : List Int) : List (Key × W) := (js.filter fun j => !decide (j ∈ ch)).map fun j => (Sum.inl j, W.int (Wy sk ln ch j))
theorem waysK_ne {sk : List It} {ln ch js : List Int} {j : Int} (h : j ∉ js) : ∀ p ∈ waysK sk ln ch js, p.1 ≠ Sum.inl j := fun p hp e => by
  obtain ⟨i, hi, rfl⟩ := List.mem_map.mp hp
  have := Sum.inl.inj e
  subst this
  exact h (List.mem_filter.mp hi).1
theorem waysK_val {sk : List It} {ln ch js : List Int} {j : Int} (h : j ∈ js) (hc : j ∉ ch) : valW (waysK sk ln ch js) (Sum.inl j) = some (.int (Wy sk ln ch j)) :=
  valW_map (κ := Key) (fun j : Int => (Sum.inl j : Key)) (fun j => W.int (Wy sk ln ch j)) _ (fun x _ y _ e => Sum.inl.inj e) (List.mem_filter.mpr ⟨h, by simp [hc]⟩)
theorem ways_fn {sk : List It} {ln ch : List Int} (hs : Skel sk) (hl : sk.length ≤ ln.length) : Fn sNil M_law_ways (cN [tEq (skW sk), tSeq (ln.map W.int), tSeq (ch.map W.int)]) (.new (dD (tEq (waysK sk ln ch (jumpsN sk))))) 0 := by
  have h24 := hs.len2
  have jl := jumpsN_len (sk := sk)
  apply fn_of (np := 3) (nn := 7)
  · rfl
  · intro Sp G0
    show Es (nilB Sp G0 tAny) [.ty (tEq (skW sk)), .ty (tSeq (ln.map W.int)), .ty (tSeq (ch.map W.int)), .no, .no, .no, .no] B_law_ways _ _ _
    unfold B_law_ways
    apply es_par (R0 := .new (dL (tEq (layW sk ln ch sk.length)))) (R1 := .new (dD (tEq [])))
    · exact ev_def (spots_fn h24 (fun a h => hs.items _ h) hl) (ea_cons ((ev_var rfl)) (ea_cons ((ev_var rfl)) (ea_cons ((ev_var rfl)) ea_nil)))
    · exact ev_dict0
    · simp
    · simp
    apply es_rel (i := 3) rfl
    apply es_for (p := fun xs => xs = (jumpsN sk).map W.int) 24 (fun _ i (_ : Unit) => i ≤ 24) (fun _ i _ => [.ty (tEq (skW sk)), .ty (tSeq (ln.map W.int)), .ty (tSeq (ch.map W.int)), .ty (tLs (tEq (layW sk ln ch sk.length))), .own (dD (tEq (waysK sk ln ch ((jumpsN sk).take i)))), .no, .no]) (fun _ _ w => tEq w)
    · exact ei_seqS (ev_le (ev_nv (ev_def (jumps_fn h24) (ea_cons ((ev_var rfl)) ea_nil))) seq_l)
    · exact fun S G xs q => ⟨q, by rw [show xs = _ from q, List.length_map]; omega⟩
    · exact fun _ _ _ _ _ _ _ => rfl
    · rintro xs rfl
      exact ⟨(), by omega, EnvLe.refl _⟩
    · rintro xs i w _ pit rfl hw hi24
      obtain ⟨j, hj, rfl⟩ := map_at hw
      have hil := (List.getElem?_eq_some_iff.mp hj).1
      have hjm := List.mem_of_getElem? hj
      obtain ⟨p, s, l, rfl, hJ⟩ := hs.jmpN hjm
      have hlt := hJ.lt
      have ht : (jumpsN sk).take (i + 1) = (jumpsN sk).take i ++ [(p : Int)] := take_one hj
      refine ⟨_, eg_set (by simp), ?_⟩
      apply es_asg (R0 := .val (tEq (.int (goalOf sk p : Int))))
      · exact ev_bin (ev_getS (ev_le (ev_var rfl) seq_t) (ev_var rfl) (show (sk.map It.w)[p]? = some (It.jmp (goalOf sk p : Int) s l).w by rw [List.getElem?_map, hJ.at']; rfl)) (ev_c _) fun G => w_j1 _ _ _ G
      · simp
      show Es _ [.ty (tEq (skW sk)), .ty (tSeq (ln.map W.int)), .ty (tSeq (ch.map W.int)), .ty (tLs (tEq (layW sk ln ch sk.length))), .own (dD (tEq (waysK sk ln ch ((jumpsN sk).take i)))), .ty (tEq (.int (p : Int))), .ty (tEq (.int (goalOf sk p : Int)))] _ _ _ _
      apply es_if (p := (p : Int) ∉ ch) (q := (p : Int) ∈ ch)
      · exact et_le (et_test (ev_notinS (i := (p : Int)) (ch := ch) (ev_var rfl) (ev_var rfl))) (fun h => by simpa using h) fun h => by simpa using h
      · intro hn
        apply es_end
        apply es_dput (i := 4) (y := .int (Wy sk ln ch (p : Int))) (j := (p : Int)) rfl
        · refine ev_if (et_gtI (i := (goalOf sk p : Int)) (j := (p : Int)) (ev_var rfl) (ev_var rfl)) (fun h => ev_le (ev_bin (ev_bin (ev_getS (ev_le (ev_var rfl) seq_l) (ev_var rfl) (layW_get hlt.2)) (ev_c _) fun G => pr0 _ _ G) (ev_bin (ev_getS (ev_le (ev_var rfl) seq_l) (ev_var rfl) (layW_get hlt.1)) (ev_c _) fun G => pr1 _ _ G) fun G => e_sub G _ _) fun S G w e => ?_) fun h => ev_le (ev_bin (ev_bin (ev_getS (ev_le (ev_var rfl) seq_l) (ev_var rfl) (layW_get hlt.1)) (ev_c _) fun G => pr1 _ _ G) (ev_bin (ev_getS (ev_le (ev_var rfl) seq_l) (ev_var rfl) (layW_get hlt.2)) (ev_c _) fun G => pr0 _ _ G) fun G => e_sub G _ _) fun S G w e => ?_
          · rw [show w = _ from e, Wy_eq hJ]; unfold wayN; rw [if_pos (by omega)]; rfl
          · rw [show w = _ from e, Wy_eq hJ]; unfold wayN; rw [if_neg (by omega)]; rfl
        · exact ev_var rfl
        · exact waysK_ne fun z => by
            obtain ⟨k, hk⟩ := List.mem_iff_getElem?.mp z
            have hki : k < i := by have := (List.getElem?_eq_some_iff.mp hk).1; simp at this; omega
            rw [List.getElem?_take_of_lt hki] at hk
            have := (List.getElem?_inj (by omega) (js_nd sk)).mp (hk.trans hj.symm)
            omega
        · unfold waysK
          rw [List.length_map]
          exact Nat.le_trans (List.length_filter_le _ _) (by rw [List.length_take]; omega)
        have : waysK sk ln ch ((jumpsN sk).take i) ++ [(Sum.inl (p : Int), W.int (Wy sk ln ch (p : Int)))] = waysK sk ln ch ((jumpsN sk).take (i + 1)) := by
          rw [ht]; unfold waysK; rw [List.filter_append, List.map_append]; simp [hn]
        rw [this]
        exact es_nxX () (by omega) (.cons (SlLe.refl _) (.cons (SlLe.refl _) (.cons (SlLe.refl _) (.cons (SlLe.refl _) (.cons (SlLe.refl _) (.cons (.no _) (.cons (.no _) .nil)))))))
      · intro hn
        have : waysK sk ln ch ((jumpsN sk).take i) = waysK sk ln ch ((jumpsN sk).take (i + 1)) := by
          rw [ht]; unfold waysK; rw [List.filter_append, List.map_append]; simp [hn]
        rw [this]
        exact es_nxX () (by omega) (.cons (SlLe.refl _) (.cons (SlLe.refl _) (.cons (SlLe.refl _) (.cons (SlLe.refl _) (.cons (SlLe.refl _) (.cons (.no _) (.cons (.no _) .nil)))))))
    · rintro xs _ rfl _
      rw [List.length_map, List.take_length]
      exact es_retO (i := 4) rfl Tle.refl
  · decide
end NS
/- part LB -/
set_option maxHeartbeats 1000000
namespace NS
open PySem PySem.Spec PyProof.Rows L2 PL

/-! ### what fits, by the law's own dicts -/
def fitF (fx gx : Int → Int) : W → Option W
  | .int j => if gx j < fx j then some (.int 1) else none
  | _ => none
theorem ev_fits {b : Bs} {Γ : TEnv} {js : List Int} {fx gx : Int → Int} {kvs : List (Key × W)} (hl : js.length ≤ 100) (h5 : Γ[5]? = some (.own (dD (tEq (js.map fun j => (Sum.inl j, W.int (fx j))))))) (h6 : Γ[6]? = some (.own (dD (tEq kvs)))) (hk : ∀ j ∈ js, valW kvs (Sum.inl j) = some (.int (gx j))) (h7 : 7 < Γ.length) :
    Ev b Γ (mBin eqOp (mLcD 5 vwK (gSet 7) (mTest (mBin gtW (mBin getW (mVar 5) (mVar 7)) (mBin getW (mVar 6) (mVar 7)))) (mC (.int 1)) [7]) (mLst mNil)) (.val (tEq (.bl (js.all fun j => decide (fx j ≤ gx j))))) 0 := fun n S E G hn e => by
  obtain ⟨n5, x5, e5, g5, us5, rfl, q5⟩ := e.sl 5 _ h5
  obtain rfl : us5 = _ := q5
  obtain ⟨n6, x6, e6, g6, us6, rfl, q6⟩ := e.sl 6 _ h6
  obtain rfl : us6 = kvs := q6
  have hne : n6 ≠ n5 := fun z => by
    subst z
    have := e.dist 5 6 _ _ n6 h5 h6 e5 e6
    omega
  have h7E := e.lt h7
  rw [s_bin]
  have hv : vwK (js.map fun j => ((Sum.inl j : Key), W.int (fx j))) = js.map W.int := by
    unfold vwK; rw [List.map_map]; rfl
  refine lcD_pure e5 g5 (fitF fx gx) (by rw [hv, List.length_map]; omega) (fun k w G' hw f hlk => ?_) fun p G' f hp hg => ?_
  · rw [hv] at hw
    obtain ⟨j, hj, rfl⟩ := map_at hw
    have hjm := List.mem_of_getElem? hj
    have hg6 : G'[n6]? = some (.dct us6) := f.get g6 (by simp [hne])
    have w5 : ((wipeE E [7]).set 7 (some (W.int j)))[5]? = some (some (.ref n5)) := by
      rw [List.getElem?_set_ne (by decide)]; show (E.set 7 none)[5]? = _; rw [List.getElem?_set_ne (by decide)]; exact e5
    have w6 : ((wipeE E [7]).set 7 (some (W.int j)))[6]? = some (some (.ref n6)) := by
      rw [List.getElem?_set_ne (by decide)]; show (E.set 7 none)[6]? = _; rw [List.getElem?_set_ne (by decide)]; exact e6
    have w7 : ((wipeE E [7]).set 7 (some (W.int j)))[7]? = some (some (.int j)) := by
      rw [List.getElem?_set_self (by show 7 < (E.set 7 none).length; rw [List.length_set]; exact h7E)]
    have v5 : valW (js.map fun j => ((Sum.inl j : Key), W.int (fx j))) (Sum.inl j) = some (.int (fx j)) :=
      valW_map (κ := Key) (fun j : Int => (Sum.inl j : Key)) (fun j => W.int (fx j)) _ (fun x _ y _ e => Sum.inl.inj e) hjm
    have gw5 : getW G' (.ref n5) (.int j) = .ok (.int (fx j)) G' := by
      unfold getW; simp only [hlk, keyW, v5]
    have gw6 : getW G' (.ref n6) (.int j) = .ok (.int (gx j)) G' := by
      unfold getW; simp only [hg6, keyW, hk j hjm]
    rw [g_set, s_test, s_bin, s_bin, s_var]
    refine ⟨_, w5, ?_⟩
    rw [s_var]
    refine ⟨_, w7, ?_⟩
    rw [gw5, v_ok, s_bin, s_var]
    refine ⟨_, w6, ?_⟩
    rw [s_var]
    refine ⟨_, w7, ?_⟩
    rw [gw6, v_ok, e_gt, v_ok]
    refine ⟨_, rfl, ?_⟩
    by_cases h : gx j < fx j
    · rw [if_pos (by simpa using h), v_c]
      exact ⟨if_pos h, Fr.refl⟩
    · rw [if_neg (by simpa using h)]
      exact ⟨if_neg h, Fr.refl⟩
  · rw [hv] at hg
    have i1 : b.I.P n G' := b.I.nil f e.inv
    have hem : (js.map W.int).filterMap (fitF fx gx) = ((js.filter fun j => decide (gx j < fx j)).map fun _ => (1 : Int)).map W.int := by
      clear hg h5 hk hv hl g5
      induction js with
      | nil => rfl
      | cons x xs ih =>
        rw [List.map_cons, List.filterMap_cons, List.filter_cons]
        by_cases h : gx x < fx x
        · simp only [fitF, if_pos h, decide_eq_true h, if_true, List.map_cons, ih]
        · simp only [fitF, if_neg h, decide_eq_false h, Bool.false_eq_true, if_false, ih]
    rw [hem] at hg
    have nl : (mLst mNil E G') = .ok (.ref G'.length) (G' ++ [.lst []]) := rfl
    rw [nl, v_ok]
    have fr2 : Fr [] G' (G' ++ [.lst []]) := Fr.push
    rw [eq_lnil (fr2.get hg (by simp)) (push_get G' _) (fun w hw => by obtain ⟨i, _, rfl⟩ := List.mem_map.mp hw; exact int_dt i), v_ok]
    refine ⟨b.I.nil fr2 i1, (f.trans fr2).of_nil, ?_⟩
    show W.bl _ = W.bl _
    congr 1
    clear hg hem h5 hk hv hl g5
    induction js with
    | nil => rfl
    | cons x xs ih =>
      rw [List.filter_cons, List.all_cons]
      by_cases h : gx x < fx x
      · have : ¬ fx x ≤ gx x := by omega
        simp [h, this]
      · have : fx x ≤ gx x := by omega
        simp only [h, decide_false, Bool.false_eq_true, if_false, this, decide_true, Bool.true_and]
        exact ih
theorem stuck_all {sk : List It} {ln rs ch : List Int} (hr : Rea sk rs) : (stuckN sk ln rs ch = []) ↔ ∀ (i : Nat) (j r : Int), (jumpsN sk)[i]? = some j → rs[i]? = some r → j ∉ ch → Wy sk ln ch j ≤ r := by
  rw [stuck_nil]
  constructor
  · intro h i j r h1 h2 h3
    exact (h i j r h1 h2).resolve_left h3
  · intro h i j r h1 h2
    by_cases h3 : j ∈ ch
    · exact .inl h3
    · exact .inr (h i j r h1 h2 h3)
/-- the reach of a jump -/
def reaF (sk : List It) (rs : List Int) (j : Int) : Int := (valW (((jumpsN sk).map Sum.inl : List Key).zip (rs.map W.int)) (Sum.inl j)).elim 0 fun w => match w with | .int r => r | _ => 0
theorem val_zip {js rs : List Int} (hn : js.Nodup) (hl : rs.length = js.length) {i : Nat} {j r : Int} (h1 : js[i]? = some j) (h2 : rs[i]? = some r) : valW (((js.map Sum.inl : List Key)).zip (rs.map W.int)) (Sum.inl j) = some (.int r) := by
  induction js generalizing rs i with
  | nil => simp at h1
  | cons x xs ih =>
    cases rs with
    | nil => simp at hl
    | cons y ys =>
      obtain ⟨n1, n2⟩ := List.nodup_cons.mp hn
      show valW ((Sum.inl x, W.int y) :: ((xs.map Sum.inl : List Key)).zip (ys.map W.int)) (Sum.inl j) = _
      cases i with
      | zero =>
        simp at h1 h2
        subst h1 h2
        unfold valW
        rw [List.find?_cons_of_pos (by simp)]; rfl
      | succ i =>
        simp at h1 h2
        have hx : x ≠ j := fun z => n1 (z ▸ List.mem_of_getElem? h1)
        have := ih n2 (by simpa using hl) h1 h2
        unfold valW at this ⊢
        rw [List.find?_cons_of_neg (by simp [hx])]
        exact this
theorem reaF_at {sk : List It} {rs : List Int} (hr : Rea sk rs) {i : Nat} {j r : Int} (h1 : (jumpsN sk)[i]? = some j) (h2 : rs[i]? = some r) : reaF sk rs j = r := by
  unfold reaF; rw [val_zip (js_nd sk) hr.len h1 h2]; rfl
theorem fits_fn {sk : List It} {ln rs ch : List Int} (hs : Skel sk) (hl : sk.length ≤ ln.length) (hr : Rea sk rs) : Fn sNil M_law_fits (cN [tEq (prW sk ln rs), tEq (chW ch)]) (.val (tEq (.bl (decide (stuckN sk ln rs ch = []))))) 0 := by
  have h24 := hs.len2
  have jl := jumpsN_len (sk := sk)
  have hrl := hr.len
  apply fn_of (np := 2) (nn := 8)
  · rfl
  · intro Sp G0
    show Es (nilB Sp G0 tAny) [.ty (tEq (prW sk ln rs)), .ty (tEq (chW ch)), .no, .no, .no, .no, .no, .no] B_law_fits _ _ _
    unfold B_law_fits
    apply es_asgG (T := tTup (cN [tEq (skW sk), tEq (.tup (ln.map W.int)), tEq (.tup (rs.map W.int))]))
    · exact ev_le (ev_var rfl) fun S G w q => ⟨_, q, rfl, rfl, rfl, trivial⟩
    · exact eg_tup3 (by simp) (by simp) (by simp)
    apply es_asg (R0 := .new (dD (tEq (waysK sk ln ch (jumpsN sk)))))
    · exact ev_def (ways_fn hs hl) (ea_cons (ev_var rfl) (ea_cons (ev_le (ev_var rfl) seq_t) (ea_cons (ev_le (ev_var rfl) seq_t) ea_nil)))
    · simp
    apply es_asg (R0 := .new (dD (tEq (((jumpsN sk).map Sum.inl : List Key).zip (rs.map W.int)))))
    · exact ev_dictZ (er_new (ev_def (jumps_fn h24) (ea_cons (ev_var rfl) ea_nil))) (ev_var rfl) (js_nd sk)
    · simp
    apply es_ret
    refine ev_le (ev_fits (js := (jumpsN sk).filter fun j => !decide (j ∈ ch)) (fx := fun j => Wy sk ln ch j) (gx := reaF sk rs) (Nat.le_trans (List.length_filter_le _ _) (by omega)) rfl rfl (fun j hj => ?_) (by simp)) fun S G w q => ?_
    · obtain ⟨i, hi⟩ := List.mem_iff_getElem?.mp (List.mem_filter.mp hj).1
      have hil := (List.getElem?_eq_some_iff.mp hi).1
      have hri := List.getElem?_eq_getElem (show i < rs.length by omega)
      rw [reaF_at hr hi hri]
      exact val_zip (js_nd sk) hrl hi hri
    · rw [show w = _ from q]
      show W.bl _ = W.bl _
      congr 1
      rw [Bool.eq_iff_iff, decide_eq_true_iff, List.all_eq_true, stuck_all hr]
      constructor
      · intro h i j r h1 h2 h3
        have := h j (List.mem_filter.mpr ⟨List.mem_of_getElem? h1, by simpa using h3⟩)
        rw [reaF_at hr h1 h2] at this
        exact of_decide_eq_true this
      · intro h j hj
        obtain ⟨hj1, hj2⟩ := List.mem_filter.mp hj
        obtain ⟨i, hi⟩ := List.mem_iff_getElem?.mp hj1
        have hil := (List.getElem?_eq_some_iff.mp hi).1
        have hri := List.getElem?_eq_getElem (show i < rs.length by omega)
        rw [reaF_at hr hi hri]
        exact decide_eq_true (h i j _ hi hri (by simpa using hj2))
  · decide
/-- all choices, in order -/
theorem gchoices_fn {sk : List It} (hs : sk.length ≤ 24) (h13 : (jumpsN sk).length ≤ 13) : Fn sNil M_law_choices (cN [tEq (skW sk)]) (.new (dL (tEq (tupsW ((chL (jumpsN sk)).mergeSort leL))))) 0 := by
  have hp : ∀ i, (chL ((jumpsN sk).take i)).length ≤ 8192 := fun i => by
    rw [chL_len]
    exact Nat.pow_le_pow_right (by decide) (show _ ≤ 13 by rw [List.length_take]; omega)
  have jl := jumpsN_len (sk := sk)
  generalize hjs : jumpsN sk = js at *
  apply fn_of (np := 1) (nn := 4)
  · rfl
  · intro Sp G0
    show Es (nilB Sp G0 tAny) [.ty (tEq (skW sk)), .no, .no, .no] B_law_choices _ _ _
    unfold B_law_choices
    apply es_asg (R0 := .new (dL (tEq [chW []])))
    · exact ev_one (eq_cons (ev_tupE eq_nil) eq_nil)
    · simp
    apply es_rel (i := 1) rfl
    apply es_for (p := fun xs => xs = js.map W.int) 24 (fun _ _ (_ : Unit) => True) (fun _ i _ => [.ty (tEq (skW sk)), .ty (tLs (tEq ((chL (js.take i)).map chW))), .no, .no]) (fun _ _ w => tEq w)
    · exact ei_seqS (ev_le (ev_nv (ev_nle (ev_def (jumps_fn hs) (ea_cons ((ev_var rfl)) ea_nil)) (dL_le fun S G ws q => by rw [show ws = _ from q, hjs]; rfl))) seq_l)
    · exact fun S G xs q => ⟨q, by rw [show xs = _ from q, List.length_map]; omega⟩
    · exact fun _ _ _ _ _ _ _ => rfl
    · rintro xs rfl
      exact ⟨(), trivial, .cons (SlLe.refl _) (.cons (.ty (tRef_le (dL_le fun S G ws q => q))) (EnvLe.refl _))⟩
    · rintro xs i w _ pit rfl hw _
      obtain ⟨j, hj, rfl⟩ := map_at hw
      have hh := hp i
      have ht : chL (js.take (i + 1)) = chL (js.take i) ++ (chL (js.take i)).map (· ++ [j]) := by rw [take_one hj, chL_snoc]
      refine ⟨_, eg_set (by simp), ?_⟩
      apply es_end
      apply es_asg (R0 := .new (dL (tEq ((chL (js.take (i + 1))).map chW))))
      · apply ev_nle
        · refine ev_addE (er_val (ev_var rfl)) (er_new (ev_lcM 8192 (chL (js.take i)) chW (fun c => chW (c ++ [j])) (ei_seqS (ev_le (ev_var rfl) seq_l)) hh (by decide) fun c hc => ⟨_, eg_set (by simp [wipeG]), ev_bin (ev_var rfl) (ev_tupE (eq_cons (ev_var rfl) eq_nil)) fun G => ?_⟩)) ?_
          · show addW G (.tup (c.map W.int)) (.tup [W.int j]) = .ok (.tup ((c ++ [j]).map W.int)) G
            have hcl : c.length ≤ 13 := by
              have h1 := (mem_chL.mp hc).length_le
              rw [List.length_take] at h1
              omega
            rw [e_addT (by simp; omega), List.map_append]; rfl
          · simp only [List.length_map]; omega
        · refine dL_le fun S G ws q => ?_
          rw [show ws = _ from q, ht]
          show _ = _
          rw [List.map_append, List.map_map]; rfl
      · simp
      apply es_rel (i := 1) rfl
      exact es_nxX () trivial (.cons (SlLe.refl _) (.cons (SlLe.refl _) (.cons (.no _) (.cons (SlLe.refl _) .nil))))
    · rintro xs _ rfl _
      rw [List.length_map, List.take_length]
      apply es_ret
      exact ev_sortLG (er_val (ev_var rfl))
  · decide
theorem good_sort {sk : List It} {ln rs : List Int} : (goodL sk ln rs).mergeSort leL = ((chL (jumpsN sk)).mergeSort leL).filter fun c => decide (stuckN sk ln rs c = []) := by
  refine (sortL_is ?_ ?_).symm
  · unfold goodL
    exact ((List.mergeSort_perm _ leL).filter _)
  · exact (leL_sorted _).sublist List.filter_sublist
theorem all_fn {sk : List It} {ln rs : List Int} (hs : Skel sk) (hl : sk.length ≤ ln.length) (hr : Rea sk rs) (h13 : (jumpsN sk).length ≤ 13) : Fn sNil M_law_all (cN [tEq (prW sk ln rs)]) (.new (dL (tEq (tupsW ((goodL sk ln rs).mergeSort leL))))) 0 := by
  have h24 := hs.len2
  have hn : ((chL (jumpsN sk)).mergeSort leL).length ≤ 8192 := by
    rw [(List.mergeSort_perm _ leL).length_eq, chL_len]
    exact Nat.pow_le_pow_right (by decide) h13
  apply fn_of (np := 1) (nn := 2)
  · rfl
  · intro Sp G0
    show Es (nilB Sp G0 tAny) [.ty (tEq (prW sk ln rs)), .no] B_law_all _ _ _
    unfold B_law_all
    apply es_ret
    refine ev_nle (ev_lcFM (c2 := 0) 8192 ((chL (jumpsN sk)).mergeSort leL) chW (fun c => if decide (stuckN sk ln rs c = []) = true then some (chW c) else none) (ei_seqS (ev_le (ev_nv (ev_def (gchoices_fn h24 h13) (ea_cons (ev_bin (ev_var rfl) (ev_c _) fun G => e_getT rfl (by decide)) ea_nil))) seq_l)) hn (by decide) fun c _ => ⟨_, _, _, eg_set (by simp [wipeG]), et_tru (x := decide (stuckN sk ln rs c = [])) (ev_def (fits_fn (ch := c) hs hl hr) (ea_cons (ev_var rfl) (ea_cons (ev_var rfl) ea_nil))) fun G => rfl, fun h => ⟨_, if_pos h, ev_var rfl⟩, fun h => if_neg (by rw [h]; simp)⟩) (dL_le fun S G ws q => ?_)
    rw [show ws = _ from q, good_sort]
    show _ = _
    unfold tupsW
    generalize (chL (jumpsN sk)).mergeSort leL = xs
    induction xs with
    | nil => rfl
    | cons x xs ih =>
      rw [List.filterMap_cons, List.filter_cons]
      cases h : decide (stuckN sk ln rs x = []) with
      | true => simp only [if_true, List.map_cons, ih]
      | false => simp only [Bool.false_eq_true, if_false, ih]
  · decide
end NS
/- part LC -/
set_option maxHeartbeats 1000000
namespace NS
open PySem PySem.Spec PyProof.Rows L2 PL

/-! ### skeletons drawn -/
def kS : It → Str
  | .lab => "label"
  | .fil _ => "fill"
  | .jmp _ _ _ => "jump"
theorem kind_S (it : It) : it.kind = .str (kS it) := by cases it <;> rfl
theorem kS_ok (it : It) : PyData.strOk (kS it) = true := by
  have a : PyData.strOk "label" = true := by decide +kernel
  have b : PyData.strOk "fill" = true := by decide +kernel
  have c : PyData.strOk "jump" = true := by decide +kernel
  cases it
  · exact a
  · exact b
  · exact c
theorem kS_eq (it : It) : (kS it == ("label" : Str)) = it.isL := by
  have a : (("label" : Str) == ("label" : Str)) = true := by decide +kernel
  have b : (("fill" : Str) == ("label" : Str)) = false := by decide +kernel
  have c : (("jump" : Str) == ("label" : Str)) = false := by decide +kernel
  cases it
  · exact a
  · exact b
  · exact c
theorem any_kinds (ts : List It) : (ts.map fun it => PyData.str (kS it)).any (fun z => PyData.eqv z (.str "label")) = ts.any It.isL := by
  induction ts with
  | nil => rfl
  | cons x xs ih =>
    rw [List.map_cons, List.any_cons, List.any_cons, ih, PyData.eqv.eq_6, kS_eq]
theorem in_kinds {G : Cells} {n : Nat} {ts : List It} (h : G[n]? = some (.lst (ts.map It.kind))) : inW true G (.str "label") (.ref n) = .ok (.bl (!ts.any It.isL)) G := by
  have e2 : ∀ ts : List It, mapO (dat G 59) (ts.map It.kind) = some (ts.map fun it => PyData.str (kS it)) := by
    intro ts
    induction ts with
    | nil => rfl
    | cons x xs ih =>
      have : dat G 59 x.kind = some (.str (kS x)) := by rw [kind_S]; rfl
      simp only [List.map_cons, mapO, this, ih]
  have h1 : ∀ ts : List It, PyData.canLayAll0 (ts.map fun it => PyData.str (kS it)) = true ∧ PyData.depthAll (ts.map fun it => PyData.str (kS it)) = 0 := by
    intro ts
    induction ts with
    | nil => exact ⟨rfl, rfl⟩
    | cons x xs ih => exact ⟨by simp only [List.map_cons, PyData.canLayAll0, PyData.canLay0, ih.1, kS_ok x, Bool.and_self], by simp only [List.map_cons, PyData.depthAll, PyData.depth, ih.2, Nat.max_self]⟩
  have h2 : SeqAt.shaped (.list (ts.map fun it => PyData.str (kS it))) = true := by
    simp only [SeqAt.shaped, PyData.canLay0, PyData.depth, (h1 ts).1, (h1 ts).2]; rfl
  have h3 : SeqAt.shaped (.str "label") = true := by
    simp only [SeqAt.shaped, PyData.canLay0, PyData.depth, show PyData.strOk "label" = true from kS_ok .lab]; rfl
  have h4 : dat G 60 (.str "label") = some (.str "label") := rfl
  have e : dat G 60 (.ref n) = some (.list (ts.map fun it => PyData.str (kS it))) := da_lst h (e2 ts)
  unfold inW
  rw [h4, e]
  simp only [Option.map_some, itemsD, h2, h3, Bool.and_self, if_true, any_kinds]
theorem plc_len {α : Type} (p : α → Bool) : ∀ (xs : List α) (k : Nat), (places p k xs).length = (xs.filter p).length
  | [], _ => rfl
  | x :: xs, k => by
    have := plc_len p xs (k + 1)
    unfold places
    cases h : p x <;> simp [List.filter_cons, h, this]
/-- how many of them are jumps -/
def cntJ (ts : List It) : Int := ((ts.filter It.isJ).length : Int)
theorem cntJ_snoc (ts : List It) (it : It) : cntJ (ts ++ [it]) = cntJ ts + (if it.isJ = true then 1 else 0) := by
  unfold cntJ
  rw [List.filter_append, List.length_append]
  cases h : it.isJ <;> simp [List.filter_cons, h]
/-- the item that is made of one -/
def madeOf (ts : List It) : It → It → Prop
  | .lab, it => it = .lab
  | .fil _, it => ∃ a, it = .fil a ∧ fillOk a
  | .jmp _ _ _, it => ∃ g s l, it = .jmp g s l ∧ (0 ≤ g ∧ ∃ t, ts[g.toNat]? = some t ∧ t.isL = true) ∧ 1 ≤ s ∧ s < l ∧ l ≤ 999
def MadeI (ts : List It) (i : Nat) (sk : List It) : Prop := sk.length = i ∧ ∀ (j : Nat) (it : It), sk[j]? = some it → ∃ t, ts[j]? = some t ∧ madeOf ts t it
theorem madeOf.J {ts : List It} {t it : It} (h : madeOf ts t it) : it.isJ = t.isJ ∧ (t.isL = true → it = .lab) := by
  cases t with
  | lab => obtain rfl : it = .lab := h; exact ⟨rfl, fun _ => rfl⟩
  | fil a => obtain ⟨a, rfl, _⟩ := h; exact ⟨rfl, fun z => by cases z⟩
  | jmp g s l => obtain ⟨g, s, l, rfl, _⟩ := h; exact ⟨rfl, fun z => by cases z⟩
theorem MadeI.add {ts : List It} {i : Nat} {sk : List It} {t it : It} (h : MadeI ts i sk) (ht : ts[i]? = some t) (ho : madeOf ts t it) : MadeI ts (i + 1) (sk ++ [it]) := by
  refine ⟨by simp [h.1], fun j x hj => ?_⟩
  by_cases hji : j < i
  · rw [List.getElem?_append_left (by rw [h.1]; exact hji)] at hj; exact h.2 j x hj
  · have hl : j < (sk ++ [it]).length := (List.getElem?_eq_some_iff.mp hj).1
    have : j = i := by simp [h.1] at hl; omega
    subst this
    rw [List.getElem?_append_right (by rw [h.1]; exact Nat.le_refl _), h.1] at hj
    simp at hj; subst hj
    exact ⟨t, ht, ho⟩
theorem MadeI.skel {ts sk : List It} (h : MadeI ts ts.length sk) (h1 : 1 ≤ ts.length) (h2 : ts.length ≤ 24) : Skel sk := by
  refine ⟨by rw [h.1]; exact h1, by rw [h.1]; exact h2, fun it hit => ?_⟩
  obtain ⟨j, hj⟩ := List.mem_iff_getElem?.mp hit
  obtain ⟨t, _, ho⟩ := h.2 j it hj
  cases t with
  | lab => obtain rfl : it = .lab := ho; trivial
  | fil a => obtain ⟨a, rfl, ha⟩ := ho; exact ha
  | jmp g s l =>
    obtain ⟨g, s, l, rfl, ⟨g0, t, ht, hL⟩, h3⟩ := ho
    refine ⟨g0, ?_, h3⟩
    have hlt : g.toNat < sk.length := by rw [h.1]; exact (List.getElem?_eq_some_iff.mp ht).1
    obtain ⟨t2, ht2, ho2⟩ := h.2 g.toNat _ (List.getElem?_eq_getElem hlt)
    rw [ht] at ht2; cases ht2
    rw [List.getElem?_eq_getElem hlt]
    exact congrArg some (ho2.J.2 hL)
theorem MadeI.cnt {ts sk : List It} (h : MadeI ts ts.length sk) : ((jumpsN sk).length : Int) = cntJ ts := by
  have e : sk.map It.isJ = ts.map It.isJ := by
    apply List.ext_getElem?
    intro j
    rw [List.getElem?_map, List.getElem?_map]
    by_cases hj : j < sk.length
    · obtain ⟨t, ht, ho⟩ := h.2 j _ (List.getElem?_eq_getElem hj)
      rw [List.getElem?_eq_getElem hj, ht]
      exact congrArg some ho.J.1
    · rw [List.getElem?_eq_none (by omega), List.getElem?_eq_none (by rw [← h.1]; omega)]
  have f : ∀ xs : List It, (xs.filter It.isJ).length = ((xs.map It.isJ).filter id).length := fun xs => by rw [List.filter_map, List.length_map]; rfl
  unfold cntJ
  rw [show (jumpsN sk).length = (places It.isJ 0 sk).length from rfl, plc_len, f, f, e]
section
variable {b : Bs} {Γ : TEnv} {c1 c2 c3 c4 : Nat} {N : Nat → PEnv → Cells → Prop} {R : RT}
/-- three names, the second gets a new cell -/
theorem es_par3M {i j l : Nat} {m m1 m2 : ME} {m' : MS} {T0 T2 : Tp W} {D1 : Tp Cell} (h : Ev b Γ m (.val T0) c1) (h1 : Ev b Γ m1 (.new D1) c2) (h2 : Ev b Γ m2 (.val T2) c3) (hi : i < Γ.length) (hj : j < Γ.length) (hl : l < Γ.length) (k : Es b (((Γ.set i (.ty T0)).set j (.own D1)).set l (.ty T2)) m' N R c4) : Es b Γ (sSeq (sPar3 i j l (mCons m (mCons m1 (mCons m2 mNil)))) m') N R (c1 + c2 + c3 + c4) := fun n S E G hn e => by
  refine so_seq ?_
  rw [t_par3, s_cons]
  refine (h n S E G (by omega) e).mono fun w G1 q => ?_
  obtain ⟨i1, f1, q0⟩ := q
  rw [s_cons]
  have e0 := e.mv i1 f1
  refine (h1 _ S E G1 (by omega) e0).mono fun w' G2 q => ?_
  obtain ⟨i2, f2, n1, x1, rfl, hn1, hc1, q1⟩ := q
  rw [s_cons]
  have e1 := e0.wid hn1 i2 f2 (lt_of_get hc1)
  refine (h2 _ (n1 :: S) E G2 (by omega) e1).mono fun w2 G3 q => ?_
  obtain ⟨i3, f3, q2⟩ := q
  rw [s_nil, p3_c]
  have a0 := e0.setTy (i := i) (T := T0) hi q0
  have a1 := a0.setOwn (i := j) (by simpa using hj) hn1 i2 f2 hc1 q1
  have a2 := (a1.mv i3 f3).setTy (i := l) (T := T2) (by simpa using hl) q2
  exact (k _ _ _ _ (by omega) a2).mono (fun E2 G2 ⟨i, q⟩ => ⟨i, by omega, q.2⟩) fun _ _ q => ⟨b.I.up (by omega) q.1, q.2⟩
/-- the end of a list, all of one sort -/
theorem ev_cutFrom {m : ME} {T : Tp W} {k hi : Nat} (h : Ev b Γ m (.val (tLs (cAll T 0 hi))) c1) : Ev b Γ (mCut m (mPart (mNeg (mC (.int (k : Int))))) mNoPart) (.new (dL (cAll T 0 hi))) (c1 + 0 + 0) :=
  ev_cutG (o := some (-(k : Int))) (p := none) h (eo_at (ev_negA (ev_c _))) eo_no fun S G x e => by
    obtain ⟨n, y, rfl, hn, hg, ws, rfl, q1, q2, q3⟩ := e
    have : cutOp G (.ref n) (some (-(k : Int))) none = .ok (.ref G.length) (G ++ [.lst (cutW ws (some (-(k : Int))) none)]) := e_cutL hg _ _
    rw [this]
    refine ⟨Fr.push, G.length, _, rfl, Nat.le_refl _, push_get _ _, _, rfl, Nat.zero_le _, ?_, fun w hw => ?_⟩
    · unfold cutW; rw [List.length_take, List.length_drop]; omega
    · have hm : w ∈ ws := by unfold cutW at hw; exact List.mem_of_mem_drop (List.mem_of_mem_take hw)
      exact T.mono (Fr.push (S := G.length :: S)) (T.wid (Nat.le_refl _) (q3 w hm))
end
end NS
/- part LD -/
set_option maxHeartbeats 1000000
namespace NS
open PySem PySem.Spec PyProof.Rows L2 PL

theorem ev_addJ {b : Bs} {Γ : TEnv} {c1 c2 : Nat} {m m' : ME} {p q r : Int → Prop} (ha : Ev b Γ m (.val (tI p)) c1) (hb : Ev b Γ m' (.val (tI q)) c2) (hr : ∀ i j, p i → q j → r (i + j)) : Ev b Γ (mBin addW m m') (.val (tI r)) (c1 + c2) := ev_binI ha hb fun G i j hi hj => ⟨i + j, e_add G i j, hr i j hi hj⟩
abbrev tKd : Tp W := tXp (fun _ : It => True) fun it => tEq it.kind
theorem kd_lab : Tle (tEq (.str "label")) tKd := fun S G w e => ⟨.lab, trivial, e⟩
theorem kd_fil : Tle (tEq (.str "fill")) tKd := fun S G w e => ⟨.fil 0, trivial, e⟩
theorem kd_jmp : Tle (tEq (.str "jump")) tKd := fun S G w e => ⟨.jmp 0 0 0, trivial, e⟩
theorem ev_binKind {b : Bs} {Γ : TEnv} {i : Nat} {ts : List It} (h : Γ[i]? = some (.own (dL (tEq (ts.map It.kind))))) : Ev b Γ (mBin (inW true) (mC (.str "label")) (mVar i)) (.val (tEq (.bl (!ts.any It.isL)))) 0 := fun n S E G hn e => by
  rw [s_bin, v_c, s_var]
  obtain ⟨a, x, he, hg, ws, rfl, q⟩ := e.sl i _ h
  obtain rfl : ws = _ := q
  refine ⟨_, he, ?_⟩
  rw [in_kinds hg]
  exact ⟨e.inv, Fr.refl, rfl⟩
theorem lc_goals {b : Bs} {Γ : TEnv} {ts : List It} {i j : Nat} {m : ME} {c : Nat} (hl : ts.length ≤ 24) (hm : ts.any It.isL = true) (h : Ev b Γ m (.val (tLs (tEq (ts.map It.kind)))) c) (hi : i < (wipeG Γ [i, j]).length) (hj : j < (wipeG Γ [i, j]).length) (hij : i ≠ j) :
    Ev b Γ (mLcI (mEnum (mCons m mNil)) (gTupW 2 (gsCons i (gsCons j gsNil))) (mTest (mBin eqOp (mVar j) (mC (.str "label")))) (mVar i) [i, j]) (.new (dL (cAll (tI fun k => 0 ≤ k ∧ ∃ t, ts[k.toNat]? = some t ∧ t.isL = true) 1 24))) (c + 24 * (0 + 0 + 0)) := by
  refine ev_lc (p := fun xs => xs = enW (ts.map It.kind)) 24
    (fun _ i => tP fun acc => acc.length ≤ i ∧ (∀ w ∈ acc, ∃ (k : Nat) (t : It), w = .int k ∧ ts[k]? = some t ∧ t.isL = true) ∧ ((∃ j t, j < i ∧ ts[j]? = some t ∧ t.isL = true) → acc ≠ []))
    (fun _ _ w => tEq w) (fun _ k _ => tEq (.int (k : Int))) (ei_le (ei_enL h) cEn_eq) (fun S G xs q => ⟨q, by rw [show xs = _ from q, enW_len]; simpa using hl⟩) (by decide) (fun S G xs i w q hw => rfl) (fun S G xs _ => ⟨Nat.le_refl _, by simp, fun ⟨j, t, hj, _⟩ => by omega⟩) ?_ ?_
  · rintro xs k w rfl hw
    obtain ⟨x, hx, rfl⟩ := enW_inv hw
    obtain ⟨t, ht, rfl⟩ := map_at hx
    refine ⟨_, _, _, eg_le (eg_tup2 hi hj) tPair, et_test (ev_bin (ev_var ?_) (ev_c _) fun G => kind_L t G), fun hL => ⟨ev_var ?_, ?_⟩, fun hL S G acc q => ?_⟩
    · rw [List.getElem?_set_self (by simpa using hj)]
    · rw [List.getElem?_set_ne (Ne.symm hij), List.getElem?_set_self hi]
    · rintro S G acc y ⟨q1, q2, q3⟩ rfl
      refine ⟨by simp; omega, fun w hw => ?_, fun _ => by simp⟩
      rcases List.mem_append.mp hw with hw | hw
      · exact q2 w hw
      · exact ⟨k, t, List.mem_singleton.mp hw, ht, hL⟩
    · obtain ⟨q1, q2, q3⟩ := q
      refine ⟨by omega, q2, fun ⟨j', t', h1, h2, h3⟩ => q3 ⟨j', t', ?_, h2, h3⟩⟩
      by_cases e : j' = k
      · subst e; rw [ht] at h2; cases h2; rw [hL] at h3; cases h3
      · omega
  · rintro S G xs acc rfl h1 ⟨q1, q2, q3⟩
    rw [enW_len, List.length_map] at q1 q3
    obtain ⟨t, ht, hL⟩ := List.any_eq_true.mp hm
    obtain ⟨j', hj'⟩ := List.mem_iff_getElem?.mp ht
    have := q3 ⟨j', t, (List.getElem?_eq_some_iff.mp hj').1, hj', hL⟩
    refine ⟨List.length_pos_iff.mpr this, by omega, fun w hw => ?_⟩
    obtain ⟨k, t, rfl, hk, hL⟩ := q2 w hw
    exact ⟨(k : Int), ⟨by omega, t, by simpa using hk, hL⟩, rfl⟩
/-- the sorts so far -/
def SortI (jumps : Int) (i : Nat) (ts : List It) : Prop := ts.length = i ∧ cntJ ts ≤ jumps
theorem set_lab {ts : List It} {n : Nat} {jumps : Int} (h : cntJ ts ≤ jumps) : cntJ (ts.set n .lab) ≤ jumps := by
  refine Int.le_trans ?_ h
  unfold cntJ
  have : ∀ (ts : List It) (n : Nat), ((ts.set n .lab).filter It.isJ).length ≤ (ts.filter It.isJ).length := by
    intro ts
    induction ts with
    | nil => intro n; simp
    | cons x xs ih =>
      intro n
      cases n with
      | zero =>
        rw [List.set_cons_zero, List.filter_cons, List.filter_cons]
        simp only [It.isJ, Bool.false_eq_true, if_false]
        split <;> simp
      | succ n =>
        have := ih n
        rw [List.set_cons_succ, List.filter_cons, List.filter_cons]
        split <;> simp <;> omega
  have := this ts n
  omega
theorem gskel_fn {r d c : Nat} {most jumps : Int} (m1 : 1 ≤ most) (m2 : most ≤ 24) (j0 : 0 ≤ jumps) : Fn (stkS r d c) M_law_skeleton (cN [tEq (.ref r), tEq (.int most), tEq (.int jumps)]) (.val (tXp (fun sk => Skel sk ∧ ((jumpsN sk).length : Int) ≤ jumps) fun sk => tEq (skW sk))) 0 := by
  apply fn_of (np := 3) (nn := 12)
  · rfl
  · intro Sp G0
    show Es _ [.ty (tEq (.ref r)), .ty (tEq (.int most)), .ty (tEq (.int jumps)), .no, .no, .no, .no, .no, .no, .no, .no, .no] B_law_skeleton _ _ _
    unfold B_law_skeleton
    apply es_par3M (T0 := tI fun i => 1 ≤ i ∧ i ≤ 24) (D1 := dL (tEq (([] : List It).map It.kind))) (T2 := tEq (.int jumps))
    · exact ev_addJ (p := (· = 1)) (q := fun i => 0 ≤ i ∧ i < most) (ev_le (ev_c _) (tI_c rfl)) (ev_sdrawT (i0 := 0) (p := fun i => i = most) (i := most) rfl (ev_le (ev_var rfl) (tI_c rfl)) (fun j hj => by omega) (by omega)) fun i j h1 h2 => by omega
    · exact ev_one eq_nil
    · exact ev_var rfl
    · simp
    · simp
    · simp
    apply es_ex (i := 3) (p := fun i : Int => 1 ≤ i ∧ i ≤ 24) (A := fun i => tEq (.int i)) rfl
    rintro many ⟨y1, y2⟩
    obtain ⟨mn, rfl⟩ := Int.eq_ofNat_of_zero_le (show 0 ≤ many by omega)
    -- the sorts
    apply es_for (p := fun xs => xs = rnW 0 mn) 24 (fun _ i ts => SortI jumps i ts) (fun _ _ ts => [.ty (tEq (.ref r)), .ty (tEq (.int most)), .ty (tEq (.int jumps)), .ty (tEq (.int (mn : Int))), .own (dL (tEq (ts.map It.kind))), .ty (tEq (.int (jumps - cntJ ts))), .no, .no, .no, .no, .no, .no]) (fun _ _ _ => tAny)
    · exact ei_rng1 (k := mn) (ev_var rfl) (by omega)
    · exact fun S G xs q => ⟨q, by rw [show xs = _ from q, rnW_len]; omega⟩
    · exact fun _ _ _ _ _ _ _ => trivial
    · rintro xs rfl
      exact ⟨[], ⟨rfl, by unfold cntJ; simpa using j0⟩, .cons (SlLe.refl _) (.cons (SlLe.refl _) (.cons (SlLe.refl _) (.cons (SlLe.refl _) (.cons (SlLe.refl _) (.cons (.ty fun S G w e => by rw [show w = _ from e]; show W.int _ = W.int _; congr 1; unfold cntJ; simp) (EnvLe.refl _))))))⟩
    · rintro xs i w ts pit rfl hw ⟨hl, hc⟩
      have hi : i < mn := by have := (List.getElem?_eq_some_iff.mp hw).1; rw [rnW_len] at this; exact this
      refine ⟨_, eg_set (by simp), ?_⟩
      apply es_asgX (p := fun _ : It => True) (A := fun it => tEq it.kind)
      · refine ev_get (C := cAll tKd 7 7) (p := fun i => 0 ≤ i ∧ i < 7) (er_new (ev_lst (al_cons (ev_le (ev_c _) kd_lab) (al_cons (ev_le (ev_c _) kd_fil) (al_cons (ev_le (ev_c _) kd_jmp) (al_cons (ev_le (ev_c _) kd_jmp) (al_cons (ev_le (ev_c _) kd_fil) (al_cons (ev_le (ev_c _) kd_jmp) (al_cons (ev_le (ev_c _) kd_jmp) al_nil))))))) fun _ _ _ q => by have := q.2.1; omega)) (ev_sdraw (i0 := 0) rfl) fun S G ws i hq hp => ?_
        obtain ⟨q1, q2, q3⟩ := hq
        have hlt : i.toNat < ws.length := by omega
        exact ⟨hp.1, _, List.getElem?_eq_getElem hlt, q3 _ (List.getElem_mem hlt)⟩
      · simp
      rintro it -
      apply es_asgX (p := fun y : It => y.isJ = true → cntJ ts + 1 ≤ jumps) (A := fun y => tEq y.kind)
      · refine ev_if (et_and (et_test (ev_bin (ev_var rfl) (ev_c _) fun G => kind_J it G)) fun _ => et_eqI (i := jumps - cntJ ts) (ev_var rfl) (ev_c _)) (fun _ => ev_le (ev_c _) fun S G w e => ⟨.lab, (fun h => by cases h), e⟩) fun h => ev_le (ev_var rfl) fun S G w e => ⟨it, fun hJ => ?_, e⟩
        rcases h with h | ⟨_, h⟩
        · rw [h] at hJ; cases hJ
        · omega
      · simp
      intro y hy
      apply es_asg (R0 := .val (tEq (.int (jumps - cntJ (ts ++ [y])))))
      · refine ev_le (ev_bin (ev_var rfl) (ev_call (z := .int (if y.isJ = true then 1 else 0)) (eq_cons (ev_bin (ev_var rfl) (ev_c _) fun G => kind_J y G) eq_nil) fun G => by cases y.isJ <;> rfl) fun G => e_sub G _ _) fun S G w e => ?_
        rw [show w = _ from e, cntJ_snoc]
        show W.int _ = W.int _
        congr 1
        omega
      · simp
      apply es_end
      apply es_app (i := 4) (T := tEq y.kind) (C' := tEq ((ts ++ [y]).map It.kind)) rfl
      · exact ev_var rfl
      · intro S G ws w e1 e2
        rw [show ws = _ from e1, show w = _ from e2]
        refine ⟨?_, by rw [List.length_map]; omega⟩
        show _ = _
        rw [List.map_append]; rfl
      refine es_nxX (ts ++ [y]) ⟨by simp [hl], ?_⟩ (.cons (SlLe.refl _) (.cons (SlLe.refl _) (.cons (SlLe.refl _) (.cons (SlLe.refl _) (.cons (SlLe.refl _) (.cons (SlLe.refl _) (.cons (.no _) (.cons (.no _) (EnvLe.refl _)))))))))
      rw [cntJ_snoc]
      split
      · rename_i h; exact hy h
      · omega
    rintro xs ts rfl ⟨hl, hc⟩
    rw [rnW_len] at hl
    -- one label at least
    apply es_ifX (A := fun ts : List It => ts.length = mn ∧ cntJ ts ≤ jumps ∧ ts.any It.isL = true) (Γf := fun ts => [.ty (tEq (.ref r)), .ty (tEq (.int most)), .ty (tEq (.int jumps)), .ty (tEq (.int (mn : Int))), .own (dL (tEq (ts.map It.kind))), .no, .no, .no, .no, .no, .no, .no]) (p := ts.any It.isL = false) (q := ts.any It.isL = true)
    · exact et_le (et_test (ev_binKind (ts := ts) rfl)) (fun h => by simpa using h) fun h => by simpa using h
    · intro _
      apply es_end
      apply es_put (i := 4) (T := tEq (.str "label")) (p := fun k => 0 ≤ k ∧ k < (mn : Int)) (C' := tXp (fun ts : List It => ts.length = mn ∧ cntJ ts ≤ jumps ∧ ts.any It.isL = true) fun ts => tEq (ts.map It.kind)) rfl
      · exact (ev_c _)
      · have lastI : ∀ {b : Bs} {Γ : TEnv}, Γ[3]? = some (.ty (tEq (.int (mn : Int)))) → Ev b Γ (mBin subW (mVar 3) (mC (.int 1))) (.val (tI fun k => 0 ≤ k ∧ k < (mn : Int))) (0 + 0) := fun h => ev_le (ev_bin (ev_var h) (ev_c _) fun G => e_sub G _ _) (tI_c (by omega))
        exact ev_spick (i0 := 0) (T := tI fun k => 0 ≤ k ∧ k < (mn : Int)) rfl (al_cons (lastI rfl) (al_cons (lastI rfl) (al_cons (ev_sdrawT (i0 := 0) (p := fun i => i = (mn : Int)) (i := (mn : Int)) rfl (ev_le (ev_var rfl) (tI_c rfl)) (fun j hj => by omega) (by omega)) al_nil)))
      · intro S G ws k w e1 hk e2
        rw [show ws = _ from e1, show w = _ from e2]
        refine ⟨hk.1, by rw [List.length_map]; omega, ts.set k.toNat .lab, ⟨by simp [hl], set_lab hc, ?_⟩, ?_⟩
        · rw [List.any_eq_true]
          exact ⟨.lab, List.mem_of_getElem? (List.getElem?_set_self (by omega)), rfl⟩
        · show _ = _
          rw [List.map_set]; rfl
      apply es_openL (i := 4) rfl
      rintro ts2 h2
      exact es_nxX ts2 h2 (.cons (SlLe.refl _) (.cons (SlLe.refl _) (.cons (SlLe.refl _) (.cons (SlLe.refl _) (.cons (SlLe.refl _) (.cons (.no _) (EnvLe.refl _)))))))
    · intro h
      exact es_nxX ts ⟨hl, hc, h⟩ (.cons (SlLe.refl _) (.cons (SlLe.refl _) (.cons (SlLe.refl _) (.cons (SlLe.refl _) (.cons (SlLe.refl _) (.cons (.no _) (EnvLe.refl _)))))))
    clear hl hc ts
    rintro ts ⟨hl, hc, hany⟩
    -- the goals
    apply es_rel (i := 4) rfl
    apply es_asg (R0 := .new (dL (cAll (tI fun k => 0 ≤ k ∧ ∃ t, ts[k.toNat]? = some t ∧ t.isL = true) 1 24)))
    · exact lc_goals (i := 6) (j := 7) (by omega) hany (ev_var rfl) (by simp [wipeG]) (by simp [wipeG]) (by decide)
    · simp
    apply es_rel (i := 8) rfl
    apply es_asg (R0 := .new (dL (tEq (([] : List It).map It.w))))
    · exact ev_one eq_nil
    · simp
    apply es_for (p := fun xs => xs = ts.map It.kind) 24 (fun _ _ (_ : Unit) => True) (fun _ i _ => [.ty (tEq (.ref r)), .ty (tEq (.int most)), .ty (tEq (.int jumps)), .ty (tEq (.int (mn : Int))), .ty (tLs (tEq (ts.map It.kind))), .no, .no, .no, .ty (tLs (cAll (tI fun k => 0 ≤ k ∧ ∃ t, ts[k.toNat]? = some t ∧ t.isL = true) 1 24)), .own (dL (tXp (MadeI ts i) fun sk => tEq (sk.map It.w))), .no, .no]) (fun _ _ w => tEq w)
    · exact ei_seqS (ev_le (ev_var rfl) seq_l)
    · exact fun S G xs q => ⟨q, by rw [show xs = _ from q, List.length_map]; omega⟩
    · exact fun _ _ _ _ _ _ _ => rfl
    · rintro xs rfl
      exact ⟨(), trivial, .cons (SlLe.refl _) (.cons (SlLe.refl _) (.cons (SlLe.refl _) (.cons (SlLe.refl _) (.cons (SlLe.refl _) (.cons (SlLe.refl _) (.cons (SlLe.refl _) (.cons (SlLe.refl _) (.cons (SlLe.refl _) (.cons (.own (dL_le fun S G ws q => ⟨[], ⟨rfl, by simp⟩, q⟩)) (EnvLe.refl _))))))))))⟩
    · rintro xs i w _ pit rfl hw _
      obtain ⟨t, ht, rfl⟩ := map_at hw
      have hil := (List.getElem?_eq_some_iff.mp ht).1
      refine ⟨_, eg_set (by simp), ?_⟩
      have last : ∀ {b : Bs} {S G} {ws : List W} {w : W}, (tXp (MadeI ts i) fun sk => tEq (sk.map It.w)).P S G ws → (tXp (madeOf ts t) fun it => tEq it.w).P S G w → (tXp (MadeI ts (i + 1)) fun sk => tEq (sk.map It.w)).P S G (ws ++ [w]) ∧ ws.length ≤ 100000 := fun {b S G ws w} e1 e2 => by
        obtain ⟨sk, h1, rfl⟩ := e1
        obtain ⟨it, h2, rfl⟩ := e2
        exact ⟨⟨sk ++ [it], h1.add ht h2, by show _ = _; rw [List.map_append]; rfl⟩, by rw [List.length_map, h1.1]; omega⟩
      show Es _ [.ty (tEq (.ref r)), .ty (tEq (.int most)), .ty (tEq (.int jumps)), .ty (tEq (.int (mn : Int))), .ty (tLs (tEq (ts.map It.kind))), .no, .no, .ty (tEq t.kind), .ty (tLs (cAll (tI fun k => 0 ≤ k ∧ ∃ t, ts[k.toNat]? = some t ∧ t.isL = true) 1 24)), .own (dL (tXp (MadeI ts i) fun sk => tEq (sk.map It.w))), .no, .no] _ _ _ _
      apply es_if
      · exact et_test (ev_bin (ev_var rfl) (ev_c _) fun G => kind_L t G)
      · intro hL
        obtain rfl : t = .lab := by cases t <;> first | rfl | cases hL
        apply es_end
        apply es_app (i := 9) (T := tXp (madeOf ts .lab) fun it => tEq it.w) (C' := tXp (MadeI ts (i + 1)) fun sk => tEq (sk.map It.w)) rfl
        · exact ev_le (ev_tupE (eq_cons ((ev_c _)) eq_nil)) fun S G w e => ⟨.lab, rfl, e⟩
        · intro S G ws w e1 e2; exact last (b := nilB [] [] tAny) e1 e2
        exact es_nxX () trivial (.cons (SlLe.refl _) (.cons (SlLe.refl _) (.cons (SlLe.refl _) (.cons (SlLe.refl _) (.cons (SlLe.refl _) (.cons (SlLe.refl _) (.cons (SlLe.refl _) (.cons (.no _) (EnvLe.refl _)))))))))
      · intro hL
        apply es_if
        · exact et_test (ev_bin (ev_var rfl) (ev_c _) fun G => kind_F t G)
        · intro hF
          obtain ⟨a0, rfl⟩ : ∃ a, t = .fil a := by cases t <;> first | exact ⟨_, rfl⟩ | cases hF
          apply es_end
          apply es_app (i := 9) (T := tXp (madeOf ts (.fil a0)) fun it => tEq it.w) (C' := tXp (MadeI ts (i + 1)) fun sk => tEq (sk.map It.w)) rfl
          · refine ev_le (ev_tup (ea_cons ((ev_c _)) (ea_cons (ev_spick (i0 := 0) (T := tI fillOk) rfl (al_cons (ev_le (ev_c _) (tI_c (by unfold fillOk; simp))) (al_cons (ev_le (ev_c _) (tI_c (by unfold fillOk; simp))) (al_cons (ev_le (ev_c _) (tI_c (by unfold fillOk; simp))) (al_cons (ev_le (ev_c _) (tI_c (by unfold fillOk; simp))) (al_cons (ev_le (ev_c _) (tI_c (by unfold fillOk; simp))) (al_cons (ev_le (ev_c _) (tI_c (by unfold fillOk; simp))) (al_cons (ev_le (ev_c _) (tI_c (by unfold fillOk; simp))) (al_cons (ev_le (ev_c _) (tI_c (by unfold fillOk; simp))) al_nil))))))))) ea_nil)) fun S G ws h => by have := All2.len h; simp at this; omega) fun S G w q => ?_
            obtain ⟨ws, rfl, h⟩ := q
            match ws, h with
            | [x1, x2], h =>
              obtain ⟨h1, ⟨a, ha, h2⟩, _⟩ := h
              obtain rfl : x1 = .str "fill" := h1
              obtain rfl : x2 = .int a := h2
              exact ⟨.fil a, ⟨a, rfl, ha⟩, rfl⟩
          · intro S G ws w e1 e2; exact last (b := nilB [] [] tAny) e1 e2
          exact es_nxX () trivial (.cons (SlLe.refl _) (.cons (SlLe.refl _) (.cons (SlLe.refl _) (.cons (SlLe.refl _) (.cons (SlLe.refl _) (.cons (SlLe.refl _) (.cons (SlLe.refl _) (.cons (.no _) (EnvLe.refl _)))))))))
        · intro hF
          obtain ⟨g0, s0, l0, rfl⟩ : ∃ g s l, t = .jmp g s l := by
            cases t with
            | lab => cases hL
            | fil a => cases hF
            | jmp g s l => exact ⟨_, _, _, rfl⟩
          apply es_asgX (p := fun s : Int => 1 ≤ s ∧ s ≤ 998) (A := fun s => tEq (.int s))
          · have one : ∀ {b : Bs} {Γ : TEnv} {j : Int}, Γ = Γ → True := fun _ => trivial
            refine ev_def (spick_ok (T := tI fun s => 1 ≤ s ∧ s ≤ 998) (hi := 5) (by decide)) (ea_cons (ev_var rfl) (ea_cons (ev_nv (ev_nle (ev_addA (n1 := 0) (m1 := 4) (n2 := 1) (m2 := 1) (er_new (ev_rep (n := 1) (k := 4) (er_new (ev_lst (al_cons (ev_addJ (p := (· = 1)) (ev_le (ev_c _) (tI_c rfl)) (ev_sdraw (i0 := 0) rfl) fun i j h1 h2 => by omega) al_nil) fun _ _ _ q => by have := q.2.1; omega)) (ev_le (ev_c _) (tI_c (by decide))))) (er_new (ev_lst (al_cons (ev_addJ (p := (· = 1)) (ev_le (ev_c _) (tI_c rfl)) (ev_sdraw (i0 := 0) rfl) fun i j h1 h2 => by omega) al_nil) fun _ _ _ q => by have := q.2.1; omega))) (dL_le (cAll_le Tle.refl (by decide) (by decide))))) ea_nil))
          · simp
          rintro s ⟨s1, s2⟩
          apply es_asgX (p := fun s : Int => 1 ≤ s ∧ s ≤ 64) (A := fun s => tEq (.int s))
          · exact ev_spick (i0 := 0) (T := tI fun s => 1 ≤ s ∧ s ≤ 64) rfl (al_cons (ev_le (ev_c _) (tI_c (by decide))) (al_cons (ev_le (ev_c _) (tI_c (by decide))) (al_cons (ev_le (ev_c _) (tI_c (by decide))) (al_cons (ev_le (ev_c _) (tI_c (by decide))) (al_cons (ev_le (ev_c _) (tI_c (by decide))) (al_cons (ev_le (ev_c _) (tI_c (by decide))) (al_cons (ev_addJ (p := (· = 1)) (ev_le (ev_c _) (tI_c rfl)) (ev_sdraw (i0 := 0) rfl) fun i j h1 h2 => by omega) (al_cons (ev_le (ev_c _) (tI_c (by decide))) al_nil))))))))
          · simp
          rintro gr ⟨g1, g2⟩
          apply es_end
          apply es_app (i := 9) (T := tXp (madeOf ts (.jmp g0 s0 l0)) fun it => tEq it.w) (C' := tXp (MadeI ts (i + 1)) fun sk => tEq (sk.map It.w)) rfl
          · refine ev_le (ev_tup (ea_cons ((ev_c _)) (ea_cons (ev_def (spick_ok (T := tI fun k => 0 ≤ k ∧ ∃ t, ts[k.toNat]? = some t ∧ t.isL = true) (hi := 48) (by decide)) (ea_cons (ev_var rfl) (ea_cons (ev_nv (ev_nle (ev_addA (n1 := 0) (m1 := 24) (n2 := 1) (m2 := 24) (er_new (ev_cutFrom (k := 2) (ev_le (ev_var rfl) (tRef_le (dL_le (cAll_le Tle.refl (by decide) (by decide))))))) (er_val (ev_var rfl))) (dL_le (cAll_le Tle.refl (by decide) (by decide))))) ea_nil))) (ea_cons (ev_var rfl) (ea_cons (ev_call (eq_cons ((ev_c _)) (eq_cons (ev_bin (ev_var rfl) (ev_var rfl) fun G => e_add G _ _) eq_nil)) fun G => e_min G _ _) ea_nil)))) fun S G ws h => by have := All2.len h; simp at this; omega) fun S G w q => ?_
            obtain ⟨ws, rfl, h⟩ := q
            match ws, h with
            | [x1, x2, x3, x4], h =>
              obtain ⟨h1, ⟨g, hg, h2⟩, h3, h4, _⟩ := h
              obtain rfl : x1 = .str "jump" := h1
              obtain rfl : x2 = .int g := h2
              obtain rfl : x3 = .int s := h3
              obtain rfl : x4 = .int (min 999 (s + gr)) := h4
              exact ⟨.jmp g s (min 999 (s + gr)), ⟨g, s, _, rfl, hg, s1, by omega, by omega⟩, rfl⟩
          · intro S G ws w e1 e2; exact last (b := nilB [] [] tAny) e1 e2
          exact es_nxX () trivial (.cons (SlLe.refl _) (.cons (SlLe.refl _) (.cons (SlLe.refl _) (.cons (SlLe.refl _) (.cons (SlLe.refl _) (.cons (SlLe.refl _) (.cons (SlLe.refl _) (.cons (.no _) (.cons (SlLe.refl _) (.cons (SlLe.refl _) (.cons (.no _) (.cons (.no _) .nil))))))))))))
    · rintro xs _ rfl _
      rw [List.length_map]
      apply es_ret
      refine ev_le (ev_tupOf (er_own rfl)) fun S G w q => ?_
      obtain ⟨ws, rfl, sk, hsk, rfl⟩ := q
      exact ⟨sk, ⟨hsk.skel (by omega) (by omega), by rw [hsk.cnt]; exact hc⟩, rfl⟩
  · decide
end NS
/- part LE -/
set_option maxHeartbeats 1000000
namespace NS
open PySem PySem.Spec PyProof.Rows L2 PL

/-! ### the skeleton of eight jumps -/
def EiP : It → Prop
  | .lab => True
  | .fil a => fillOk a
  | .jmp g s l => (g = 0 ∨ g = 11) ∧ 1 ≤ s ∧ s < l ∧ l ≤ 999
structure EiI (i : Nat) (sk : List It) : Prop where
  len : sk.length = 1 + i + (i + 3) / 4
  hd : sk[0]? = some .lab
  its : ∀ it ∈ sk, EiP it
  cnt : cntJ sk = (i : Int)
theorem eight_fn {r d c : Nat} : Fn (stkS r d c) M_law_eight (cN [tEq (.ref r)]) (.val (tXp (fun sk => Skel sk ∧ (jumpsN sk).length ≤ 8) fun sk => tEq (skW sk))) 0 := by
  apply fn_of (np := 1) (nn := 4)
  · rfl
  · intro Sp G0
    show Es _ [.ty (tEq (.ref r)), .no, .no, .no] B_law_eight _ _ _
    unfold B_law_eight
    apply es_asg (R0 := .new (dL (tEq ([It.lab].map It.w))))
    · exact ev_one (eq_cons (ev_tupE (eq_cons ((ev_c _)) eq_nil)) eq_nil)
    · simp
    apply es_for (p := fun xs => xs = rnW 0 8) 8 (fun _ i sk => EiI i sk ∧ i ≤ 8) (fun _ _ sk => [.ty (tEq (.ref r)), .own (dL (tEq (sk.map It.w))), .no, .no]) (fun _ _ w => tEq w)
    · exact ei_rng1 (k := 8) (ev_c _) (by decide)
    · exact fun S G xs q => ⟨q, by rw [show xs = _ from q, rnW_len]; exact Nat.le_refl _⟩
    · exact fun _ _ _ _ _ _ _ => rfl
    · rintro xs rfl
      exact ⟨[.lab], ⟨⟨rfl, rfl, fun it h => by rw [List.mem_singleton.mp h]; trivial, rfl⟩, by omega⟩, EnvLe.refl _⟩
    · rintro xs i w sk pit rfl hw ⟨hI, _⟩
      obtain ⟨hi, rfl⟩ := rnW_inv hw
      have h1 := hI.len
      refine ⟨_, eg_set (by simp), ?_⟩
      apply es_ifX (A := fun s2 : List It => s2.length = 1 + i + (i + 1 + 3) / 4 ∧ s2[0]? = some .lab ∧ (∀ it ∈ s2, EiP it) ∧ cntJ s2 = (i : Int)) (Γf := fun s2 => [.ty (tEq (.ref r)), .own (dL (tEq (s2.map It.w))), .no, .no]) (p := i % 4 = 0) (q := i % 4 ≠ 0)
      · refine et_le (et_eqI (i := ((0 : Int) + (i : Int)) % 4) (j := 0) (ev_bin (ev_call (eq_cons (ev_var rfl) eq_nil) fun G => e_int G _) (ev_c _) fun G => e_mod (by decide)) (ev_c _)) (fun h => by omega) fun h => by omega
      · intro h4
        apply es_end
        apply es_app (i := 1) (T := tXp (fun it : It => EiP it ∧ it.isJ = false) fun it => tEq it.w) (C' := tXp (fun s2 : List It => s2.length = 1 + i + (i + 1 + 3) / 4 ∧ s2[0]? = some .lab ∧ (∀ it ∈ s2, EiP it) ∧ cntJ s2 = (i : Int)) fun s2 => tEq (s2.map It.w)) rfl
        · refine ev_le (ev_tup (ea_cons ((ev_c _)) (ea_cons (ev_spick (i0 := 0) (T := tI fillOk) rfl (al_cons (ev_le (ev_c _) (tI_c (by unfold fillOk; simp))) (al_cons (ev_le (ev_c _) (tI_c (by unfold fillOk; simp))) (al_cons (ev_le (ev_c _) (tI_c (by unfold fillOk; simp))) (al_cons (ev_le (ev_c _) (tI_c (by unfold fillOk; simp))) al_nil))))) ea_nil)) fun S G ws h => by have := All2.len h; simp at this; omega) fun S G w q => ?_
          obtain ⟨ws, rfl, h⟩ := q
          match ws, h with
          | [x1, x2], h =>
            obtain ⟨h1, ⟨a, ha, h2⟩, _⟩ := h
            obtain rfl : x1 = .str "fill" := h1
            obtain rfl : x2 = .int a := h2
            exact ⟨.fil a, ⟨ha, rfl⟩, rfl⟩
        · intro S G ws w e1 e2
          obtain ⟨it, ⟨k1, k2⟩, e3⟩ := e2
          rw [show ws = _ from e1, show w = _ from e3]
          refine ⟨⟨sk ++ [it], ⟨by rw [List.length_append, h1, List.length_singleton]; omega, by rw [List.getElem?_append_left (by omega)]; exact hI.hd, fun x hx => ?_, by rw [cntJ_snoc, hI.cnt, k2]; simp⟩, by show _ = _; rw [List.map_append]; rfl⟩, by rw [List.length_map]; omega⟩
          rcases List.mem_append.mp hx with hx | hx
          · exact hI.its x hx
          · rw [List.mem_singleton.mp hx]; exact k1
        apply es_openL (i := 1) rfl
        intro s2 h2
        exact es_nxX s2 h2 (.cons (SlLe.refl _) (.cons (SlLe.refl _) (.cons (.no _) (.cons (SlLe.refl _) .nil))))
      · intro h4
        exact es_nxX sk ⟨by rw [h1]; omega, hI.hd, hI.its, hI.cnt⟩ (.cons (SlLe.refl _) (.cons (SlLe.refl _) (.cons (.no _) (.cons (SlLe.refl _) .nil))))
      rintro s2 ⟨k1, k2, k3, k4⟩
      apply es_asgX (p := fun s : Int => 1 ≤ s ∧ s ≤ 4) (A := fun s => tEq (.int s))
      · exact ev_addJ (p := (· = 1)) (ev_le (ev_c _) (tI_c rfl)) (ev_sdraw (i0 := 0) rfl) fun i j h1 h2 => by omega
      · simp
      rintro s ⟨s1, s2'⟩
      apply es_end
      apply es_app (i := 1) (T := tXp (fun it : It => EiP it ∧ it.isJ = true) fun it => tEq it.w) (C' := tXp (EiI (i + 1)) fun s3 => tEq (s3.map It.w)) rfl
      · refine ev_le (ev_tup (ea_cons ((ev_c _)) (ea_cons (ev_spick (i0 := 0) (T := tI fun g => g = 0 ∨ g = 11) rfl (al_cons (ev_le (ev_c _) (tI_c (by decide))) (al_cons (ev_le (ev_c _) (tI_c (by decide))) (al_cons (ev_le (ev_c _) (tI_c (by decide))) al_nil)))) (ea_cons (ev_var rfl) (ea_cons (ev_addJ (p := (· = s)) (r := fun l => s < l ∧ l ≤ 999) (ev_le (ev_var rfl) (tI_c rfl)) (ev_spick (i0 := 0) (T := tI fun g => 1 ≤ g ∧ g ≤ 8) rfl (al_cons (ev_le (ev_c _) (tI_c (by decide))) (al_cons (ev_le (ev_c _) (tI_c (by decide))) (al_cons (ev_le (ev_c _) (tI_c (by decide))) (al_cons (ev_le (ev_c _) (tI_c (by decide))) (al_cons (ev_le (ev_c _) (tI_c (by decide))) al_nil)))))) fun i j h1 h2 => by omega) ea_nil)))) fun S G ws h => by have := All2.len h; simp at this; omega) fun S G w q => ?_
        obtain ⟨ws, rfl, h⟩ := q
        match ws, h with
        | [x1, x2, x3, x4], h =>
          obtain ⟨h1, ⟨g, hg, h2⟩, h3, ⟨l, hl, h4⟩, _⟩ := h
          obtain rfl : x1 = .str "jump" := h1
          obtain rfl : x2 = .int g := h2
          obtain rfl : x3 = .int s := h3
          obtain rfl : x4 = .int l := h4
          exact ⟨.jmp g s l, ⟨⟨hg, s1, hl.1, hl.2⟩, rfl⟩, rfl⟩
      · intro S G ws w e1 e2
        obtain ⟨it, ⟨m1, m2⟩, e3⟩ := e2
        rw [show ws = _ from e1, show w = _ from e3]
        refine ⟨⟨s2 ++ [it], ⟨by rw [List.length_append, k1, List.length_singleton]; omega, by rw [List.getElem?_append_left (by omega)]; exact k2, fun x hx => ?_, by rw [cntJ_snoc, k4, m2]; simp⟩, by show _ = _; rw [List.map_append]; rfl⟩, by rw [List.length_map]; omega⟩
        rcases List.mem_append.mp hx with hx | hx
        · exact k3 x hx
        · rw [List.mem_singleton.mp hx]; exact m1
      apply es_openL (i := 1) rfl
      intro s3 h3
      exact es_nxX s3 ⟨h3, by omega⟩ (.cons (SlLe.refl _) (.cons (SlLe.refl _) (.cons (.no _) (.cons (.no _) .nil))))
    · rintro xs sk rfl ⟨hI, _⟩
      rw [rnW_len] at hI
      have h1 := hI.len
      apply es_ret
      refine ev_le (ev_tupOf (er_new (ev_addE (er_own rfl) (er_new (ev_one (eq_cons (ev_tupE (eq_cons ((ev_c _)) eq_nil)) eq_nil))) (by simp; omega)))) fun S G w q => ?_
      obtain ⟨ws, rfl, q⟩ := q
      have hl12 : (sk ++ [It.lab]).length = 12 := by rw [List.length_append, h1]; rfl
      refine ⟨sk ++ [.lab], ⟨⟨by omega, by omega, fun it hit => ?_⟩, ?_⟩, by rw [show ws = _ from q]; show _ = W.tup _; rw [List.map_append]; rfl⟩
      · have hp : EiP it := by
          rcases List.mem_append.mp hit with h | h
          · exact hI.its it h
          · rw [List.mem_singleton.mp h]; trivial
        cases it with
        | lab => trivial
        | fil a => exact hp
        | jmp g s l =>
          obtain ⟨hg, h3⟩ := hp
          rcases hg with rfl | rfl
          · exact ⟨by omega, by rw [List.getElem?_append_left (by show 0 < _; omega)]; exact hI.hd, h3⟩
          · refine ⟨by omega, ?_, h3⟩
            have : (11 : Int).toNat = sk.length := by rw [h1]; rfl
            rw [this, List.getElem?_append_right (Nat.le_refl _), Nat.sub_self]; rfl
      · have hc := hI.cnt
        have : (jumpsN (sk ++ [It.lab])).length = (sk.filter It.isJ).length := by
          rw [show (jumpsN (sk ++ [It.lab])).length = (places It.isJ 0 (sk ++ [It.lab])).length from rfl, plc_len, List.filter_append]
          simp [List.filter_cons, It.isJ]
        unfold cntJ at hc
        omega
  · decide
/-! ### lengths and programs -/
theorem glengths_fn {r d c : Nat} {sk : List It} (hs : Skel sk) : Fn (stkS r d c) M_law_lengths (cN [tEq (.ref r), tEq (skW sk)]) (.val (tXp (LnOk sk) fun ln => tEq (.tup (ln.map W.int)))) 0 := by
  have h24 := hs.len2
  apply fn_of (np := 2) (nn := 6)
  · rfl
  · intro Sp G0
    show Es _ [.ty (tEq (.ref r)), .ty (tEq (skW sk)), .no, .no, .no, .no] B_law_lengths _ _ _
    unfold B_law_lengths
    apply es_asg (R0 := .val (tI fun i => 0 ≤ i ∧ i ≤ 999999800))
    · exact ev_spick (i0 := 0) (T := tI fun i => 0 ≤ i ∧ i ≤ 999999800) rfl (al_cons (ev_le (ev_c _) (tI_c (by decide))) (al_cons (ev_le (ev_c _) (tI_c (by decide))) (al_cons (ev_le (ev_c _) (tI_c (by decide))) (al_cons (ev_le (ev_bin (x := .int 1000000000) (ev_bin (ev_c _) (ev_c _) fun G => (e_powN G (by decide) : powW G (W.int 10) (W.int ((9 : Nat) : Int)) = _)) (ev_c _) fun G => e_sub G _ _) (tI_c (by decide))) al_nil))))
    · simp
    apply es_asg (R0 := .new (dL (cAll (tInt 0 70) 0 0)))
    · exact ev_nle (ev_one eq_nil) (dL_le fun S G ws q => by rw [show ws = _ from q]; exact ⟨by simp, by simp, by simp⟩)
    · simp
    apply es_for (p := fun xs => xs = rnW 0 (sk.length + 1)) 25 (fun _ i (_ : Unit) => i ≤ 25) (fun _ i _ => [.ty (tEq (.ref r)), .ty (tEq (skW sk)), .ty (tI fun i => 0 ≤ i ∧ i ≤ 999999800), .own (dL (cAll (tInt 0 70) i i)), .no, .no]) (fun _ _ _ => tAny)
    · exact ei_rng1 (k := sk.length + 1) (ev_le (ev_bin (ev_lenS (ev_le (ev_var rfl) seq_t)) (ev_c _) fun G => e_add G _ _) fun S G w e => by rw [show w = _ from e, List.length_map]; rfl) (by omega)
    · exact fun S G xs q => ⟨q, by rw [show xs = _ from q, rnW_len]; omega⟩
    · exact fun _ _ _ _ _ _ _ => trivial
    · rintro xs rfl
      exact ⟨(), by omega, EnvLe.refl _⟩
    · rintro xs i w _ pit rfl hw _
      have hi : i < sk.length + 1 := by have := (List.getElem?_eq_some_iff.mp hw).1; rw [rnW_len] at this; exact this
      refine ⟨_, eg_set (by simp), ?_⟩
      apply es_end
      apply es_app (i := 3) (T := tInt 0 70) (C' := cAll (tInt 0 70) (i + 1) (i + 1)) rfl
      · exact ev_spick (i0 := 0) (T := tInt 0 70) rfl (al_cons ((ev_le (ev_c _) (tI_in (by decide) (by decide)))) (al_cons ((ev_le (ev_c _) (tI_in (by decide) (by decide)))) (al_cons ((ev_le (ev_c _) (tI_in (by decide) (by decide)))) (al_cons ((ev_le (ev_c _) (tI_in (by decide) (by decide)))) (al_cons (ev_le (ev_sdraw (i0 := 0) rfl) (tI_le fun i h => by omega)) (al_cons (ev_le (ev_sdraw (i0 := 0) rfl) (tI_le fun i h => by omega)) al_nil))))))
      · intro S G ws w e1 e2
        obtain ⟨q1, q2, q3⟩ := e1
        refine ⟨⟨by simp; omega, by simp; omega, fun x hx => ?_⟩, by omega⟩
        rcases List.mem_append.mp hx with hx | hx
        · exact q3 x hx
        · rw [List.mem_singleton.mp hx]; exact e2
      exact es_nxX () (by omega) (.cons (SlLe.refl _) (.cons (SlLe.refl _) (.cons (SlLe.refl _) (.cons (SlLe.refl _) (.cons (.no _) (EnvLe.refl _))))))
    rintro xs _ rfl _
    rw [rnW_len]
    apply es_asgX (p := fun k : Int => 0 ≤ k ∧ k < ((sk.length + 1 : Nat) : Int)) (A := fun k => tEq (.int k))
    · exact ev_sdrawT (i0 := 0) (p := fun i => i = ((sk.length + 1 : Nat) : Int)) (i := ((sk.length + 1 : Nat) : Int)) rfl (ev_le (ev_lenE (k := ((sk.length + 1 : Nat) : Int)) (er_own rfl) fun S G ws q => by have := q.1; have := q.2.1; omega) (tI_c rfl)) (fun j hj => by omega) (by omega)
    · simp
    rintro k ⟨k0, k1⟩
    apply es_put (i := 3) (T := tInt 0 1000000000) (p := fun j => j = k) (C' := cAll (tInt 0 1000000000) (sk.length + 1) (sk.length + 1)) rfl
    · exact ev_addJ (p := fun i => 0 ≤ i ∧ i ≤ 70) (q := fun i => 0 ≤ i ∧ i ≤ 999999800) (ev_get (C := cAll (tInt 0 70) (sk.length + 1) (sk.length + 1)) (p := fun j => j = k) (er_own rfl) (ev_le (ev_var rfl) (tI_c rfl)) fun S G ws i hq hp => by
        obtain ⟨q1, q2, q3⟩ := hq
        subst hp
        have hlt : i.toNat < ws.length := by omega
        exact ⟨k0, _, List.getElem?_eq_getElem hlt, q3 _ (List.getElem_mem hlt)⟩) (ev_var rfl) fun i j h1 h2 => by omega
    · exact ev_le (ev_var rfl) (tI_c rfl)
    · rintro S G ws j w ⟨q1, q2, q3⟩ rfl hw
      refine ⟨k0, by omega, by rw [List.length_set]; exact q1, by rw [List.length_set]; exact q2, fun x hx => ?_⟩
      rcases List.mem_or_eq_of_mem_set hx with hx | rfl
      · exact tI_le (fun i h => by omega) _ _ _ (q3 x hx)
      · exact hw
    apply es_ret
    refine ev_le (ev_tupOf (er_own rfl)) fun S G w q => ?_
    obtain ⟨ws, rfl, q⟩ := q
    obtain ⟨ls, ⟨b1, b2, b3⟩, e⟩ := cAll_ex _ _ _ q
    exact ⟨ls, ⟨by omega, b1⟩, by rw [show ws = _ from e]; rfl⟩
  · decide
theorem gprog_fn {r d c : Nat} {sk : List It} (hs : Skel sk) : Fn (stkS r d c) M_law_program (cN [tEq (.ref r), tEq (skW sk)]) (.val (tXp (PrOk sk) fun x => tEq (prW sk x.1 x.2))) 0 := by
  have h24 := hs.len2
  have jl := jumpsN_len (sk := sk)
  apply fn_of (np := 2) (nn := 11)
  · rfl
  · intro Sp G0
    show Es _ [.ty (tEq (.ref r)), .ty (tEq (skW sk)), .no, .no, .no, .no, .no, .no, .no, .no, .no] B_law_program _ _ _
    unfold B_law_program
    apply es_par (R0 := .val (tXp (LnOk sk) fun ln => tEq (.tup (ln.map W.int)))) (R1 := .new (dL (tEq ((jumpsN sk).map W.int))))
    · exact ev_def (glengths_fn hs) (ea_cons ((ev_var rfl)) (ea_cons ((ev_var rfl)) ea_nil))
    · exact ev_def (jumps_fn h24).lift (ea_cons ((ev_var rfl)) ea_nil)
    · simp
    · simp
    apply es_rel (i := 3) rfl
    apply es_ex (i := 2) (p := LnOk sk) (A := fun ln => tEq (.tup (ln.map W.int))) rfl
    rintro ln ⟨hl, hlb⟩
    apply es_asgX (p := fun _ : List Int => True) (A := fun so => tEq (chW so))
    · refine ev_le (ev_tupOf (er_new (ev_lcF (U := tI fun _ => True) (T := tI fun _ => True) (M := 24) (ei_seqS (ev_le (ev_var rfl) seq_l)) (fun S G xs q => by rw [show xs = _ from q, List.length_map]; omega) (by decide) (fun S G xs w q hw => by
        rw [show xs = _ from q] at hw
        obtain ⟨j, _, rfl⟩ := List.mem_map.mp hw
        exact ⟨j, trivial, rfl⟩) (eg_set (by simp [wipeG])) (et_any (ev_eqB (ev_sdraw (i0 := 0) rfl) (ev_le (ev_c _) (tI_c (p := fun _ => True) trivial)))) fun _ => ev_var rfl))) fun S G w q => ?_
      obtain ⟨ws, rfl, q⟩ := q
      obtain ⟨so, _, e⟩ := cAll_ex _ _ _ q
      exact ⟨so, trivial, by rw [show ws = _ from e]; rfl⟩
    · simp
    rintro so -
    apply es_par3X (D0 := dD (tEq (waysK sk ln [] (jumpsN sk)))) (D1 := dD (tEq (waysK sk ln so (jumpsN sk)))) (R2 := .new (dL (cAll (tInt 0 1000000000) 0 0)))
    · exact ev_def (ways_fn (ch := []) hs (by omega)).lift (ea_cons (ev_var rfl) (ea_cons (ev_le (ev_var rfl) seq_t) (ea_cons (ev_le (ev_tupE eq_nil) seq_t) ea_nil)))
    · exact ev_def (ways_fn (ch := so) hs (by omega)).lift (ea_cons (ev_var rfl) (ea_cons (ev_le (ev_var rfl) seq_t) (ea_cons (ev_le (ev_var rfl) seq_t) ea_nil)))
    · exact ev_nle (ev_one eq_nil) (dL_le fun S G ws q => by rw [show ws = _ from q]; exact ⟨by simp, by simp, by simp⟩)
    · simp
    · simp
    · simp
    apply es_for (p := fun xs => xs = (jumpsN sk).map W.int) 24 (fun _ i (_ : Unit) => i ≤ 24) (fun _ i _ => [.ty (tEq (.ref r)), .ty (tEq (skW sk)), .ty (tEq (.tup (ln.map W.int))), .ty (tLs (tEq ((jumpsN sk).map W.int))), .ty (tEq (chW so)), .own (dD (tEq (waysK sk ln [] (jumpsN sk)))), .own (dD (tEq (waysK sk ln so (jumpsN sk)))), .own (dL (cAll (tInt 0 1000000000) i i)), .no, .no, .no]) (fun _ _ w => tEq w)
    · exact ei_seqS (ev_le (ev_var rfl) seq_l)
    · exact fun S G xs q => ⟨q, by rw [show xs = _ from q, List.length_map]; omega⟩
    · exact fun _ _ _ _ _ _ _ => rfl
    · rintro xs rfl
      exact ⟨(), by omega, EnvLe.refl _⟩
    · rintro xs i w _ pit rfl hw _
      obtain ⟨j, hj, rfl⟩ := map_at hw
      have hil := (List.getElem?_eq_some_iff.mp hj).1
      have hjm := List.mem_of_getElem? hj
      refine ⟨_, eg_set (by simp), ?_⟩
      apply es_asg (R0 := .val (tI fun _ => True))
      · refine ev_if (et_or (et_test (ev_inS (i := j) (ch := so) (ev_var rfl) (ev_le (ev_var rfl) seq_t))) fun _ => et_any (ev_eqB (ev_sdraw (i0 := 0) rfl) (ev_le (ev_c _) (tI_c (p := fun _ => True) trivial)))) (fun _ => ev_le (ev_dget (y := .int (Wy sk ln [] j)) (er_own rfl) (ev_var rfl) (waysK_val hjm (by simp))) (tI_c trivial)) fun h => ev_le (ev_dget (y := .int (Wy sk ln so j)) (er_own rfl) (ev_var rfl) (waysK_val hjm (by simpa using h.1))) (tI_c trivial)
      · simp
      apply es_asg (R0 := .val (tI fun _ => True))
      · refine ev_addJ (q := fun _ => True) (ev_var rfl) (ev_spick (i0 := 0) (T := tI fun _ => True) rfl (al_cons (ev_le (ev_c _) (tI_c trivial)) (al_cons (ev_le (ev_c _) (tI_c trivial)) (al_cons (ev_le (ev_negA (ev_c _)) (tI_c trivial)) (al_cons (ev_le (ev_negA (ev_c _)) (tI_c trivial)) (al_cons (ev_le (ev_c _) (tI_c trivial)) (al_cons (ev_le (ev_c _) (tI_c trivial)) (al_cons (ev_le (ev_c _) (tI_c trivial)) (al_cons (ev_le (ev_negA (ev_c _)) (tI_c trivial)) al_nil))))))))) fun i j h1 h2 => trivial
      · simp
      apply es_ex (i := 10) (p := fun _ : Int => True) (A := fun k => tEq (.int k)) rfl
      rintro rc -
      apply es_end
      apply es_app (i := 7) (T := tInt 0 1000000000) (C' := cAll (tInt 0 1000000000) (i + 1) (i + 1)) rfl
      · exact ev_le (ev_call (eq_cons ((ev_c _)) (eq_cons (ev_call (eq_cons (ev_bin (z := .int 1000000000) (ev_c _) (ev_c _) fun G => (e_powN G (by decide) : powW G (W.int 10) (W.int ((9 : Nat) : Int)) = _)) (eq_cons (ev_var rfl) eq_nil)) fun G => e_min G _ _) eq_nil)) fun G => e_maxU G _ _) (tI_c ⟨by omega, by omega⟩)
      · intro S G ws w e1 e2
        obtain ⟨q1, q2, q3⟩ := e1
        refine ⟨⟨by simp; omega, by simp; omega, fun x hx => ?_⟩, by omega⟩
        rcases List.mem_append.mp hx with hx | hx
        · exact q3 x hx
        · rw [List.mem_singleton.mp hx]; exact e2
      exact es_nxX () (by omega) (.cons (SlLe.refl _) (.cons (SlLe.refl _) (.cons (SlLe.refl _) (.cons (SlLe.refl _) (.cons (SlLe.refl _) (.cons (SlLe.refl _) (.cons (SlLe.refl _) (.cons (SlLe.refl _) (.cons (.no _) (.cons (.no _) (.cons (.no _) .nil)))))))))))
    · rintro xs _ rfl _
      rw [List.length_map]
      apply es_ret
      refine ev_le (ev_tup (ea_cons (ev_var rfl) (ea_cons (ev_var rfl) (ea_cons (ev_tupOf (er_own rfl)) ea_nil))) fun S G ws h => by have := All2.len h; simp at this; omega) fun S G w q => ?_
      obtain ⟨ws, rfl, h⟩ := q
      match ws, h with
      | [x1, x2, x3], h =>
        obtain ⟨h1, h2, ⟨us, rfl, h3⟩, _⟩ := h
        obtain ⟨rs, ⟨b1, b2, b3⟩, e⟩ := cAll_ex _ _ _ h3
        have b4 : rs.length = (jumpsN sk).length := by
          have b2' : (jumpsN sk).length ≤ rs.length := b2
          have b3' : rs.length ≤ (jumpsN sk).length := b3
          omega
        exact ⟨(ln, rs), ⟨⟨hl, hlb⟩, ⟨b4⟩, b1⟩, by rw [show x1 = _ from h1, show x2 = _ from h2, show us = _ from e]; rfl⟩
  · decide
end NS
/- part SC -/
set_option maxHeartbeats 1000000
namespace NS
open PySem PySem.Spec PyProof.Rows L2 PL

/-! ### choices shown -/
theorem sh_chs {L : List (List Int)} {n m : Nat} (h1 : L.length ≤ n) (h2 : ∀ c ∈ L, c.length ≤ m ∧ ∀ x ∈ c, x.natAbs < 10 ^ 40) : Sh (n * (m * 46 + 44 + 2) + 44) (.tuple (L.map fun c => PyData.tuple (c.map PyData.int))) :=
  sh_tup (by rw [List.length_map]; exact h1) fun d hd => by
    obtain ⟨c, hc, rfl⟩ := List.mem_map.mp hd
    exact sh_ints (h2 c hc).1 (h2 c hc).2
theorem dat_chs (G : Cells) (L : List (List Int)) : dat G 60 (.tup (tupsW L)) = some (.tuple (L.map fun c => PyData.tuple (c.map PyData.int))) := da_tup (mo_map fun c _ => da_ints G 57 c)
end NS
/- part X44 -/
set_option maxHeartbeats 1000000
namespace NS
open PySem PySem.Spec PyProof.Rows L2 PL

theorem good_sh {sk : List It} {ln rs : List Int} (hs : Skel sk) (h8 : (jumpsN sk).length ≤ 8) : Sh (256 * (24 * 46 + 44 + 2) + 44) (.tuple (((goodL sk ln rs).mergeSort leL).map fun c => PyData.tuple (c.map PyData.int))) :=
  sh_chs (by rw [(List.mergeSort_perm _ leL).length_eq]; exact goodL_len (n := 8) h8) fun c hc => by
    have hsub := (mem_goodL.mp ((List.mergeSort_perm _ leL).mem_iff.mp hc)).1
    have hl := hsub.length_le
    have h24 := hs.len2
    refine ⟨by omega, fun x hx => ?_⟩
    obtain ⟨n, g, s, l, hp, rfl⟩ := jumpsN_mem.mp (hsub.subset hx)
    have := (List.getElem?_eq_some_iff.mp hp).1
    omega
section
variable {b : Bs} {Γ : TEnv} {sk : List It} {ln rs : List Int} {i : Nat}
theorem ev_servR (hs : Skel sk) (hl : ln.length = sk.length + 1) (hr : Rea sk rs) (h8 : (jumpsN sk).length ≤ 8) {m : ME} (h : Ev b Γ m (.val (tEq (.tup (tupsW ((goodL sk ln rs).mergeSort leL))))) 0) : Ev b Γ (mCall reprW (mCons m mNil)) (.val (tEq (.str (PyData.tuple (((goodL sk ln rs).mergeSort leL).map fun c => PyData.tuple (c.map PyData.int))).shown))) 0 :=
  ev_repr h (fun G => dat_chs G _) (good_sh hs h8)
theorem ev_serv (hs : Skel sk) (hl : ln.length = sk.length + 1) (hr : Rea sk rs) (h8 : (jumpsN sk).length ≤ 8) (hi : Γ[i]? = some (.ty (tEq (prW sk ln rs)))) : Ev b Γ (mDef Mserving (mCons (mVar i) mNil)) (.val (tEq (.tup (tupsW ((goodL sk ln rs).mergeSort leL))))) 0 :=
  ev_def (c1 := 0) (c2 := 0) (serving_fn hs hl hr (by omega)).lift (ea_cons (ev_var hi) ea_nil)
theorem ev_servK (hs : Skel sk) (hl : ln.length = sk.length + 1) (hr : Rea sk rs) (h8 : (jumpsN sk).length ≤ 8) (hi : Γ[i]? = some (.ty (tEq (prW sk ln rs)))) : Ev b Γ (mDefK Mserving [0] 0 1 mNil (mCons (mVar i) mNil)) (.val (tEq (.tup (tupsW ((goodL sk ln rs).mergeSort leL))))) 0 :=
  ev_defK (c1 := 0) (c2 := 0) (serving_fn hs hl hr (by omega)).lift ea_nil (ea_cons (ev_var hi) ea_nil) rfl rfl fun S G ws us h1 h2 => by
    match ws, us, h1, h2 with
    | [], [a], _, h2 => exact ⟨h2.1, trivial⟩
theorem ev_allT (hs : Skel sk) (hl : ln.length = sk.length + 1) (hr : Rea sk rs) (h8 : (jumpsN sk).length ≤ 8) (hi : Γ[i]? = some (.ty (tEq (prW sk ln rs)))) : Ev b Γ (mCall tupleW (mCons (mDef M_law_all (mCons (mVar i) mNil)) mNil)) (.val (tEq (.tup (tupsW ((goodL sk ln rs).mergeSort leL))))) 0 :=
  ev_le (ev_tupOf (er_new (ev_def (c1 := 0) (c2 := 0) (all_fn hs (by omega) hr (by omega)).lift (ea_cons (ev_var hi) ea_nil)))) tTup_eq
end
theorem bare_good : (goodL [.lab] [7, 1000000000] []).mergeSort leL = [[]] := by
  have h1 : jumpsN [.lab] = [] := rfl
  have : goodL [.lab] [7, 1000000000] [] = [[]] := by
    unfold goodL stuckN
    rw [h1]
    simp [chL]
  rw [this, List.mergeSort_singleton]
theorem fn_ex2 {α : Type} {s : Smp} {F : PF} {T0 : Tp W} {R : RT} {c : Nat} {P : α → Prop} {f : α → W} (h : ∀ x, P x → Fn s F (cN [T0, tEq (f x)]) R c) : Fn s F (cN [T0, tXp P fun x => tEq (f x)]) R c := fun n Sp G ws hc a b i q => by
  match ws, q with
  | [u, v], q =>
    obtain ⟨q1, ⟨x, hx, e⟩, _⟩ := q
    exact h x hx n Sp G [u, v] hc a b i ⟨q1, e, trivial⟩
/-- a program that may be drawn -/
def Pgm (x : List It × List Int × List Int) : Prop := Skel x.1 ∧ (jumpsN x.1).length ≤ 8 ∧ PrOk x.1 x.2
theorem gprog_ex {r d c : Nat} : Fn (stkS r d c) M_law_program (cN [tEq (.ref r), tXp (fun sk => Skel sk ∧ (jumpsN sk).length ≤ 8) fun sk => tEq (skW sk)]) (.val (tXp Pgm fun x => tEq (prW x.1 x.2.1 x.2.2))) 0 :=
  fn_ex2 fun sk h => fun n Sp G ws hc a b i q => (gprog_fn h.1 n Sp G ws hc a b i q).mono fun w G' z => by
    obtain ⟨z1, z2, x, hx, e⟩ := z
    exact ⟨z1, z2, (sk, x), ⟨h.1, h.2, hx⟩, e⟩
theorem law_true (ns : List Int) (hn : ns.length ≤ 63) : ∃ G, Mlaw [.ref 0] [.rol (ns.map W.int)] = .ok (.bl true) G := by
  suffices h : (Mlaw [.ref 0] [.rol (ns.map W.int)]).sat fun w _ => w = .bl true by
    obtain ⟨w, G, e, rfl⟩ := h.get
    exact ⟨G, e⟩
  refine fun_sat rfl ?_
  show (Blaw [some (.ref 0), none, none, none, none, none, none, none, none] [.rol (ns.map W.int)]).sat _ _
  unfold Blaw
  refine so_seq ?_
  simp only [p2_c, p3_c, pT2_c, pT3_c, t_asg, t_expr, t_ret, t_if, t_nx, t_par, t_par3, g_set, g_tup2, g_tup3, g_put, s_bin, s_def, s_defK, s_call, s_cons, v_nil, s_var, v_c, s_lst, s_tup, s_test, s_tru, s_notT, s_andT, s_orT, s_and, s_or, s_not, s_if, s_neg, s_meth, s_cut, v_nopart, s_part, s_chain, s_seq, s_rng1, s_rng2, s_enum, s_zipL, s_tupR1, s_tupR2, s_yes, List.getElem?_cons_zero, List.getElem?_cons_succ, Option.some.injEq, exists_eq_left', v_ok, e_add, e_sub, e_int, e_min, e_max, e_maxU, e_lenT, e_tupT, e_lt, e_le, e_gt, e_ge, i_tup, e_cutT, List.set_cons_succ, List.set_cons_zero, List.length_cons, List.length_nil, Nat.reduceAdd, W.int.injEq, W.bl.injEq, W.ref.injEq, W.tup.injEq, W.str.injEq, reduceCtorEq, false_and, and_false, exists_false, or_false, false_or, true_and, and_true, exists_const, exists_eq_left, sz0, sz1, sz2, sz3, sz4, sz5, sz6, sz7, sz8, sz9, sz10]
  refine (stock_ok ns hn).mono fun w G1 q => ?_
  obtain ⟨r, d, c, rfl, hr⟩ := q
  refine es_startS (k := 7) (R := fun w => w = .bl true) hr ?_
  show Es _ [.no, .ty (tEq (.ref r)), .no, .no, .no, .no, .no, .no, .no] _ _ _ _
  apply es_wk
  · apply es_ifR
    · exact et_any (ev_eqB (ev_sdraw (i0 := 1) rfl) (ev_le (ev_c _) (tI_c (p := fun _ => True) trivial)))
    · intro _
      apply es_asgX (p := Pgm) (A := fun x => tEq (prW x.1 x.2.1 x.2.2))
      · exact ev_def gprog_ex (ea_cons ((ev_var rfl)) (ea_cons (ev_def eight_fn (ea_cons ((ev_var rfl)) ea_nil)) ea_nil))
      · simp
      rintro ⟨sk, ln, rs⟩ ⟨hs, h8, hp⟩
      obtain ⟨⟨hl, hlb⟩, hr, hrb⟩ := hp
      apply es_ret
      exact ev_eqS (ev_servR hs hl hr h8 (ev_serv hs hl hr h8 rfl)) (ev_servR hs hl hr h8 (ev_allT hs hl hr h8 rfl))
    intro _
    apply es_for (p := fun zs => zs = rnW 0 4) 4 (fun _ _ (_ : Unit) => True) (fun _ _ _ => [.no, .ty (tEq (.ref r)), .no, .no, .no, .no, .no, .no, .no]) (fun _ _ w => tEq w)
    · exact ei_rng1 (k := 4) (ev_c _) (by decide)
    · exact fun S G zs q => ⟨q, by rw [show zs = _ from q, rnW_len]; exact Nat.le_refl _⟩
    · exact fun _ _ _ _ _ _ _ => rfl
    · rintro zs rfl
      exact ⟨(), trivial, EnvLe.refl _⟩
    · rintro zs i w _ pit rfl hw _
      obtain ⟨hi, rfl⟩ := rnW_inv hw
      refine ⟨_, eg_set (by simp), ?_⟩
      apply es_asgG (T := tTup (cN [tInt 1 24, tInt 0 8]))
      · refine ev_if (et_any (ev_eqB (ev_sdraw (i0 := 1) rfl) (ev_le (ev_c _) (tI_c (p := fun _ => True) trivial)))) (fun _ => ev_get (C := cAll (tTup (cN [tInt 1 24, tInt 0 8])) 4 4) (p := fun j => j = (0 : Int) + (i : Int)) (er_new (ev_lst (al_cons (ev_tupN (ea_cons ((ev_le (ev_c _) (tI_in (by decide) (by decide)))) (ea_cons ((ev_le (ev_c _) (tI_in (by decide) (by decide)))) ea_nil))) (al_cons (ev_tupN (ea_cons ((ev_le (ev_c _) (tI_in (by decide) (by decide)))) (ea_cons ((ev_le (ev_c _) (tI_in (by decide) (by decide)))) ea_nil))) (al_cons (ev_tupN (ea_cons ((ev_le (ev_c _) (tI_in (by decide) (by decide)))) (ea_cons ((ev_le (ev_c _) (tI_in (by decide) (by decide)))) ea_nil))) (al_cons (ev_tupN (ea_cons ((ev_le (ev_c _) (tI_in (by decide) (by decide)))) (ea_cons ((ev_le (ev_c _) (tI_in (by decide) (by decide)))) ea_nil))) al_nil)))) fun _ _ _ q => by have := q.2.1; omega)) (ev_le (ev_var rfl) (tI_c rfl)) fun S G ws j hq hj => ?_) fun _ => ev_tupN (ea_cons ((ev_le (ev_c _) (tI_in (by decide) (by decide)))) (ea_cons ((ev_le (ev_c _) (tI_in (by decide) (by decide)))) ea_nil))
        obtain ⟨q1, q2, q3⟩ := hq
        have hlt : j.toNat < ws.length := by omega
        exact ⟨by omega, _, List.getElem?_eq_getElem hlt, q3 _ (List.getElem_mem hlt)⟩
      · exact eg_tup2 (by simp) (by simp)
      apply es_ex (i := 4) (p := fun m : Int => 1 ≤ m ∧ m ≤ 24) (A := fun m => tEq (.int m)) rfl
      rintro most ⟨m1, m2⟩
      apply es_ex (i := 5) (p := fun m : Int => 0 ≤ m ∧ m ≤ 8) (A := fun m => tEq (.int m)) rfl
      rintro jm ⟨j1, j2⟩
      apply es_asgX (p := Pgm) (A := fun x => tEq (prW x.1 x.2.1 x.2.2))
      · exact ev_def gprog_ex (ea_cons ((ev_var rfl)) (ea_cons (ev_le (ev_def (gskel_fn m1 m2 j1) (ea_cons ((ev_var rfl)) (ea_cons ((ev_var rfl)) (ea_cons ((ev_var rfl)) ea_nil)))) fun S G w ⟨sk, h, e⟩ => ⟨sk, ⟨h.1, by have := h.2; omega⟩, e⟩) ea_nil))
      · simp
      rintro ⟨sk, ln, rs⟩ ⟨hs, h8, hp⟩
      obtain ⟨⟨hl, hlb⟩, hr, hrb⟩ := hp
      have h24 := hs.len2
      have jl := jumpsN_len (sk := sk)
      have hrl : rs.length = (jumpsN sk).length := hr.len
      have hl : ln.length = sk.length + 1 := hl
      have h8 : (jumpsN sk).length ≤ 8 := h8
      have h24 : sk.length ≤ 24 := h24
      have pdat := pr_dat0 (sk := sk) (ln := ln) (rs := rs)
      have psh := pr_sh0 (sk := sk) (ln := ln) (rs := rs) hs (by omega) (by omega) hlb hrb
      apply es_par (R0 := .val (tEq (.str (prD sk ln rs).shown))) (R1 := .val (tEq (.str (PyData.tuple (((goodL sk ln rs).mergeSort leL).map fun c => PyData.tuple (c.map PyData.int))).shown)))
      · exact ev_repr (ev_var rfl) (fun G => pdat G) psh
      · exact ev_servR hs hl hr h8 (ev_allT hs hl hr h8 rfl)
      · simp
      · simp
      apply es_ifR (p := False) (q := True) (c2 := 0)
      · exact et_orF (et_neS (ev_servR hs hl hr h8 (ev_serv hs hl hr h8 rfl)) (ev_var rfl)) (et_orF (et_neS (ev_servR hs hl hr h8 (ev_servK hs hl hr h8 rfl)) (ev_var rfl)) (et_neS (ev_repr (ev_var rfl) (fun G => pdat G) psh) (ev_var rfl)))
      · exact fun h => h.elim
      intro _
      apply es_end
      apply es_ifR (p := False) (q := True) (c2 := 0)
      · refine et_le (et_test (ev_notinTT (c := jumpsN sk) (cs := (goodL sk ln rs).mergeSort leL) (ev_le (ev_tupOf (er_new (ev_def (c1 := 0) (c2 := 0) (jumps_fn h24).lift (ea_cons (ev_bin (ev_var rfl) (ev_c _) fun G => e_getT rfl (by decide)) ea_nil)))) tTup_eq) (ev_serv hs hl hr h8 rfl))) (fun h => ?_) fun _ => trivial
        have : jumpsN sk ∈ (goodL sk ln rs).mergeSort leL := by
          obtain ⟨z, hz⟩ := goodL_last sk ln rs
          rw [(List.mergeSort_perm _ leL).mem_iff, hz]; simp
        simp [this] at h
      · exact fun h => h.elim
      intro _
      exact es_nxX () trivial (.cons (SlLe.refl _) (.cons (SlLe.refl _) (.cons (.no _) (.cons (.no _) (.cons (.no _) (.cons (.no _) (.cons (.no _) (.cons (.no _) (.cons (SlLe.refl _) .nil)))))))))
    rintro zs _ rfl _
    apply es_asg (R0 := .val (tEq (prW [.lab] [7, 1000000000] [])))
    · exact ev_tupE (eq_cons (ev_tupE (eq_cons (ev_tupE (eq_cons ((ev_c _)) eq_nil)) eq_nil)) (eq_cons (ev_tupE (eq_cons ((ev_c _)) (eq_cons (ev_bin (z := .int 1000000000) (ev_c _) (ev_c _) fun G => (e_powN G (by decide) : powW G (W.int 10) (W.int ((9 : Nat) : Int)) = _)) eq_nil))) (eq_cons (ev_tupE eq_nil) eq_nil)))
    · simp
    have hsb : Skel [.lab] := ⟨by simp, by simp, fun it h => by rw [List.mem_singleton.mp h]; trivial⟩
    apply es_ret
    have sv := fun {b : Bs} {Γ : TEnv} {i : Nat} (h : Γ[i]? = some (.ty (tEq (prW [.lab] [7, 1000000000] [])))) => ev_serv (b := b) (sk := [.lab]) (ln := [7, 1000000000]) (rs := []) hsb rfl ⟨rfl⟩ (by show ([] : List Int).length ≤ 8; simp) h
    rw [bare_good] at sv
    have sh0 : Sh (1 * (1 * 46 + 44 + 2) + 44) (.tuple ([([] : List Int)].map fun c => PyData.tuple (c.map PyData.int))) := sh_chs (by simp) fun c hc => by rw [List.mem_singleton.mp hc]; simp
    exact ev_eqS (ev_repr (sv rfl) (fun G => dat_chs G _) sh0) (ev_repr (ev_tupE (eq_cons (ev_tupE eq_nil) eq_nil)) (fun G => dat_chs G [[]]) sh0)
  · decide
end NS
/- part K44o -/
set_option maxHeartbeats 4000000
namespace NS
open PySem PySem.Spec PyProof.Rows L2 PL
structure Txt (K : Fg) (mg : Str → Option Value) : Prop where
  z_dict : mg "dict" = none
  z_enumerate : mg "enumerate" = none
  z_int : mg "int" = none
  z_len : mg "len" = none
  z_max : mg "max" = none
  z_min : mg "min" = none
  z_range : mg "range" = none
  z_repr : mg "repr" = none
  z_sorted : mg "sorted" = none
  z_sum : mg "sum" = none
  z_tuple : mg "tuple" = none
  z_zip : mg "zip" = none
  f_choices_within : ∃ a fd, mg "choices_within" = some (.ref a) ∧ Fun K "choices_within" "choices_within" (topS 1) a fd
  f_jumps_of : ∃ a fd, mg "jumps_of" = some (.ref a) ∧ Fun K "jumps_of" "jumps_of" (topS 3) a fd
  f_own_bytes : ∃ a fd, mg "own_bytes" = some (.ref a) ∧ Fun K "own_bytes" "own_bytes" (topS 8) a fd
  f_laid : ∃ a fd, mg "laid" = some (.ref a) ∧ Fun K "laid" "laid" (topS 5) a fd
  f__way : ∃ a fd, mg "_way" = some (.ref a) ∧ Fun K "_way" "_way" (topS 9) a fd
  f_stuck : ∃ a fd, mg "stuck" = some (.ref a) ∧ Fun K "stuck" "stuck" (topS 7) a fd
  f_serves : ∃ a fd, mg "serves" = some (.ref a) ∧ Fun K "serves" "serves" (topS 6) a fd
  f_serving : ∃ a fd, mg "serving" = some (.ref a) ∧ Fun K "serving" "serving" (topS 11) a fd
  f__law_stock : ∃ a fd, mg "_law_stock" = some (.ref a) ∧ Fun K "_law_stock" "_law_stock" (topS 13) a fd
  f__law_draw : ∃ a fd, mg "_law_draw" = some (.ref a) ∧ Fun K "_law_draw" "_law_draw" (topS 14) a fd
  f__law_pick : ∃ a fd, mg "_law_pick" = some (.ref a) ∧ Fun K "_law_pick" "_law_pick" (topS 15) a fd
  f__law_skeleton : ∃ a fd, mg "_law_skeleton" = some (.ref a) ∧ Fun K "_law_skeleton" "_law_skeleton" (topS 16) a fd
  f__law_eight : ∃ a fd, mg "_law_eight" = some (.ref a) ∧ Fun K "_law_eight" "_law_eight" (topS 17) a fd
  f__law_jumps : ∃ a fd, mg "_law_jumps" = some (.ref a) ∧ Fun K "_law_jumps" "_law_jumps" (topS 18) a fd
  f__law_spots : ∃ a fd, mg "_law_spots" = some (.ref a) ∧ Fun K "_law_spots" "_law_spots" (topS 19) a fd
  f__law_ways : ∃ a fd, mg "_law_ways" = some (.ref a) ∧ Fun K "_law_ways" "_law_ways" (topS 20) a fd
  f__law_fits : ∃ a fd, mg "_law_fits" = some (.ref a) ∧ Fun K "_law_fits" "_law_fits" (topS 21) a fd
  f__law_choices : ∃ a fd, mg "_law_choices" = some (.ref a) ∧ Fun K "_law_choices" "_law_choices" (topS 22) a fd
  f__law_all : ∃ a fd, mg "_law_all" = some (.ref a) ∧ Fun K "_law_all" "_law_all" (topS 23) a fd
  f__law_lengths : ∃ a fd, mg "_law_lengths" = some (.ref a) ∧ Fun K "_law_lengths" "_law_lengths" (topS 24) a fd
  f__law_program : ∃ a fd, mg "_law_program" = some (.ref a) ∧ Fun K "_law_program" "_law_program" (topS 25) a fd
  f_law : ∃ a fd, mg "law" = some (.ref a) ∧ Fun K "law" "law" (topS 26) a fd
section
variable {P : Program} {w : World} {K : Fg} {mg : Str → Option Value} {base : Heap}
theorem scchoices_within : FnScope ["choice", "found", "jump", "fewer"] ["choice"] (defScope (topS 1)) := ⟨rfl, rfl, rfl, by decide +kernel, rfl, by decide +kernel, by decide +kernel⟩
theorem okchoices_within (T : Txt K mg) (S : SysD base) : OkF P w K mg base "choices_within" (topS 1) ["choice"] 1 Mchoices_within := by
  obtain ⟨a, fd, hm, F⟩ := T.f_choices_within
  have q : ∀ (cdv : Value) (A : Around) (outer : List Env) (s : Shared) (H : Hp) (E : XK), GC (cxOf (L2.CX P w) P w K mg base ["choice", "found", "jump", "fewer"] "choices_within" (defScope (topS 1)) a cdv A outer s H E) (wishOf mg K E) 0 → HB (cxOf (L2.CX P w) P w K mg base ["choice", "found", "jump", "fewer"] "choices_within" (defScope (topS 1)) a cdv A outer s H E) (wishOf mg K E) (defBody (topS 1)) Bchoices_within := by
    intro cdv A outer s H E c
    exact hb_cons (hs_set (i := 1) c.nd rfl (Or.inl rfl) (he_lst (ha_cons (he_tup (ha_nil)) (ha_nil)))) (hb_cons (hs_I (sForI_eq _ _ _) (hs_for c.po c.calm (hi_seq (he_var (i := 0) rfl (Or.inl rfl))) (hg_name c.nd rfl (Or.inr rfl)) (hb_one (hs_set (i := 1) c.nd rfl (Or.inl rfl) (he_op og_add (he_var (i := 1) rfl (Or.inl rfl)) (he_I (mLcI_eq _ _ _ _ _) (he_lc (own := [("fewer", 3)]) c (hi_seq (he_var (i := 1) rfl (Or.inl rfl))) (by kernel_rfl) (fun s1 H1 C1 cl1 fp1 => hg_name (GC.blk c s1 H1 _ _ fp1).nd rfl (Or.inl rfl)) (fun s1 H1 C1 cl1 fp1 => hts_nil) (fun s1 H1 C1 cl1 fp1 => he_op og_add (he_var (i := 3) rfl (Or.inl rfl)) (he_tup (ha_cons (he_var (i := 2) rfl (Or.inr (Or.inl rfl))) (ha_nil))))))))))) (hb_one (hs_ret (he_var (i := 1) rfl (Or.inl rfl)))))
  have q2 := fnG_fun (b := Bchoices_within) F scchoices_within S q
  have q3 := F.binds (ps := ["choice"]) (fun _ _ _ _ _ _ us hl => match us, hl with | [_], _ => rfl)
  exact ⟨a, fd, F, hm, F.kp, q3, q2⟩

theorem scjumps_of : FnScope ["skeleton", "place", "item"] ["skeleton"] (defScope (topS 3)) := ⟨rfl, rfl, rfl, by decide +kernel, rfl, by decide +kernel, by decide +kernel⟩
theorem okjumps_of (T : Txt K mg) (S : SysD base) : OkF P w K mg base "jumps_of" (topS 3) ["skeleton"] 1 Mjumps_of := by
  obtain ⟨a, fd, hm, F⟩ := T.f_jumps_of
  have q : ∀ (cdv : Value) (A : Around) (outer : List Env) (s : Shared) (H : Hp) (E : XK), GC (cxOf (L2.CX P w) P w K mg base ["skeleton", "place", "item"] "jumps_of" (defScope (topS 3)) a cdv A outer s H E) (wishOf mg K E) 0 → HB (cxOf (L2.CX P w) P w K mg base ["skeleton", "place", "item"] "jumps_of" (defScope (topS 3)) a cdv A outer s H E) (wishOf mg K E) (defBody (topS 3)) Bjumps_of := by
    intro cdv A outer s H E c
    exact hb_one (hs_ret (he_callTy cg_tuple rfl T.z_tuple (by decide +kernel) (ha_cons (he_I (mLcI_eq _ _ _ _ _) (he_lc (own := [("place", 1), ("item", 2)]) c (hi_enum rfl T.z_enumerate (ha_cons (he_var (i := 0) rfl (Or.inl rfl)) (ha_nil))) (by kernel_rfl) (fun s1 H1 C1 cl1 fp1 => hg_tup (sl := [1, 2]) (GC.blk c s1 H1 _ _ fp1).calm (hgs_cons (GC.blk c s1 H1 _ _ fp1).nd rfl (Or.inl rfl) (by decide) (hgs_cons (GC.blk c s1 H1 _ _ fp1).nd rfl (Or.inl rfl) (by decide) (hgs_nil)))) (fun s1 H1 C1 cl1 fp1 => hts_one (ht_cmp (og_eq (GC.blk c s1 H1 _ _ fp1)) (he_ix (GC.blk c s1 H1 _ _ fp1).hu (he_var (i := 2) rfl (Or.inl rfl)) (he_int) (fun _ _ => rfl)) (he_str) (nomark _))) (fun s1 H1 C1 cl1 fp1 => he_var (i := 1) rfl (Or.inl rfl)))) (ha_nil))))
  have q2 := fnG_fun (b := Bjumps_of) F scjumps_of S q
  have q3 := F.binds (ps := ["skeleton"]) (fun _ _ _ _ _ _ us hl => match us, hl with | [_], _ => rfl)
  exact ⟨a, fd, F, hm, F.kp, q3, q2⟩

theorem scown_bytes : FnScope ["item", "begin", "is_long"] ["item", "begin", "is_long"] (defScope (topS 8)) := ⟨rfl, rfl, rfl, by decide +kernel, rfl, by decide +kernel, by decide +kernel⟩
theorem okown_bytes (T : Txt K mg) (S : SysD base) : OkF P w K mg base "own_bytes" (topS 8) ["item", "begin", "is_long"] 1 Mown_bytes := by
  obtain ⟨a, fd, hm, F⟩ := T.f_own_bytes
  have q : ∀ (cdv : Value) (A : Around) (outer : List Env) (s : Shared) (H : Hp) (E : XK), GC (cxOf (L2.CX P w) P w K mg base ["item", "begin", "is_long"] "own_bytes" (defScope (topS 8)) a cdv A outer s H E) (wishOf mg K E) 0 → HB (cxOf (L2.CX P w) P w K mg base ["item", "begin", "is_long"] "own_bytes" (defScope (topS 8)) a cdv A outer s H E) (wishOf mg K E) (defBody (topS 8)) Bown_bytes := by
    intro cdv A outer s H E c
    exact hb_cons (hs_if (ht_cmp (og_eq c) (he_ix c.hu (he_var (i := 0) rfl (Or.inl rfl)) (he_int) (fun _ _ => rfl)) (he_str) (nomark _)) (hb_one (hs_ret (he_int))) (hb_nil)) (hb_cons (hs_if (ht_cmp (og_eq c) (he_ix c.hu (he_var (i := 0) rfl (Or.inl rfl)) (he_int) (fun _ _ => rfl)) (he_str) (nomark _)) (hb_one (hs_ret (he_op og_mod (he_neg (he_var (i := 1) rfl (Or.inl rfl))) (he_ix c.hu (he_var (i := 0) rfl (Or.inl rfl)) (he_int) (fun _ _ => rfl))))) (hb_nil)) (hb_one (hs_ret (he_if (ht_truth (he_var (i := 2) rfl (Or.inl rfl))) (he_ix c.hu (he_var (i := 0) rfl (Or.inl rfl)) (he_int) (fun _ _ => rfl)) (he_ix c.hu (he_var (i := 0) rfl (Or.inl rfl)) (he_int) (fun _ _ => rfl))))))
  have q2 := fnG_fun (b := Bown_bytes) F scown_bytes S q
  have q3 := F.binds (ps := ["item", "begin", "is_long"]) (fun _ _ _ _ _ _ us hl => match us, hl with | [_, _, _], _ => rfl)
  exact ⟨a, fd, F, hm, F.kp, q3, q2⟩

theorem sclaid : FnScope ["skeleton", "lengths", "choice", "spots", "end", "place", "item", "begin"] ["skeleton", "lengths", "choice"] (defScope (topS 5)) := ⟨rfl, rfl, rfl, by decide +kernel, rfl, by decide +kernel, by decide +kernel⟩
theorem oklaid (T : Txt K mg) (S : SysD base) : OkF P w K mg base "laid" (topS 5) ["skeleton", "lengths", "choice"] 2 Mlaid := by
  obtain ⟨a0, fd0, F0, g0, k0, b0, h0⟩ := okown_bytes (P := P) (w := w) (base := base) T S
  obtain ⟨a, fd, hm, F⟩ := T.f_laid
  have q : ∀ (cdv : Value) (A : Around) (outer : List Env) (s : Shared) (H : Hp) (E : XK), GC (cxOf (L2.CX P w) P w K mg base ["skeleton", "lengths", "choice", "spots", "end", "place", "item", "begin"] "laid" (defScope (topS 5)) a cdv A outer s H E) (wishOf mg K E) 1 → HB (cxOf (L2.CX P w) P w K mg base ["skeleton", "lengths", "choice", "spots", "end", "place", "item", "begin"] "laid" (defScope (topS 5)) a cdv A outer s H E) (wishOf mg K E) (defBody (topS 5)) Blaid := by
    intro cdv A outer s H E c
    exact hb_cons (hs_set (i := 3) c.nd rfl (Or.inl rfl) (he_lst (ha_nil))) (hb_cons (hs_set (i := 4) c.nd rfl (Or.inl rfl) (he_int)) (hb_cons (hs_I (sForI_eq _ _ _) (hs_for c.po c.calm (hi_enum rfl T.z_enumerate (ha_cons (he_var (i := 0) rfl (Or.inl rfl)) (ha_nil))) (hg_tup (sl := [5, 6]) c.calm (hgs_cons c.nd rfl (Or.inl rfl) (by decide) (hgs_cons c.nd rfl (Or.inl rfl) (by decide) (hgs_nil)))) (hb_cons (hs_set (i := 7) c.nd rfl (Or.inl rfl) (he_op og_add (he_var (i := 4) rfl (Or.inl rfl)) (he_ix c.hu (he_var (i := 1) rfl (Or.inl rfl)) (he_var (i := 5) rfl (Or.inl rfl)) (fun _ _ => rfl)))) (hb_cons (hs_set (i := 4) c.nd rfl (Or.inl rfl) (he_op og_add (he_var (i := 7) rfl (Or.inl rfl)) (he_call (h0.mono (by decide)) c rfl g0 k0 b0 (ha_cons (he_var (i := 6) rfl (Or.inl rfl)) (ha_cons (he_var (i := 7) rfl (Or.inl rfl)) (ha_cons (he_cmp (og_in c) (he_var (i := 5) rfl (Or.inl rfl)) (he_var (i := 2) rfl (Or.inl rfl)) (by rfl)) (ha_nil))))))) (hb_one (hs_expr (he_meth PySem.F.plainAttrs_list PySem.F.slot_list_append PySem.F.type_list_append mg_append (he_var (i := 3) rfl (Or.inl rfl)) (ha_cons (he_tup (ha_cons (he_var (i := 7) rfl (Or.inl rfl)) (ha_cons (he_var (i := 4) rfl (Or.inl rfl)) (ha_nil)))) (ha_nil))))))))) (hb_one (hs_ret (he_callTy cg_tuple rfl T.z_tuple (by decide +kernel) (ha_cons (he_var (i := 3) rfl (Or.inl rfl)) (ha_nil)))))))
  have q2 := fnG_fun (b := Blaid) F sclaid S q
  have q3 := F.binds (ps := ["skeleton", "lengths", "choice"]) (fun _ _ _ _ _ _ us hl => match us, hl with | [_, _, _], _ => rfl)
  exact ⟨a, fd, F, hm, F.kp, q3, q2⟩

theorem sc_way : FnScope ["skeleton", "spots", "jump", "goal"] ["skeleton", "spots", "jump"] (defScope (topS 9)) := ⟨rfl, rfl, rfl, by decide +kernel, rfl, by decide +kernel, by decide +kernel⟩
theorem ok_way (T : Txt K mg) (S : SysD base) : OkF P w K mg base "_way" (topS 9) ["skeleton", "spots", "jump"] 1 M_way := by
  obtain ⟨a, fd, hm, F⟩ := T.f__way
  have q : ∀ (cdv : Value) (A : Around) (outer : List Env) (s : Shared) (H : Hp) (E : XK), GC (cxOf (L2.CX P w) P w K mg base ["skeleton", "spots", "jump", "goal"] "_way" (defScope (topS 9)) a cdv A outer s H E) (wishOf mg K E) 0 → HB (cxOf (L2.CX P w) P w K mg base ["skeleton", "spots", "jump", "goal"] "_way" (defScope (topS 9)) a cdv A outer s H E) (wishOf mg K E) (defBody (topS 9)) B_way := by
    intro cdv A outer s H E c
    exact hb_cons (hs_set (i := 3) c.nd rfl (Or.inl rfl) (he_ix c.hu (he_ix c.hu (he_var (i := 0) rfl (Or.inl rfl)) (he_var (i := 2) rfl (Or.inl rfl)) (fun _ _ => rfl)) (he_int) (fun _ _ => rfl))) (hb_cons (hs_if (ht_cmp og_gt (he_var (i := 3) rfl (Or.inl rfl)) (he_var (i := 2) rfl (Or.inl rfl)) (nomark _)) (hb_one (hs_ret (he_op og_sub (he_ix c.hu (he_ix c.hu (he_var (i := 1) rfl (Or.inl rfl)) (he_var (i := 3) rfl (Or.inl rfl)) (fun _ _ => rfl)) (he_int) (fun _ _ => rfl)) (he_ix c.hu (he_ix c.hu (he_var (i := 1) rfl (Or.inl rfl)) (he_var (i := 2) rfl (Or.inl rfl)) (fun _ _ => rfl)) (he_int) (fun _ _ => rfl))))) (hb_nil)) (hb_one (hs_ret (he_op og_sub (he_ix c.hu (he_ix c.hu (he_var (i := 1) rfl (Or.inl rfl)) (he_var (i := 2) rfl (Or.inl rfl)) (fun _ _ => rfl)) (he_int) (fun _ _ => rfl)) (he_ix c.hu (he_ix c.hu (he_var (i := 1) rfl (Or.inl rfl)) (he_var (i := 3) rfl (Or.inl rfl)) (fun _ _ => rfl)) (he_int) (fun _ _ => rfl))))))
  have q2 := fnG_fun (b := B_way) F sc_way S q
  have q3 := F.binds (ps := ["skeleton", "spots", "jump"]) (fun _ _ _ _ _ _ us hl => match us, hl with | [_, _, _], _ => rfl)
  exact ⟨a, fd, F, hm, F.kp, q3, q2⟩

theorem scstuck : FnScope ["program", "choice", "skeleton", "lengths", "reaches", "spots", "found", "jump", "reach"] ["program", "choice"] (defScope (topS 7)) := ⟨rfl, rfl, rfl, by decide +kernel, rfl, by decide +kernel, by decide +kernel⟩
theorem okstuck (T : Txt K mg) (S : SysD base) : OkF P w K mg base "stuck" (topS 7) ["program", "choice"] 3 Mstuck := by
  obtain ⟨a0, fd0, F0, g0, k0, b0, h0⟩ := oklaid (P := P) (w := w) (base := base) T S
  obtain ⟨a1, fd1, F1, g1, k1, b1, h1⟩ := okjumps_of (P := P) (w := w) (base := base) T S
  obtain ⟨a2, fd2, F2, g2, k2, b2, h2⟩ := ok_way (P := P) (w := w) (base := base) T S
  obtain ⟨a, fd, hm, F⟩ := T.f_stuck
  have q : ∀ (cdv : Value) (A : Around) (outer : List Env) (s : Shared) (H : Hp) (E : XK), GC (cxOf (L2.CX P w) P w K mg base ["program", "choice", "skeleton", "lengths", "reaches", "spots", "found", "jump", "reach"] "stuck" (defScope (topS 7)) a cdv A outer s H E) (wishOf mg K E) 2 → HB (cxOf (L2.CX P w) P w K mg base ["program", "choice", "skeleton", "lengths", "reaches", "spots", "found", "jump", "reach"] "stuck" (defScope (topS 7)) a cdv A outer s H E) (wishOf mg K E) (defBody (topS 7)) Bstuck := by
    intro cdv A outer s H E c
    exact hb_cons (hs_asg (he_var (i := 0) rfl (Or.inl rfl)) (hg_tup (sl := [2, 3, 4]) c.calm (hgs_cons c.nd rfl (Or.inl rfl) (by decide) (hgs_cons c.nd rfl (Or.inl rfl) (by decide) (hgs_cons c.nd rfl (Or.inl rfl) (by decide) (hgs_nil)))))) (hb_cons (hs_set (i := 5) c.nd rfl (Or.inl rfl) (he_call (h0.mono (by decide)) c rfl g0 k0 b0 (ha_cons (he_var (i := 2) rfl (Or.inl rfl)) (ha_cons (he_var (i := 3) rfl (Or.inl rfl)) (ha_cons (he_var (i := 1) rfl (Or.inl rfl)) (ha_nil)))))) (hb_cons (hs_set (i := 6) c.nd rfl (Or.inl rfl) (he_lst (ha_nil))) (hb_cons (hs_I (sForI_eq _ _ _) (hs_for c.po c.calm (hi_zip rfl T.z_zip (ha_cons (he_call (h1.mono (by decide)) c rfl g1 k1 b1 (ha_cons (he_var (i := 2) rfl (Or.inl rfl)) (ha_nil))) (ha_cons (he_var (i := 4) rfl (Or.inl rfl)) (ha_nil)))) (hg_tup (sl := [7, 8]) c.calm (hgs_cons c.nd rfl (Or.inl rfl) (by decide) (hgs_cons c.nd rfl (Or.inl rfl) (by decide) (hgs_nil)))) (hb_one (hs_if (HW.ht (hw_and (ht_cmp (og_notin c) (he_var (i := 7) rfl (Or.inl rfl)) (he_var (i := 1) rfl (Or.inl rfl)) (by rfl)) (hw_and1 (ht_cmp og_gt (he_call (h2.mono (by decide)) c rfl g2 k2 b2 (ha_cons (he_var (i := 2) rfl (Or.inl rfl)) (ha_cons (he_var (i := 5) rfl (Or.inl rfl)) (ha_cons (he_var (i := 7) rfl (Or.inl rfl)) (ha_nil))))) (he_var (i := 8) rfl (Or.inl rfl)) (nomark _))))) (hb_one (hs_expr (he_meth PySem.F.plainAttrs_list PySem.F.slot_list_append PySem.F.type_list_append mg_append (he_var (i := 6) rfl (Or.inl rfl)) (ha_cons (he_var (i := 7) rfl (Or.inl rfl)) (ha_nil))))) (hb_nil))))) (hb_one (hs_ret (he_callTy cg_tuple rfl T.z_tuple (by decide +kernel) (ha_cons (he_var (i := 6) rfl (Or.inl rfl)) (ha_nil))))))))
  have q2 := fnG_fun (b := Bstuck) F scstuck S q
  have q3 := F.binds (ps := ["program", "choice"]) (fun _ _ _ _ _ _ us hl => match us, hl with | [_, _], _ => rfl)
  exact ⟨a, fd, F, hm, F.kp, q3, q2⟩

theorem scserves : FnScope ["program", "choice"] ["program", "choice"] (defScope (topS 6)) := ⟨rfl, rfl, rfl, by decide +kernel, rfl, by decide +kernel, by decide +kernel⟩
theorem okserves (T : Txt K mg) (S : SysD base) : OkF P w K mg base "serves" (topS 6) ["program", "choice"] 4 Mserves := by
  obtain ⟨a0, fd0, F0, g0, k0, b0, h0⟩ := okstuck (P := P) (w := w) (base := base) T S
  obtain ⟨a, fd, hm, F⟩ := T.f_serves
  have q : ∀ (cdv : Value) (A : Around) (outer : List Env) (s : Shared) (H : Hp) (E : XK), GC (cxOf (L2.CX P w) P w K mg base ["program", "choice"] "serves" (defScope (topS 6)) a cdv A outer s H E) (wishOf mg K E) 3 → HB (cxOf (L2.CX P w) P w K mg base ["program", "choice"] "serves" (defScope (topS 6)) a cdv A outer s H E) (wishOf mg K E) (defBody (topS 6)) Bserves := by
    intro cdv A outer s H E c
    exact hb_one (hs_ret (he_cmp (og_eq c) (he_callB cg_len rfl T.z_len (by decide +kernel) (ha_cons (he_call (h0.mono (by decide)) c rfl g0 k0 b0 (ha_cons (he_var (i := 0) rfl (Or.inl rfl)) (ha_cons (he_var (i := 1) rfl (Or.inl rfl)) (ha_nil)))) (ha_nil))) (he_int) (nomark _)))
  have q2 := fnG_fun (b := Bserves) F scserves S q
  have q3 := F.binds (ps := ["program", "choice"]) (fun _ _ _ _ _ _ us hl => match us, hl with | [_, _], _ => rfl)
  exact ⟨a, fd, F, hm, F.kp, q3, q2⟩

theorem scserving : FnScope ["program", "choices", "choice"] ["program"] (defScope (topS 11)) := ⟨rfl, rfl, rfl, by decide +kernel, rfl, by decide +kernel, by decide +kernel⟩
theorem okserving (T : Txt K mg) (S : SysD base) : OkF P w K mg base "serving" (topS 11) ["program"] 5 Mserving := by
  obtain ⟨a0, fd0, F0, g0, k0, b0, h0⟩ := okchoices_within (P := P) (w := w) (base := base) T S
  obtain ⟨a1, fd1, F1, g1, k1, b1, h1⟩ := okjumps_of (P := P) (w := w) (base := base) T S
  obtain ⟨a2, fd2, F2, g2, k2, b2, h2⟩ := okserves (P := P) (w := w) (base := base) T S
  obtain ⟨a, fd, hm, F⟩ := T.f_serving
  have q : ∀ (cdv : Value) (A : Around) (outer : List Env) (s : Shared) (H : Hp) (E : XK), GC (cxOf (L2.CX P w) P w K mg base ["program", "choices", "choice"] "serving" (defScope (topS 11)) a cdv A outer s H E) (wishOf mg K E) 4 → HB (cxOf (L2.CX P w) P w K mg base ["program", "choices", "choice"] "serving" (defScope (topS 11)) a cdv A outer s H E) (wishOf mg K E) (defBody (topS 11)) Bserving := by
    intro cdv A outer s H E c
    exact hb_cons (hs_set (i := 1) c.nd rfl (Or.inl rfl) (he_call (h0.mono (by decide)) c rfl g0 k0 b0 (ha_cons (he_call (h1.mono (by decide)) c rfl g1 k1 b1 (ha_cons (he_ix c.hu (he_var (i := 0) rfl (Or.inr (Or.inl rfl))) (he_int) (fun _ _ => rfl)) (ha_nil))) (ha_nil)))) (hb_one (hs_ret (he_callTy cg_tuple rfl T.z_tuple (by decide +kernel) (ha_cons (he_callB (cg_sortedL c) rfl T.z_sorted (by decide +kernel) (ha_cons (he_I (mLcI_eq _ _ _ _ _) (he_lc (own := [("choice", 2)]) c (hi_seq (he_var (i := 1) rfl (Or.inl rfl))) (by kernel_rfl) (fun s1 H1 C1 cl1 fp1 => hg_name (GC.blk c s1 H1 _ _ fp1).nd rfl (Or.inl rfl)) (fun s1 H1 C1 cl1 fp1 => hts_one (ht_truth (he_call (h2.mono (by decide)) (GC.blk c s1 H1 _ _ fp1) rfl g2 k2 b2 (ha_cons (he_var (i := 0) rfl (Or.inr (Or.inl rfl))) (ha_cons (he_var (i := 2) rfl (Or.inl rfl)) (ha_nil)))))) (fun s1 H1 C1 cl1 fp1 => he_var (i := 2) rfl (Or.inl rfl)))) (ha_nil))) (ha_nil)))))
  have q2 := fnG_fun (b := Bserving) F scserving S q
  have q3 := F.binds (ps := ["program"]) (fun _ _ _ _ _ _ us hl => match us, hl with | [_], _ => rfl)
  exact ⟨a, fd, F, hm, F.kp, q3, q2⟩

theorem sc_law_stock : FnScope ["script", "flat", "cell"] ["script"] (defScope (topS 13)) := ⟨rfl, rfl, rfl, by decide +kernel, rfl, by decide +kernel, by decide +kernel⟩
theorem ok_law_stock (T : Txt K mg) (S : SysD base) : OkF P w K mg base "_law_stock" (topS 13) ["script"] 1 M_law_stock := by
  obtain ⟨a, fd, hm, F⟩ := T.f__law_stock
  have q : ∀ (cdv : Value) (A : Around) (outer : List Env) (s : Shared) (H : Hp) (E : XK), GC (cxOf (L2.CX P w) P w K mg base ["script", "flat", "cell"] "_law_stock" (defScope (topS 13)) a cdv A outer s H E) (wishOf mg K E) 0 → HB (cxOf (L2.CX P w) P w K mg base ["script", "flat", "cell"] "_law_stock" (defScope (topS 13)) a cdv A outer s H E) (wishOf mg K E) (defBody (topS 13)) B_law_stock := by
    intro cdv A outer s H E c
    exact hb_cons (hs_I (setI_eq _ _ _ _ _ _) (hs_setLc (i := 1) (own := [("cell", 2)]) c rfl rfl (sw_true rfl rfl rfl (by decide +kernel)) (hi_seq (he_cut (he_var (i := 0) rfl (Or.inl rfl)) (ho_none) (ho_some (he_int)))) (by kernel_rfl) (fun s1 H1 C1 cl1 fp1 => hg_name (GC.blk c s1 H1 _ _ fp1).nd rfl (Or.inl rfl)) (fun s1 H1 C1 cl1 fp1 => hts_nil) (fun s1 H1 C1 cl1 fp1 => he_if (ht_cmp og_ge (he_var (i := 2) rfl (Or.inl rfl)) (he_int) (nomark _)) (he_op og_mul (he_int) (he_var (i := 2) rfl (Or.inl rfl))) (he_op og_sub (he_op og_mul (he_neg (he_int)) (he_var (i := 2) rfl (Or.inl rfl))) (he_int))))) (hb_one (hs_ret (he_lst (ha_cons (he_I (mLcI_eq _ _ _ _ _) (he_lc (own := [("cell", 2)]) c (hi_seq (he_var (i := 1) rfl (Or.inl rfl))) (by kernel_rfl) (fun s2 H2 C2 cl2 fp2 => hg_name (GC.blk c s2 H2 _ _ fp2).nd rfl (Or.inl rfl)) (fun s2 H2 C2 cl2 fp2 => hts_one (ht_cmp og_ge (he_var (i := 2) rfl (Or.inl rfl)) (he_op og_pow (he_int) (he_int)) (nomark _))) (fun s2 H2 C2 cl2 fp2 => he_var (i := 2) rfl (Or.inl rfl)))) (ha_cons (he_op og_add (he_var (i := 1) rfl (Or.inl rfl)) (he_lst (ha_cons (he_op og_add (he_callB cg_len rfl T.z_len (by decide +kernel) (ha_cons (he_var (i := 1) rfl (Or.inl rfl)) (ha_nil))) (he_int)) (ha_nil)))) (ha_cons (he_callB (cg_sum c) rfl T.z_sum (by decide +kernel) (ha_cons (he_var (i := 1) rfl (Or.inl rfl)) (ha_nil))) (ha_cons (he_int) (ha_nil))))))))
  have q2 := fnG_fun (b := B_law_stock) F sc_law_stock S q
  have q3 := F.binds (ps := ["script"]) (fun _ _ _ _ _ _ us hl => match us, hl with | [_], _ => rfl)
  exact ⟨a, fd, F, hm, F.kp, q3, q2⟩

theorem sc_law_draw : FnScope ["stock", "size", "great", "turn", "cell", "blend"] ["stock", "size"] (defScope (topS 14)) := ⟨rfl, rfl, rfl, by decide +kernel, rfl, by decide +kernel, by decide +kernel⟩
theorem ok_law_draw (T : Txt K mg) (S : SysD base) : OkF P w K mg base "_law_draw" (topS 14) ["stock", "size"] 1 M_law_draw := by
  obtain ⟨a, fd, hm, F⟩ := T.f__law_draw
  have q : ∀ (cdv : Value) (A : Around) (outer : List Env) (s : Shared) (H : Hp) (E : XK), GC (cxOf (L2.CX P w) P w K mg base ["stock", "size", "great", "turn", "cell", "blend"] "_law_draw" (defScope (topS 14)) a cdv A outer s H E) (wishOf mg K E) 0 → HB (cxOf (L2.CX P w) P w K mg base ["stock", "size", "great", "turn", "cell", "blend"] "_law_draw" (defScope (topS 14)) a cdv A outer s H E) (wishOf mg K E) (defBody (topS 14)) B_law_draw := by
    intro cdv A outer s H E c
    exact hb_cons (hs_if (ht_cmp (og_ne c) (he_ix c.hu (he_var (i := 0) rfl (Or.inl rfl)) (he_int) (fun _ _ => rfl)) (he_lst (ha_nil)) (nomark _)) (hb_cons (hs_set (i := 2) c.nd rfl (Or.inl rfl) (he_meth0 PySem.F.plainAttrs_list PySem.F.slot_list_pop PySem.F.type_list_pop mg_pop (he_ix c.hu (he_var (i := 0) rfl (Or.inl rfl)) (he_int) (fun _ _ => rfl)))) (hb_cons (hs_if (ht_cmp og_ge (he_var (i := 2) rfl (Or.inl rfl)) (he_var (i := 1) rfl (Or.inl rfl)) (nomark _)) (hb_one (hs_expr (he_meth PySem.F.plainAttrs_list PySem.F.slot_list_append PySem.F.type_list_append mg_append (he_ix c.hu (he_var (i := 0) rfl (Or.inl rfl)) (he_int) (fun _ _ => rfl)) (ha_cons (he_op og_fdiv (he_var (i := 2) rfl (Or.inl rfl)) (he_var (i := 1) rfl (Or.inl rfl))) (ha_nil))))) (hb_nil)) (hb_one (hs_ret (he_op og_mod (he_callTy cg_int rfl T.z_int (by decide +kernel) (ha_cons (he_var (i := 2) rfl (Or.inl rfl)) (ha_nil))) (he_var (i := 1) rfl (Or.inl rfl))))))) (hb_nil)) (hb_cons (hs_asg (he_op og_add (he_ix c.hu (he_var (i := 0) rfl (Or.inl rfl)) (he_int) (fun _ _ => rfl)) (he_int)) (hg_put c.hu (he_var (i := 0) rfl (Or.inl rfl)) (he_int) (fun h1 h2 h3 => pg_sub h1 h2 h3))) (hb_cons (hs_set (i := 3) c.nd rfl (Or.inl rfl) (he_ix c.hu (he_var (i := 0) rfl (Or.inl rfl)) (he_int) (fun _ _ => rfl))) (hb_cons (hs_set (i := 4) c.nd rfl (Or.inl rfl) (he_op og_mod (he_callTy cg_int rfl T.z_int (by decide +kernel) (ha_cons (he_ix c.hu (he_ix c.hu (he_var (i := 0) rfl (Or.inl rfl)) (he_int) (fun _ _ => rfl)) (he_op og_mod (he_callTy cg_int rfl T.z_int (by decide +kernel) (ha_cons (he_var (i := 3) rfl (Or.inl rfl)) (ha_nil))) (he_callB cg_len rfl T.z_len (by decide +kernel) (ha_cons (he_ix c.hu (he_var (i := 0) rfl (Or.inl rfl)) (he_int) (fun _ _ => rfl)) (ha_nil)))) (fun _ _ => rfl)) (ha_nil))) (he_int))) (hb_cons (hs_set (i := 5) c.nd rfl (Or.inl rfl) (he_op og_mod (he_callTy cg_int rfl T.z_int (by decide +kernel) (ha_cons (he_op og_add (he_op og_add (he_op og_mul (he_var (i := 4) rfl (Or.inl rfl)) (he_int)) (he_op og_mul (he_op og_mod (he_callTy cg_int rfl T.z_int (by decide +kernel) (ha_cons (he_ix c.hu (he_var (i := 0) rfl (Or.inl rfl)) (he_int) (fun _ _ => rfl)) (ha_nil))) (he_int)) (he_int))) (he_op og_mul (he_var (i := 3) rfl (Or.inl rfl)) (he_int))) (ha_nil))) (he_int))) (hb_cons (hs_set (i := 5) c.nd rfl (Or.inl rfl) (he_op og_mod (he_callTy cg_int rfl T.z_int (by decide +kernel) (ha_cons (he_op og_add (he_op og_add (he_op og_mul (he_var (i := 5) rfl (Or.inl rfl)) (he_var (i := 5) rfl (Or.inl rfl))) (he_op og_mul (he_var (i := 3) rfl (Or.inl rfl)) (he_int))) (he_var (i := 4) rfl (Or.inl rfl))) (ha_nil))) (he_int))) (hb_one (hs_ret (he_op og_mod (he_op og_fdiv (he_op og_mod (he_callTy cg_int rfl T.z_int (by decide +kernel) (ha_cons (he_op og_add (he_op og_mul (he_var (i := 5) rfl (Or.inl rfl)) (he_int)) (he_op og_mul (he_var (i := 3) rfl (Or.inl rfl)) (he_int))) (ha_nil))) (he_int)) (he_int)) (he_var (i := 1) rfl (Or.inl rfl))))))))))
  have q2 := fnG_fun (b := B_law_draw) F sc_law_draw S q
  have q3 := F.binds (ps := ["stock", "size"]) (fun _ _ _ _ _ _ us hl => match us, hl with | [_, _], _ => rfl)
  exact ⟨a, fd, F, hm, F.kp, q3, q2⟩

theorem sc_law_pick : FnScope ["stock", "row"] ["stock", "row"] (defScope (topS 15)) := ⟨rfl, rfl, rfl, by decide +kernel, rfl, by decide +kernel, by decide +kernel⟩
theorem ok_law_pick (T : Txt K mg) (S : SysD base) : OkF P w K mg base "_law_pick" (topS 15) ["stock", "row"] 2 M_law_pick := by
  obtain ⟨a0, fd0, F0, g0, k0, b0, h0⟩ := ok_law_draw (P := P) (w := w) (base := base) T S
  obtain ⟨a, fd, hm, F⟩ := T.f__law_pick
  have q : ∀ (cdv : Value) (A : Around) (outer : List Env) (s : Shared) (H : Hp) (E : XK), GC (cxOf (L2.CX P w) P w K mg base ["stock", "row"] "_law_pick" (defScope (topS 15)) a cdv A outer s H E) (wishOf mg K E) 1 → HB (cxOf (L2.CX P w) P w K mg base ["stock", "row"] "_law_pick" (defScope (topS 15)) a cdv A outer s H E) (wishOf mg K E) (defBody (topS 15)) B_law_pick := by
    intro cdv A outer s H E c
    exact hb_one (hs_ret (he_ix c.hu (he_var (i := 1) rfl (Or.inl rfl)) (he_call (h0.mono (by decide)) c rfl g0 k0 b0 (ha_cons (he_var (i := 0) rfl (Or.inl rfl)) (ha_cons (he_callB cg_len rfl T.z_len (by decide +kernel) (ha_cons (he_var (i := 1) rfl (Or.inl rfl)) (ha_nil))) (ha_nil)))) (fun _ _ => rfl)))
  have q2 := fnG_fun (b := B_law_pick) F sc_law_pick S q
  have q3 := F.binds (ps := ["stock", "row"]) (fun _ _ _ _ _ _ us hl => match us, hl with | [_, _], _ => rfl)
  exact ⟨a, fd, F, hm, F.kp, q3, q2⟩

theorem sc_law_skeleton : FnScope ["stock", "most", "jumps", "many", "sorts", "left", "place", "sort", "goals", "found", "short", "growth"] ["stock", "most", "jumps"] (defScope (topS 16)) := ⟨rfl, rfl, rfl, by decide +kernel, rfl, by decide +kernel, by decide +kernel⟩
theorem ok_law_skeleton (T : Txt K mg) (S : SysD base) : OkF P w K mg base "_law_skeleton" (topS 16) ["stock", "most", "jumps"] 3 M_law_skeleton := by
  obtain ⟨a0, fd0, F0, g0, k0, b0, h0⟩ := ok_law_draw (P := P) (w := w) (base := base) T S
  obtain ⟨a1, fd1, F1, g1, k1, b1, h1⟩ := ok_law_pick (P := P) (w := w) (base := base) T S
  obtain ⟨a, fd, hm, F⟩ := T.f__law_skeleton
  have q : ∀ (cdv : Value) (A : Around) (outer : List Env) (s : Shared) (H : Hp) (E : XK), GC (cxOf (L2.CX P w) P w K mg base ["stock", "most", "jumps", "many", "sorts", "left", "place", "sort", "goals", "found", "short", "growth"] "_law_skeleton" (defScope (topS 16)) a cdv A outer s H E) (wishOf mg K E) 2 → HB (cxOf (L2.CX P w) P w K mg base ["stock", "most", "jumps", "many", "sorts", "left", "place", "sort", "goals", "found", "short", "growth"] "_law_skeleton" (defScope (topS 16)) a cdv A outer s H E) (wishOf mg K E) (defBody (topS 16)) B_law_skeleton := by
    intro cdv A outer s H E c
    exact hb_cons (hs_par3 (i := 3) (j := 4) (l := 5) c rfl rfl rfl (by decide) (by decide) (by decide) rfl rfl rfl (ha_cons (he_op og_add (he_int) (he_call (h0.mono (by decide)) c rfl g0 k0 b0 (ha_cons (he_var (i := 0) rfl (Or.inl rfl)) (ha_cons (he_var (i := 1) rfl (Or.inl rfl)) (ha_nil))))) (ha_cons (he_lst (ha_nil)) (ha_cons (he_var (i := 2) rfl (Or.inl rfl)) (ha_nil)))) (by rfl)) (hb_cons (hs_I (sForI_eq _ _ _) (hs_for c.po c.calm (hi_range1 rfl T.z_range (ha_cons (he_var (i := 3) rfl (Or.inl rfl)) (ha_nil))) (hg_name c.nd rfl (Or.inl rfl)) (hb_cons (hs_set (i := 7) c.nd rfl (Or.inl rfl) (he_ix c.hu (he_lst (ha_cons (he_str) (ha_cons (he_str) (ha_cons (he_str) (ha_cons (he_str) (ha_cons (he_str) (ha_cons (he_str) (ha_cons (he_str) (ha_nil))))))))) (he_call (h0.mono (by decide)) c rfl g0 k0 b0 (ha_cons (he_var (i := 0) rfl (Or.inl rfl)) (ha_cons (he_int) (ha_nil)))) (fun _ _ => rfl))) (hb_cons (hs_set (i := 7) c.nd rfl (Or.inl rfl) (he_if (HW.ht (hw_and (ht_cmp (og_eq c) (he_var (i := 7) rfl (Or.inl rfl)) (he_str) (nomark _)) (hw_and1 (ht_cmp (og_eq c) (he_var (i := 5) rfl (Or.inl rfl)) (he_int) (nomark _))))) (he_str) (he_var (i := 7) rfl (Or.inl rfl)))) (hb_cons (hs_set (i := 5) c.nd rfl (Or.inl rfl) (he_op og_sub (he_var (i := 5) rfl (Or.inl rfl)) (he_callTy cg_int rfl T.z_int (by decide +kernel) (ha_cons (he_cmp (og_eq c) (he_var (i := 7) rfl (Or.inl rfl)) (he_str) (nomark _)) (ha_nil))))) (hb_one (hs_expr (he_meth PySem.F.plainAttrs_list PySem.F.slot_list_append PySem.F.type_list_append mg_append (he_var (i := 4) rfl (Or.inl rfl)) (ha_cons (he_var (i := 7) rfl (Or.inl rfl)) (ha_nil)))))))))) (hb_cons (hs_if (ht_cmp (og_notin c) (he_str) (he_var (i := 4) rfl (Or.inl rfl)) (by rfl)) (hb_one (hs_asg (he_str) (hg_put c.hu (he_var (i := 4) rfl (Or.inl rfl)) (he_call (h1.mono (by decide)) c rfl g1 k1 b1 (ha_cons (he_var (i := 0) rfl (Or.inl rfl)) (ha_cons (he_lst (ha_cons (he_op og_sub (he_var (i := 3) rfl (Or.inl rfl)) (he_int)) (ha_cons (he_op og_sub (he_var (i := 3) rfl (Or.inl rfl)) (he_int)) (ha_cons (he_call (h0.mono (by decide)) c rfl g0 k0 b0 (ha_cons (he_var (i := 0) rfl (Or.inl rfl)) (ha_cons (he_var (i := 3) rfl (Or.inl rfl)) (ha_nil)))) (ha_nil))))) (ha_nil)))) (fun h1 h2 h3 => pg_sub h1 h2 h3)))) (hb_nil)) (hb_cons (hs_I (setI_eq _ _ _ _ _ _) (hs_setLc (i := 8) (own := [("place", 6), ("sort", 7)]) c rfl rfl (sw_true rfl rfl rfl (by decide +kernel)) (hi_enum rfl T.z_enumerate (ha_cons (he_var (i := 4) rfl (Or.inl rfl)) (ha_nil))) (by kernel_rfl) (fun s1 H1 C1 cl1 fp1 => hg_tup (sl := [6, 7]) (GC.blk c s1 H1 _ _ fp1).calm (hgs_cons (GC.blk c s1 H1 _ _ fp1).nd rfl (Or.inl rfl) (by decide) (hgs_cons (GC.blk c s1 H1 _ _ fp1).nd rfl (Or.inl rfl) (by decide) (hgs_nil)))) (fun s1 H1 C1 cl1 fp1 => hts_one (ht_cmp (og_eq (GC.blk c s1 H1 _ _ fp1)) (he_var (i := 7) rfl (Or.inl rfl)) (he_str) (nomark _))) (fun s1 H1 C1 cl1 fp1 => he_var (i := 6) rfl (Or.inl rfl)))) (hb_cons (hs_set (i := 9) c.nd rfl (Or.inl rfl) (he_lst (ha_nil))) (hb_cons (hs_I (sForI_eq _ _ _) (hs_for c.po c.calm (hi_seq (he_var (i := 4) rfl (Or.inl rfl))) (hg_name c.nd rfl (Or.inl rfl)) (hb_one (hs_if (ht_cmp (og_eq c) (he_var (i := 7) rfl (Or.inl rfl)) (he_str) (nomark _)) (hb_one (hs_expr (he_meth PySem.F.plainAttrs_list PySem.F.slot_list_append PySem.F.type_list_append mg_append (he_var (i := 9) rfl (Or.inl rfl)) (ha_cons (he_tup (ha_cons (he_str) (ha_nil))) (ha_nil))))) (hb_one (hs_if (ht_cmp (og_eq c) (he_var (i := 7) rfl (Or.inl rfl)) (he_str) (nomark _)) (hb_one (hs_expr (he_meth PySem.F.plainAttrs_list PySem.F.slot_list_append PySem.F.type_list_append mg_append (he_var (i := 9) rfl (Or.inl rfl)) (ha_cons (he_tup (ha_cons (he_str) (ha_cons (he_call (h1.mono (by decide)) c rfl g1 k1 b1 (ha_cons (he_var (i := 0) rfl (Or.inl rfl)) (ha_cons (he_lst (ha_cons (he_int) (ha_cons (he_int) (ha_cons (he_int) (ha_cons (he_int) (ha_cons (he_int) (ha_cons (he_int) (ha_cons (he_int) (ha_cons (he_int) (ha_nil)))))))))) (ha_nil)))) (ha_nil)))) (ha_nil))))) (hb_cons (hs_set (i := 10) c.nd rfl (Or.inl rfl) (he_call (h1.mono (by decide)) c rfl g1 k1 b1 (ha_cons (he_var (i := 0) rfl (Or.inl rfl)) (ha_cons (he_op og_add (he_op og_mul (he_lst (ha_cons (he_op og_add (he_int) (he_call (h0.mono (by decide)) c rfl g0 k0 b0 (ha_cons (he_var (i := 0) rfl (Or.inl rfl)) (ha_cons (he_int) (ha_nil))))) (ha_nil))) (he_int)) (he_lst (ha_cons (he_op og_add (he_int) (he_call (h0.mono (by decide)) c rfl g0 k0 b0 (ha_cons (he_var (i := 0) rfl (Or.inl rfl)) (ha_cons (he_int) (ha_nil))))) (ha_nil)))) (ha_nil))))) (hb_cons (hs_set (i := 11) c.nd rfl (Or.inl rfl) (he_call (h1.mono (by decide)) c rfl g1 k1 b1 (ha_cons (he_var (i := 0) rfl (Or.inl rfl)) (ha_cons (he_lst (ha_cons (he_int) (ha_cons (he_int) (ha_cons (he_int) (ha_cons (he_int) (ha_cons (he_int) (ha_cons (he_int) (ha_cons (he_op og_add (he_int) (he_call (h0.mono (by decide)) c rfl g0 k0 b0 (ha_cons (he_var (i := 0) rfl (Or.inl rfl)) (ha_cons (he_int) (ha_nil))))) (ha_cons (he_int) (ha_nil)))))))))) (ha_nil))))) (hb_one (hs_expr (he_meth PySem.F.plainAttrs_list PySem.F.slot_list_append PySem.F.type_list_append mg_append (he_var (i := 9) rfl (Or.inl rfl)) (ha_cons (he_tup (ha_cons (he_str) (ha_cons (he_call (h1.mono (by decide)) c rfl g1 k1 b1 (ha_cons (he_var (i := 0) rfl (Or.inl rfl)) (ha_cons (he_op og_add (he_cut (he_var (i := 8) rfl (Or.inl rfl)) (ho_some (he_neg (he_int))) (ho_none)) (he_var (i := 8) rfl (Or.inl rfl))) (ha_nil)))) (ha_cons (he_var (i := 10) rfl (Or.inl rfl)) (ha_cons (he_callB (cg_min c) rfl T.z_min (by decide +kernel) (ha_cons (he_int) (ha_cons (he_op og_add (he_var (i := 10) rfl (Or.inl rfl)) (he_var (i := 11) rfl (Or.inl rfl))) (ha_nil)))) (ha_nil)))))) (ha_nil))))))))))))) (hb_one (hs_ret (he_callTy cg_tuple rfl T.z_tuple (by decide +kernel) (ha_cons (he_var (i := 9) rfl (Or.inl rfl)) (ha_nil))))))))))
  have q2 := fnG_fun (b := B_law_skeleton) F sc_law_skeleton S q
  have q3 := F.binds (ps := ["stock", "most", "jumps"]) (fun _ _ _ _ _ _ us hl => match us, hl with | [_, _, _], _ => rfl)
  exact ⟨a, fd, F, hm, F.kp, q3, q2⟩

theorem sc_law_eight : FnScope ["stock", "found", "turn", "short"] ["stock"] (defScope (topS 17)) := ⟨rfl, rfl, rfl, by decide +kernel, rfl, by decide +kernel, by decide +kernel⟩
theorem ok_law_eight (T : Txt K mg) (S : SysD base) : OkF P w K mg base "_law_eight" (topS 17) ["stock"] 3 M_law_eight := by
  obtain ⟨a0, fd0, F0, g0, k0, b0, h0⟩ := ok_law_draw (P := P) (w := w) (base := base) T S
  obtain ⟨a1, fd1, F1, g1, k1, b1, h1⟩ := ok_law_pick (P := P) (w := w) (base := base) T S
  obtain ⟨a, fd, hm, F⟩ := T.f__law_eight
  have q : ∀ (cdv : Value) (A : Around) (outer : List Env) (s : Shared) (H : Hp) (E : XK), GC (cxOf (L2.CX P w) P w K mg base ["stock", "found", "turn", "short"] "_law_eight" (defScope (topS 17)) a cdv A outer s H E) (wishOf mg K E) 2 → HB (cxOf (L2.CX P w) P w K mg base ["stock", "found", "turn", "short"] "_law_eight" (defScope (topS 17)) a cdv A outer s H E) (wishOf mg K E) (defBody (topS 17)) B_law_eight := by
    intro cdv A outer s H E c
    exact hb_cons (hs_set (i := 1) c.nd rfl (Or.inl rfl) (he_lst (ha_cons (he_tup (ha_cons (he_str) (ha_nil))) (ha_nil)))) (hb_cons (hs_I (sForI_eq _ _ _) (hs_for c.po c.calm (hi_range1 rfl T.z_range (ha_cons (he_int) (ha_nil))) (hg_name c.nd rfl (Or.inl rfl)) (hb_cons (hs_if (ht_cmp (og_eq c) (he_op og_mod (he_callTy cg_int rfl T.z_int (by decide +kernel) (ha_cons (he_var (i := 2) rfl (Or.inl rfl)) (ha_nil))) (he_int)) (he_int) (nomark _)) (hb_one (hs_expr (he_meth PySem.F.plainAttrs_list PySem.F.slot_list_append PySem.F.type_list_append mg_append (he_var (i := 1) rfl (Or.inl rfl)) (ha_cons (he_tup (ha_cons (he_str) (ha_cons (he_call (h1.mono (by decide)) c rfl g1 k1 b1 (ha_cons (he_var (i := 0) rfl (Or.inl rfl)) (ha_cons (he_lst (ha_cons (he_int) (ha_cons (he_int) (ha_cons (he_int) (ha_cons (he_int) (ha_nil)))))) (ha_nil)))) (ha_nil)))) (ha_nil))))) (hb_nil)) (hb_cons (hs_set (i := 3) c.nd rfl (Or.inl rfl) (he_op og_add (he_int) (he_call (h0.mono (by decide)) c rfl g0 k0 b0 (ha_cons (he_var (i := 0) rfl (Or.inl rfl)) (ha_cons (he_int) (ha_nil)))))) (hb_one (hs_expr (he_meth PySem.F.plainAttrs_list PySem.F.slot_list_append PySem.F.type_list_append mg_append (he_var (i := 1) rfl (Or.inl rfl)) (ha_cons (he_tup (ha_cons (he_str) (ha_cons (he_call (h1.mono (by decide)) c rfl g1 k1 b1 (ha_cons (he_var (i := 0) rfl (Or.inl rfl)) (ha_cons (he_lst (ha_cons (he_int) (ha_cons (he_int) (ha_cons (he_int) (ha_nil))))) (ha_nil)))) (ha_cons (he_var (i := 3) rfl (Or.inl rfl)) (ha_cons (he_op og_add (he_var (i := 3) rfl (Or.inl rfl)) (he_call (h1.mono (by decide)) c rfl g1 k1 b1 (ha_cons (he_var (i := 0) rfl (Or.inl rfl)) (ha_cons (he_lst (ha_cons (he_int) (ha_cons (he_int) (ha_cons (he_int) (ha_cons (he_int) (ha_cons (he_int) (ha_nil))))))) (ha_nil))))) (ha_nil)))))) (ha_nil))))))))) (hb_one (hs_ret (he_callTy cg_tuple rfl T.z_tuple (by decide +kernel) (ha_cons (he_op og_add (he_var (i := 1) rfl (Or.inl rfl)) (he_lst (ha_cons (he_tup (ha_cons (he_str) (ha_nil))) (ha_nil)))) (ha_nil))))))
  have q2 := fnG_fun (b := B_law_eight) F sc_law_eight S q
  have q3 := F.binds (ps := ["stock"]) (fun _ _ _ _ _ _ us hl => match us, hl with | [_], _ => rfl)
  exact ⟨a, fd, F, hm, F.kp, q3, q2⟩

theorem sc_law_jumps : FnScope ["skeleton", "place", "item"] ["skeleton"] (defScope (topS 18)) := ⟨rfl, rfl, rfl, by decide +kernel, rfl, by decide +kernel, by decide +kernel⟩
theorem ok_law_jumps (T : Txt K mg) (S : SysD base) : OkF P w K mg base "_law_jumps" (topS 18) ["skeleton"] 1 M_law_jumps := by
  obtain ⟨a, fd, hm, F⟩ := T.f__law_jumps
  have q : ∀ (cdv : Value) (A : Around) (outer : List Env) (s : Shared) (H : Hp) (E : XK), GC (cxOf (L2.CX P w) P w K mg base ["skeleton", "place", "item"] "_law_jumps" (defScope (topS 18)) a cdv A outer s H E) (wishOf mg K E) 0 → HB (cxOf (L2.CX P w) P w K mg base ["skeleton", "place", "item"] "_law_jumps" (defScope (topS 18)) a cdv A outer s H E) (wishOf mg K E) (defBody (topS 18)) B_law_jumps := by
    intro cdv A outer s H E c
    exact hb_one (hs_ret (he_I (mLcI_eq _ _ _ _ _) (he_lc (own := [("place", 1), ("item", 2)]) c (hi_enum rfl T.z_enumerate (ha_cons (he_var (i := 0) rfl (Or.inl rfl)) (ha_nil))) (by kernel_rfl) (fun s1 H1 C1 cl1 fp1 => hg_tup (sl := [1, 2]) (GC.blk c s1 H1 _ _ fp1).calm (hgs_cons (GC.blk c s1 H1 _ _ fp1).nd rfl (Or.inl rfl) (by decide) (hgs_cons (GC.blk c s1 H1 _ _ fp1).nd rfl (Or.inl rfl) (by decide) (hgs_nil)))) (fun s1 H1 C1 cl1 fp1 => hts_one (ht_cmp (og_eq (GC.blk c s1 H1 _ _ fp1)) (he_ix (GC.blk c s1 H1 _ _ fp1).hu (he_var (i := 2) rfl (Or.inl rfl)) (he_int) (fun _ _ => rfl)) (he_str) (nomark _))) (fun s1 H1 C1 cl1 fp1 => he_var (i := 1) rfl (Or.inl rfl)))))
  have q2 := fnG_fun (b := B_law_jumps) F sc_law_jumps S q
  have q3 := F.binds (ps := ["skeleton"]) (fun _ _ _ _ _ _ us hl => match us, hl with | [_], _ => rfl)
  exact ⟨a, fd, F, hm, F.kp, q3, q2⟩

theorem sc_law_spots : FnScope ["skeleton", "lengths", "choice", "at", "found", "place", "item", "begin"] ["skeleton", "lengths", "choice"] (defScope (topS 19)) := ⟨rfl, rfl, rfl, by decide +kernel, rfl, by decide +kernel, by decide +kernel⟩
theorem ok_law_spots (T : Txt K mg) (S : SysD base) : OkF P w K mg base "_law_spots" (topS 19) ["skeleton", "lengths", "choice"] 1 M_law_spots := by
  obtain ⟨a, fd, hm, F⟩ := T.f__law_spots
  have q : ∀ (cdv : Value) (A : Around) (outer : List Env) (s : Shared) (H : Hp) (E : XK), GC (cxOf (L2.CX P w) P w K mg base ["skeleton", "lengths", "choice", "at", "found", "place", "item", "begin"] "_law_spots" (defScope (topS 19)) a cdv A outer s H E) (wishOf mg K E) 0 → HB (cxOf (L2.CX P w) P w K mg base ["skeleton", "lengths", "choice", "at", "found", "place", "item", "begin"] "_law_spots" (defScope (topS 19)) a cdv A outer s H E) (wishOf mg K E) (defBody (topS 19)) B_law_spots := by
    intro cdv A outer s H E c
    exact hb_cons (hs_par (i := 3) (j := 4) c rfl rfl (by decide) rfl rfl (ha_cons (he_int) (ha_cons (he_lst (ha_nil)) (ha_nil))) (by rfl)) (hb_cons (hs_I (sForI_eq _ _ _) (hs_for c.po c.calm (hi_enum rfl T.z_enumerate (ha_cons (he_var (i := 0) rfl (Or.inl rfl)) (ha_nil))) (hg_tup (sl := [5, 6]) c.calm (hgs_cons c.nd rfl (Or.inl rfl) (by decide) (hgs_cons c.nd rfl (Or.inl rfl) (by decide) (hgs_nil)))) (hb_cons (hs_set (i := 7) c.nd rfl (Or.inl rfl) (he_op og_add (he_var (i := 3) rfl (Or.inl rfl)) (he_ix c.hu (he_var (i := 1) rfl (Or.inl rfl)) (he_var (i := 5) rfl (Or.inl rfl)) (fun _ _ => rfl)))) (hb_cons (hs_set (i := 3) c.nd rfl (Or.inl rfl) (he_var (i := 7) rfl (Or.inl rfl))) (hb_cons (hs_if (ht_cmp (og_eq c) (he_ix c.hu (he_var (i := 6) rfl (Or.inl rfl)) (he_int) (fun _ _ => rfl)) (he_str) (nomark _)) (hb_one (hs_set (i := 3) c.nd rfl (Or.inl rfl) (he_op og_add (he_var (i := 7) rfl (Or.inl rfl)) (he_op og_mod (he_callTy cg_int rfl T.z_int (by decide +kernel) (ha_cons (he_op og_sub (he_int) (he_var (i := 7) rfl (Or.inl rfl))) (ha_nil))) (he_ix c.hu (he_var (i := 6) rfl (Or.inl rfl)) (he_int) (fun _ _ => rfl)))))) (hb_one (hs_if (ht_cmp (og_eq c) (he_ix c.hu (he_var (i := 6) rfl (Or.inl rfl)) (he_int) (fun _ _ => rfl)) (he_str) (nomark _)) (hb_one (hs_set (i := 3) c.nd rfl (Or.inl rfl) (he_op og_add (he_var (i := 7) rfl (Or.inl rfl)) (he_if (ht_cmp (og_in c) (he_var (i := 5) rfl (Or.inl rfl)) (he_var (i := 2) rfl (Or.inl rfl)) (by rfl)) (he_ix c.hu (he_var (i := 6) rfl (Or.inl rfl)) (he_int) (fun _ _ => rfl)) (he_ix c.hu (he_var (i := 6) rfl (Or.inl rfl)) (he_int) (fun _ _ => rfl)))))) (hb_nil)))) (hb_one (hs_expr (he_meth PySem.F.plainAttrs_list PySem.F.slot_list_append PySem.F.type_list_append mg_append (he_var (i := 4) rfl (Or.inl rfl)) (ha_cons (he_tup (ha_cons (he_var (i := 7) rfl (Or.inl rfl)) (ha_cons (he_var (i := 3) rfl (Or.inl rfl)) (ha_nil)))) (ha_nil)))))))))) (hb_one (hs_ret (he_var (i := 4) rfl (Or.inl rfl)))))
  have q2 := fnG_fun (b := B_law_spots) F sc_law_spots S q
  have q3 := F.binds (ps := ["skeleton", "lengths", "choice"]) (fun _ _ _ _ _ _ us hl => match us, hl with | [_, _, _], _ => rfl)
  exact ⟨a, fd, F, hm, F.kp, q3, q2⟩

theorem sc_law_ways : FnScope ["skeleton", "lengths", "choice", "spots", "found", "place", "goal"] ["skeleton", "lengths", "choice"] (defScope (topS 20)) := ⟨rfl, rfl, rfl, by decide +kernel, rfl, by decide +kernel, by decide +kernel⟩
theorem ok_law_ways (T : Txt K mg) (S : SysD base) : OkF P w K mg base "_law_ways" (topS 20) ["skeleton", "lengths", "choice"] 2 M_law_ways := by
  obtain ⟨a0, fd0, F0, g0, k0, b0, h0⟩ := ok_law_jumps (P := P) (w := w) (base := base) T S
  obtain ⟨a1, fd1, F1, g1, k1, b1, h1⟩ := ok_law_spots (P := P) (w := w) (base := base) T S
  obtain ⟨a, fd, hm, F⟩ := T.f__law_ways
  have q : ∀ (cdv : Value) (A : Around) (outer : List Env) (s : Shared) (H : Hp) (E : XK), GC (cxOf (L2.CX P w) P w K mg base ["skeleton", "lengths", "choice", "spots", "found", "place", "goal"] "_law_ways" (defScope (topS 20)) a cdv A outer s H E) (wishOf mg K E) 1 → HB (cxOf (L2.CX P w) P w K mg base ["skeleton", "lengths", "choice", "spots", "found", "place", "goal"] "_law_ways" (defScope (topS 20)) a cdv A outer s H E) (wishOf mg K E) (defBody (topS 20)) B_law_ways := by
    intro cdv A outer s H E c
    exact hb_cons (hs_par (i := 3) (j := 4) c rfl rfl (by decide) rfl rfl (ha_cons (he_call (h1.mono (by decide)) c rfl g1 k1 b1 (ha_cons (he_var (i := 0) rfl (Or.inl rfl)) (ha_cons (he_var (i := 1) rfl (Or.inl rfl)) (ha_cons (he_var (i := 2) rfl (Or.inl rfl)) (ha_nil))))) (ha_cons (he_dict0) (ha_nil))) (by rfl)) (hb_cons (hs_I (sForI_eq _ _ _) (hs_for c.po c.calm (hi_seq (he_call (h0.mono (by decide)) c rfl g0 k0 b0 (ha_cons (he_var (i := 0) rfl (Or.inl rfl)) (ha_nil)))) (hg_name c.nd rfl (Or.inl rfl)) (hb_cons (hs_set (i := 6) c.nd rfl (Or.inl rfl) (he_ix c.hu (he_ix c.hu (he_var (i := 0) rfl (Or.inl rfl)) (he_var (i := 5) rfl (Or.inl rfl)) (fun _ _ => rfl)) (he_int) (fun _ _ => rfl))) (hb_one (hs_if (ht_cmp (og_notin c) (he_var (i := 5) rfl (Or.inl rfl)) (he_var (i := 2) rfl (Or.inl rfl)) (by rfl)) (hb_one (hs_asg (he_if (ht_cmp og_gt (he_var (i := 6) rfl (Or.inl rfl)) (he_var (i := 5) rfl (Or.inl rfl)) (nomark _)) (he_op og_sub (he_ix c.hu (he_ix c.hu (he_var (i := 3) rfl (Or.inl rfl)) (he_var (i := 6) rfl (Or.inl rfl)) (fun _ _ => rfl)) (he_int) (fun _ _ => rfl)) (he_ix c.hu (he_ix c.hu (he_var (i := 3) rfl (Or.inl rfl)) (he_var (i := 5) rfl (Or.inl rfl)) (fun _ _ => rfl)) (he_int) (fun _ _ => rfl))) (he_op og_sub (he_ix c.hu (he_ix c.hu (he_var (i := 3) rfl (Or.inl rfl)) (he_var (i := 5) rfl (Or.inl rfl)) (fun _ _ => rfl)) (he_int) (fun _ _ => rfl)) (he_ix c.hu (he_ix c.hu (he_var (i := 3) rfl (Or.inl rfl)) (he_var (i := 6) rfl (Or.inl rfl)) (fun _ _ => rfl)) (he_int) (fun _ _ => rfl)))) (hg_put c.hu (he_var (i := 4) rfl (Or.inl rfl)) (he_var (i := 5) rfl (Or.inl rfl)) (fun h1 h2 h3 => pg_sub h1 h2 h3)))) (hb_nil)))))) (hb_one (hs_ret (he_var (i := 4) rfl (Or.inl rfl)))))
  have q2 := fnG_fun (b := B_law_ways) F sc_law_ways S q
  have q3 := F.binds (ps := ["skeleton", "lengths", "choice"]) (fun _ _ _ _ _ _ us hl => match us, hl with | [_, _, _], _ => rfl)
  exact ⟨a, fd, F, hm, F.kp, q3, q2⟩

theorem sc_law_fits : FnScope ["program", "choice", "skeleton", "lengths", "reaches", "own", "far", "place"] ["program", "choice"] (defScope (topS 21)) := ⟨rfl, rfl, rfl, by decide +kernel, rfl, by decide +kernel, by decide +kernel⟩
theorem ok_law_fits (T : Txt K mg) (S : SysD base) : OkF P w K mg base "_law_fits" (topS 21) ["program", "choice"] 3 M_law_fits := by
  obtain ⟨a0, fd0, F0, g0, k0, b0, h0⟩ := ok_law_ways (P := P) (w := w) (base := base) T S
  obtain ⟨a1, fd1, F1, g1, k1, b1, h1⟩ := ok_law_jumps (P := P) (w := w) (base := base) T S
  obtain ⟨a, fd, hm, F⟩ := T.f__law_fits
  have q : ∀ (cdv : Value) (A : Around) (outer : List Env) (s : Shared) (H : Hp) (E : XK), GC (cxOf (L2.CX P w) P w K mg base ["program", "choice", "skeleton", "lengths", "reaches", "own", "far", "place"] "_law_fits" (defScope (topS 21)) a cdv A outer s H E) (wishOf mg K E) 2 → HB (cxOf (L2.CX P w) P w K mg base ["program", "choice", "skeleton", "lengths", "reaches", "own", "far", "place"] "_law_fits" (defScope (topS 21)) a cdv A outer s H E) (wishOf mg K E) (defBody (topS 21)) B_law_fits := by
    intro cdv A outer s H E c
    exact hb_cons (hs_asg (he_var (i := 0) rfl (Or.inl rfl)) (hg_tup (sl := [2, 3, 4]) c.calm (hgs_cons c.nd rfl (Or.inl rfl) (by decide) (hgs_cons c.nd rfl (Or.inl rfl) (by decide) (hgs_cons c.nd rfl (Or.inl rfl) (by decide) (hgs_nil)))))) (hb_cons (hs_set (i := 5) c.nd rfl (Or.inr rfl) (he_call (h0.mono (by decide)) c rfl g0 k0 b0 (ha_cons (he_var (i := 2) rfl (Or.inl rfl)) (ha_cons (he_var (i := 3) rfl (Or.inl rfl)) (ha_cons (he_var (i := 1) rfl (Or.inl rfl)) (ha_nil)))))) (hb_cons (hs_set (i := 6) c.nd rfl (Or.inr rfl) (he_dictZip c rfl T.z_dict rfl T.z_zip (ha_cons (he_call (h1.mono (by decide)) c rfl g1 k1 b1 (ha_cons (he_var (i := 2) rfl (Or.inl rfl)) (ha_nil))) (ha_cons (he_var (i := 4) rfl (Or.inl rfl)) (ha_nil))))) (hb_one (hs_ret (he_cmp (og_eq c) (he_lcD (own := [("place", 7)]) c (hid_keys (i := 5) rfl (Or.inr (Or.inl rfl))) (by kernel_rfl) (fun s1 H1 C1 cl1 fp1 => hg_name (GC.blk c s1 H1 _ _ fp1).nd rfl (Or.inl rfl)) (fun s1 H1 C1 cl1 fp1 => hts_one (ht_cmp og_gt (he_ix (GC.blk c s1 H1 _ _ fp1).hu (he_var (i := 5) rfl (Or.inr (Or.inl rfl))) (he_var (i := 7) rfl (Or.inl rfl)) (fun _ _ => rfl)) (he_ix (GC.blk c s1 H1 _ _ fp1).hu (he_var (i := 6) rfl (Or.inr (Or.inl rfl))) (he_var (i := 7) rfl (Or.inl rfl)) (fun _ _ => rfl)) (nomark _))) (fun s1 H1 C1 cl1 fp1 => he_int)) (he_lst (ha_nil)) (nomark _))))))
  have q2 := fnG_fun (b := B_law_fits) F sc_law_fits S q
  have q3 := F.binds (ps := ["program", "choice"]) (fun _ _ _ _ _ _ us hl => match us, hl with | [_, _], _ => rfl)
  exact ⟨a, fd, F, hm, F.kp, q3, q2⟩

theorem sc_law_choices : FnScope ["skeleton", "found", "place", "choice"] ["skeleton"] (defScope (topS 22)) := ⟨rfl, rfl, rfl, by decide +kernel, rfl, by decide +kernel, by decide +kernel⟩
theorem ok_law_choices (T : Txt K mg) (S : SysD base) : OkF P w K mg base "_law_choices" (topS 22) ["skeleton"] 2 M_law_choices := by
  obtain ⟨a0, fd0, F0, g0, k0, b0, h0⟩ := ok_law_jumps (P := P) (w := w) (base := base) T S
  obtain ⟨a, fd, hm, F⟩ := T.f__law_choices
  have q : ∀ (cdv : Value) (A : Around) (outer : List Env) (s : Shared) (H : Hp) (E : XK), GC (cxOf (L2.CX P w) P w K mg base ["skeleton", "found", "place", "choice"] "_law_choices" (defScope (topS 22)) a cdv A outer s H E) (wishOf mg K E) 1 → HB (cxOf (L2.CX P w) P w K mg base ["skeleton", "found", "place", "choice"] "_law_choices" (defScope (topS 22)) a cdv A outer s H E) (wishOf mg K E) (defBody (topS 22)) B_law_choices := by
    intro cdv A outer s H E c
    exact hb_cons (hs_set (i := 1) c.nd rfl (Or.inl rfl) (he_lst (ha_cons (he_tup (ha_nil)) (ha_nil)))) (hb_cons (hs_I (sForI_eq _ _ _) (hs_for c.po c.calm (hi_seq (he_call (h0.mono (by decide)) c rfl g0 k0 b0 (ha_cons (he_var (i := 0) rfl (Or.inl rfl)) (ha_nil)))) (hg_name c.nd rfl (Or.inr rfl)) (hb_one (hs_set (i := 1) c.nd rfl (Or.inl rfl) (he_op og_add (he_var (i := 1) rfl (Or.inl rfl)) (he_I (mLcI_eq _ _ _ _ _) (he_lc (own := [("choice", 3)]) c (hi_seq (he_var (i := 1) rfl (Or.inl rfl))) (by kernel_rfl) (fun s1 H1 C1 cl1 fp1 => hg_name (GC.blk c s1 H1 _ _ fp1).nd rfl (Or.inl rfl)) (fun s1 H1 C1 cl1 fp1 => hts_nil) (fun s1 H1 C1 cl1 fp1 => he_op og_add (he_var (i := 3) rfl (Or.inl rfl)) (he_tup (ha_cons (he_var (i := 2) rfl (Or.inr (Or.inl rfl))) (ha_nil))))))))))) (hb_one (hs_ret (he_callB (cg_sortedL c) rfl T.z_sorted (by decide +kernel) (ha_cons (he_var (i := 1) rfl (Or.inl rfl)) (ha_nil))))))
  have q2 := fnG_fun (b := B_law_choices) F sc_law_choices S q
  have q3 := F.binds (ps := ["skeleton"]) (fun _ _ _ _ _ _ us hl => match us, hl with | [_], _ => rfl)
  exact ⟨a, fd, F, hm, F.kp, q3, q2⟩

theorem sc_law_all : FnScope ["program", "choice"] ["program"] (defScope (topS 23)) := ⟨rfl, rfl, rfl, by decide +kernel, rfl, by decide +kernel, by decide +kernel⟩
theorem ok_law_all (T : Txt K mg) (S : SysD base) : OkF P w K mg base "_law_all" (topS 23) ["program"] 4 M_law_all := by
  obtain ⟨a0, fd0, F0, g0, k0, b0, h0⟩ := ok_law_choices (P := P) (w := w) (base := base) T S
  obtain ⟨a1, fd1, F1, g1, k1, b1, h1⟩ := ok_law_fits (P := P) (w := w) (base := base) T S
  obtain ⟨a, fd, hm, F⟩ := T.f__law_all
  have q : ∀ (cdv : Value) (A : Around) (outer : List Env) (s : Shared) (H : Hp) (E : XK), GC (cxOf (L2.CX P w) P w K mg base ["program", "choice"] "_law_all" (defScope (topS 23)) a cdv A outer s H E) (wishOf mg K E) 3 → HB (cxOf (L2.CX P w) P w K mg base ["program", "choice"] "_law_all" (defScope (topS 23)) a cdv A outer s H E) (wishOf mg K E) (defBody (topS 23)) B_law_all := by
    intro cdv A outer s H E c
    exact hb_one (hs_ret (he_I (mLcI_eq _ _ _ _ _) (he_lc (own := [("choice", 1)]) c (hi_seq (he_call (h0.mono (by decide)) c rfl g0 k0 b0 (ha_cons (he_ix c.hu (he_var (i := 0) rfl (Or.inr (Or.inl rfl))) (he_int) (fun _ _ => rfl)) (ha_nil)))) (by kernel_rfl) (fun s1 H1 C1 cl1 fp1 => hg_name (GC.blk c s1 H1 _ _ fp1).nd rfl (Or.inl rfl)) (fun s1 H1 C1 cl1 fp1 => hts_one (ht_truth (he_call (h1.mono (by decide)) (GC.blk c s1 H1 _ _ fp1) rfl g1 k1 b1 (ha_cons (he_var (i := 0) rfl (Or.inr (Or.inl rfl))) (ha_cons (he_var (i := 1) rfl (Or.inl rfl)) (ha_nil)))))) (fun s1 H1 C1 cl1 fp1 => he_var (i := 1) rfl (Or.inl rfl)))))
  have q2 := fnG_fun (b := B_law_all) F sc_law_all S q
  have q3 := F.binds (ps := ["program"]) (fun _ _ _ _ _ _ us hl => match us, hl with | [_], _ => rfl)
  exact ⟨a, fd, F, hm, F.kp, q3, q2⟩

theorem sc_law_lengths : FnScope ["stock", "skeleton", "far", "small", "turn", "at"] ["stock", "skeleton"] (defScope (topS 24)) := ⟨rfl, rfl, rfl, by decide +kernel, rfl, by decide +kernel, by decide +kernel⟩
theorem ok_law_lengths (T : Txt K mg) (S : SysD base) : OkF P w K mg base "_law_lengths" (topS 24) ["stock", "skeleton"] 3 M_law_lengths := by
  obtain ⟨a0, fd0, F0, g0, k0, b0, h0⟩ := ok_law_pick (P := P) (w := w) (base := base) T S
  obtain ⟨a1, fd1, F1, g1, k1, b1, h1⟩ := ok_law_draw (P := P) (w := w) (base := base) T S
  obtain ⟨a, fd, hm, F⟩ := T.f__law_lengths
  have q : ∀ (cdv : Value) (A : Around) (outer : List Env) (s : Shared) (H : Hp) (E : XK), GC (cxOf (L2.CX P w) P w K mg base ["stock", "skeleton", "far", "small", "turn", "at"] "_law_lengths" (defScope (topS 24)) a cdv A outer s H E) (wishOf mg K E) 2 → HB (cxOf (L2.CX P w) P w K mg base ["stock", "skeleton", "far", "small", "turn", "at"] "_law_lengths" (defScope (topS 24)) a cdv A outer s H E) (wishOf mg K E) (defBody (topS 24)) B_law_lengths := by
    intro cdv A outer s H E c
    exact hb_cons (hs_set (i := 2) c.nd rfl (Or.inl rfl) (he_call (h0.mono (by decide)) c rfl g0 k0 b0 (ha_cons (he_var (i := 0) rfl (Or.inl rfl)) (ha_cons (he_lst (ha_cons (he_int) (ha_cons (he_int) (ha_cons (he_int) (ha_cons (he_op og_sub (he_op og_pow (he_int) (he_int)) (he_int)) (ha_nil)))))) (ha_nil))))) (hb_cons (hs_set (i := 3) c.nd rfl (Or.inl rfl) (he_lst (ha_nil))) (hb_cons (hs_I (sForI_eq _ _ _) (hs_for c.po c.calm (hi_range1 rfl T.z_range (ha_cons (he_op og_add (he_callB cg_len rfl T.z_len (by decide +kernel) (ha_cons (he_var (i := 1) rfl (Or.inl rfl)) (ha_nil))) (he_int)) (ha_nil))) (hg_name c.nd rfl (Or.inl rfl)) (hb_one (hs_expr (he_meth PySem.F.plainAttrs_list PySem.F.slot_list_append PySem.F.type_list_append mg_append (he_var (i := 3) rfl (Or.inl rfl)) (ha_cons (he_call (h0.mono (by decide)) c rfl g0 k0 b0 (ha_cons (he_var (i := 0) rfl (Or.inl rfl)) (ha_cons (he_lst (ha_cons (he_int) (ha_cons (he_int) (ha_cons (he_int) (ha_cons (he_int) (ha_cons (he_call (h1.mono (by decide)) c rfl g1 k1 b1 (ha_cons (he_var (i := 0) rfl (Or.inl rfl)) (ha_cons (he_int) (ha_nil)))) (ha_cons (he_call (h1.mono (by decide)) c rfl g1 k1 b1 (ha_cons (he_var (i := 0) rfl (Or.inl rfl)) (ha_cons (he_int) (ha_nil)))) (ha_nil)))))))) (ha_nil)))) (ha_nil))))))) (hb_cons (hs_set (i := 5) c.nd rfl (Or.inl rfl) (he_call (h1.mono (by decide)) c rfl g1 k1 b1 (ha_cons (he_var (i := 0) rfl (Or.inl rfl)) (ha_cons (he_callB cg_len rfl T.z_len (by decide +kernel) (ha_cons (he_var (i := 3) rfl (Or.inl rfl)) (ha_nil))) (ha_nil))))) (hb_cons (hs_asg (he_op og_add (he_ix c.hu (he_var (i := 3) rfl (Or.inl rfl)) (he_var (i := 5) rfl (Or.inl rfl)) (fun _ _ => rfl)) (he_var (i := 2) rfl (Or.inl rfl))) (hg_put c.hu (he_var (i := 3) rfl (Or.inl rfl)) (he_var (i := 5) rfl (Or.inl rfl)) (fun h1 h2 h3 => pg_sub h1 h2 h3))) (hb_one (hs_ret (he_callTy cg_tuple rfl T.z_tuple (by decide +kernel) (ha_cons (he_var (i := 3) rfl (Or.inl rfl)) (ha_nil)))))))))
  have q2 := fnG_fun (b := B_law_lengths) F sc_law_lengths S q
  have q3 := F.binds (ps := ["stock", "skeleton"]) (fun _ _ _ _ _ _ us hl => match us, hl with | [_, _], _ => rfl)
  exact ⟨a, fd, F, hm, F.kp, q3, q2⟩

theorem sc_law_program : FnScope ["stock", "skeleton", "lengths", "places", "some", "bare", "other", "reaches", "place", "own", "reach"] ["stock", "skeleton"] (defScope (topS 25)) := ⟨rfl, rfl, rfl, by decide +kernel, rfl, by decide +kernel, by decide +kernel⟩
theorem ok_law_program (T : Txt K mg) (S : SysD base) : OkF P w K mg base "_law_program" (topS 25) ["stock", "skeleton"] 4 M_law_program := by
  obtain ⟨a0, fd0, F0, g0, k0, b0, h0⟩ := ok_law_lengths (P := P) (w := w) (base := base) T S
  obtain ⟨a1, fd1, F1, g1, k1, b1, h1⟩ := ok_law_jumps (P := P) (w := w) (base := base) T S
  obtain ⟨a2, fd2, F2, g2, k2, b2, h2⟩ := ok_law_ways (P := P) (w := w) (base := base) T S
  obtain ⟨a3, fd3, F3, g3, k3, b3, h3⟩ := ok_law_pick (P := P) (w := w) (base := base) T S
  obtain ⟨a4, fd4, F4, g4, k4, b4, h4⟩ := ok_law_draw (P := P) (w := w) (base := base) T S
  obtain ⟨a, fd, hm, F⟩ := T.f__law_program
  have q : ∀ (cdv : Value) (A : Around) (outer : List Env) (s : Shared) (H : Hp) (E : XK), GC (cxOf (L2.CX P w) P w K mg base ["stock", "skeleton", "lengths", "places", "some", "bare", "other", "reaches", "place", "own", "reach"] "_law_program" (defScope (topS 25)) a cdv A outer s H E) (wishOf mg K E) 3 → HB (cxOf (L2.CX P w) P w K mg base ["stock", "skeleton", "lengths", "places", "some", "bare", "other", "reaches", "place", "own", "reach"] "_law_program" (defScope (topS 25)) a cdv A outer s H E) (wishOf mg K E) (defBody (topS 25)) B_law_program := by
    intro cdv A outer s H E c
    exact hb_cons (hs_par (i := 2) (j := 3) c rfl rfl (by decide) rfl rfl (ha_cons (he_call (h0.mono (by decide)) c rfl g0 k0 b0 (ha_cons (he_var (i := 0) rfl (Or.inr (Or.inl rfl))) (ha_cons (he_var (i := 1) rfl (Or.inl rfl)) (ha_nil)))) (ha_cons (he_call (h1.mono (by decide)) c rfl g1 k1 b1 (ha_cons (he_var (i := 1) rfl (Or.inl rfl)) (ha_nil))) (ha_nil))) (by rfl)) (hb_cons (hs_set (i := 4) c.nd rfl (Or.inl rfl) (he_callTy cg_tuple rfl T.z_tuple (by decide +kernel) (ha_cons (he_I (mLcI_eq _ _ _ _ _) (he_lc (own := [("place", 8)]) c (hi_seq (he_var (i := 3) rfl (Or.inl rfl))) (by kernel_rfl) (fun s1 H1 C1 cl1 fp1 => hg_name (GC.blk c s1 H1 _ _ fp1).nd rfl (Or.inl rfl)) (fun s1 H1 C1 cl1 fp1 => hts_one (ht_cmp (og_eq (GC.blk c s1 H1 _ _ fp1)) (he_call (h4.mono (by decide)) (GC.blk c s1 H1 _ _ fp1) rfl g4 k4 b4 (ha_cons (he_var (i := 0) rfl (Or.inr (Or.inl rfl))) (ha_cons (he_int) (ha_nil)))) (he_int) (nomark _))) (fun s1 H1 C1 cl1 fp1 => he_var (i := 8) rfl (Or.inl rfl)))) (ha_nil)))) (hb_cons (hs_par3 (i := 5) (j := 6) (l := 7) c rfl rfl rfl (by decide) (by decide) (by decide) rfl rfl rfl (ha_cons (he_call (h2.mono (by decide)) c rfl g2 k2 b2 (ha_cons (he_var (i := 1) rfl (Or.inl rfl)) (ha_cons (he_var (i := 2) rfl (Or.inl rfl)) (ha_cons (he_tup (ha_nil)) (ha_nil))))) (ha_cons (he_call (h2.mono (by decide)) c rfl g2 k2 b2 (ha_cons (he_var (i := 1) rfl (Or.inl rfl)) (ha_cons (he_var (i := 2) rfl (Or.inl rfl)) (ha_cons (he_var (i := 4) rfl (Or.inl rfl)) (ha_nil))))) (ha_cons (he_lst (ha_nil)) (ha_nil)))) (by rfl)) (hb_cons (hs_I (sForI_eq _ _ _) (hs_for c.po c.calm (hi_seq (he_var (i := 3) rfl (Or.inl rfl))) (hg_name c.nd rfl (Or.inl rfl)) (hb_cons (hs_set (i := 9) c.nd rfl (Or.inl rfl) (he_if (HW.ht (hw_or (ht_cmp (og_in c) (he_var (i := 8) rfl (Or.inl rfl)) (he_var (i := 4) rfl (Or.inl rfl)) (by rfl)) (hw_or1 (ht_cmp (og_eq c) (he_call (h4.mono (by decide)) c rfl g4 k4 b4 (ha_cons (he_var (i := 0) rfl (Or.inr (Or.inl rfl))) (ha_cons (he_int) (ha_nil)))) (he_int) (nomark _))))) (he_ix c.hu (he_var (i := 5) rfl (Or.inl rfl)) (he_var (i := 8) rfl (Or.inl rfl)) (fun _ _ => rfl)) (he_ix c.hu (he_var (i := 6) rfl (Or.inl rfl)) (he_var (i := 8) rfl (Or.inl rfl)) (fun _ _ => rfl)))) (hb_cons (hs_set (i := 10) c.nd rfl (Or.inl rfl) (he_op og_add (he_var (i := 9) rfl (Or.inl rfl)) (he_call (h3.mono (by decide)) c rfl g3 k3 b3 (ha_cons (he_var (i := 0) rfl (Or.inr (Or.inl rfl))) (ha_cons (he_lst (ha_cons (he_int) (ha_cons (he_int) (ha_cons (he_neg (he_int)) (ha_cons (he_neg (he_int)) (ha_cons (he_int) (ha_cons (he_int) (ha_cons (he_int) (ha_cons (he_neg (he_int)) (ha_nil)))))))))) (ha_nil)))))) (hb_one (hs_expr (he_meth PySem.F.plainAttrs_list PySem.F.slot_list_append PySem.F.type_list_append mg_append (he_var (i := 7) rfl (Or.inl rfl)) (ha_cons (he_callB (cg_maxU c) rfl T.z_max (by decide +kernel) (ha_cons (he_int) (ha_cons (he_callB (cg_min c) rfl T.z_min (by decide +kernel) (ha_cons (he_op og_pow (he_int) (he_int)) (ha_cons (he_var (i := 10) rfl (Or.inl rfl)) (ha_nil)))) (ha_nil)))) (ha_nil))))))))) (hb_one (hs_ret (he_tup (ha_cons (he_var (i := 1) rfl (Or.inl rfl)) (ha_cons (he_var (i := 2) rfl (Or.inl rfl)) (ha_cons (he_callTy cg_tuple rfl T.z_tuple (by decide +kernel) (ha_cons (he_var (i := 7) rfl (Or.inl rfl)) (ha_nil))) (ha_nil))))))))))
  have q2 := fnG_fun (b := B_law_program) F sc_law_program S q
  have q3 := F.binds (ps := ["stock", "skeleton"]) (fun _ _ _ _ _ _ us hl => match us, hl with | [_, _], _ => rfl)
  exact ⟨a, fd, F, hm, F.kp, q3, q2⟩

theorem sclaw : FnScope ["script", "stock", "program", "turn", "most", "jumps", "known", "due", "bare"] ["script"] (defScope (topS 26)) := ⟨rfl, rfl, rfl, by decide +kernel, rfl, by decide +kernel, by decide +kernel⟩
theorem oklaw (T : Txt K mg) (S : SysD base) : OkF P w K mg base "law" (topS 26) ["script"] 6 Mlaw := by
  obtain ⟨a0, fd0, F0, g0, k0, b0, h0⟩ := ok_law_stock (P := P) (w := w) (base := base) T S
  obtain ⟨a1, fd1, F1, g1, k1, b1, h1⟩ := ok_law_draw (P := P) (w := w) (base := base) T S
  obtain ⟨a2, fd2, F2, g2, k2, b2, h2⟩ := ok_law_program (P := P) (w := w) (base := base) T S
  obtain ⟨a3, fd3, F3, g3, k3, b3, h3⟩ := ok_law_eight (P := P) (w := w) (base := base) T S
  obtain ⟨a4, fd4, F4, g4, k4, b4, h4⟩ := ok_law_skeleton (P := P) (w := w) (base := base) T S
  obtain ⟨a5, fd5, F5, g5, k5, b5, h5⟩ := okserving (P := P) (w := w) (base := base) T S
  obtain ⟨a6, fd6, F6, g6, k6, b6, h6⟩ := ok_law_jumps (P := P) (w := w) (base := base) T S
  obtain ⟨a7, fd7, F7, g7, k7, b7, h7⟩ := ok_law_all (P := P) (w := w) (base := base) T S
  obtain ⟨a, fd, hm, F⟩ := T.f_law
  have q : ∀ (cdv : Value) (A : Around) (outer : List Env) (s : Shared) (H : Hp) (E : XK), GC (cxOf (L2.CX P w) P w K mg base ["script", "stock", "program", "turn", "most", "jumps", "known", "due", "bare"] "law" (defScope (topS 26)) a cdv A outer s H E) (wishOf mg K E) 5 → HB (cxOf (L2.CX P w) P w K mg base ["script", "stock", "program", "turn", "most", "jumps", "known", "due", "bare"] "law" (defScope (topS 26)) a cdv A outer s H E) (wishOf mg K E) (defBody (topS 26)) Blaw := by
    intro cdv A outer s H E c
    exact hb_cons (hs_set (i := 1) c.nd rfl (Or.inl rfl) (he_call (h0.mono (by decide)) c rfl g0 k0 b0 (ha_cons (he_var (i := 0) rfl (Or.inl rfl)) (ha_nil)))) (hb_cons (hs_if (ht_cmp (og_eq c) (he_call (h1.mono (by decide)) c rfl g1 k1 b1 (ha_cons (he_var (i := 1) rfl (Or.inl rfl)) (ha_cons (he_int) (ha_nil)))) (he_int) (nomark _)) (hb_cons (hs_set (i := 2) c.nd rfl (Or.inl rfl) (he_call (h2.mono (by decide)) c rfl g2 k2 b2 (ha_cons (he_var (i := 1) rfl (Or.inl rfl)) (ha_cons (he_call (h3.mono (by decide)) c rfl g3 k3 b3 (ha_cons (he_var (i := 1) rfl (Or.inl rfl)) (ha_nil))) (ha_nil))))) (hb_one (hs_ret (he_cmp (og_eq c) (he_callB (cg_repr c) rfl T.z_repr (by decide +kernel) (ha_cons (he_call (h5.mono (by decide)) c rfl g5 k5 b5 (ha_cons (he_var (i := 2) rfl (Or.inl rfl)) (ha_nil))) (ha_nil))) (he_callB (cg_repr c) rfl T.z_repr (by decide +kernel) (ha_cons (he_callTy cg_tuple rfl T.z_tuple (by decide +kernel) (ha_cons (he_call (h7.mono (by decide)) c rfl g7 k7 b7 (ha_cons (he_var (i := 2) rfl (Or.inl rfl)) (ha_nil))) (ha_nil))) (ha_nil))) (nomark _))))) (hb_nil)) (hb_cons (hs_I (sForI_eq _ _ _) (hs_for c.po c.calm (hi_range1 rfl T.z_range (ha_cons (he_int) (ha_nil))) (hg_name c.nd rfl (Or.inl rfl)) (hb_cons (hs_asg (he_if (ht_cmp (og_eq c) (he_call (h1.mono (by decide)) c rfl g1 k1 b1 (ha_cons (he_var (i := 1) rfl (Or.inl rfl)) (ha_cons (he_int) (ha_nil)))) (he_int) (nomark _)) (he_ix c.hu (he_lst (ha_cons (he_tup (ha_cons (he_int) (ha_cons (he_int) (ha_nil)))) (ha_cons (he_tup (ha_cons (he_int) (ha_cons (he_int) (ha_nil)))) (ha_cons (he_tup (ha_cons (he_int) (ha_cons (he_int) (ha_nil)))) (ha_cons (he_tup (ha_cons (he_int) (ha_cons (he_int) (ha_nil)))) (ha_nil)))))) (he_var (i := 3) rfl (Or.inl rfl)) (fun _ _ => rfl)) (he_tup (ha_cons (he_int) (ha_cons (he_int) (ha_nil))))) (hg_tup (sl := [4, 5]) c.calm (hgs_cons c.nd rfl (Or.inl rfl) (by decide) (hgs_cons c.nd rfl (Or.inl rfl) (by decide) (hgs_nil))))) (hb_cons (hs_set (i := 2) c.nd rfl (Or.inl rfl) (he_call (h2.mono (by decide)) c rfl g2 k2 b2 (ha_cons (he_var (i := 1) rfl (Or.inl rfl)) (ha_cons (he_call (h4.mono (by decide)) c rfl g4 k4 b4 (ha_cons (he_var (i := 1) rfl (Or.inl rfl)) (ha_cons (he_var (i := 4) rfl (Or.inl rfl)) (ha_cons (he_var (i := 5) rfl (Or.inl rfl)) (ha_nil))))) (ha_nil))))) (hb_cons (hs_par (i := 6) (j := 7) c rfl rfl (by decide) rfl rfl (ha_cons (he_callB (cg_repr c) rfl T.z_repr (by decide +kernel) (ha_cons (he_var (i := 2) rfl (Or.inl rfl)) (ha_nil))) (ha_cons (he_callB (cg_repr c) rfl T.z_repr (by decide +kernel) (ha_cons (he_callTy cg_tuple rfl T.z_tuple (by decide +kernel) (ha_cons (he_call (h7.mono (by decide)) c rfl g7 k7 b7 (ha_cons (he_var (i := 2) rfl (Or.inl rfl)) (ha_nil))) (ha_nil))) (ha_nil))) (ha_nil))) (by rfl)) (hb_cons (hs_if (HW.ht (hw_or (ht_cmp (og_ne c) (he_callB (cg_repr c) rfl T.z_repr (by decide +kernel) (ha_cons (he_call (h5.mono (by decide)) c rfl g5 k5 b5 (ha_cons (he_var (i := 2) rfl (Or.inl rfl)) (ha_nil))) (ha_nil))) (he_var (i := 7) rfl (Or.inl rfl)) (nomark _)) (hw_or (ht_cmp (og_ne c) (he_callB (cg_repr c) rfl T.z_repr (by decide +kernel) (ha_cons (he_callK0 (h5.mono (by decide)) c rfl g5 k5 (kwB_of F5 (ks := ["program"]) (np := 0) (perm := [0]) fun _ _ _ _ _ _ us zs h1 h2 => match us, zs, h1, h2 with | [], [_], _, _ => rfl) (hk_cons (he_var (i := 2) rfl (Or.inl rfl)) (hk_nil))) (ha_nil))) (he_var (i := 7) rfl (Or.inl rfl)) (nomark _)) (hw_or1 (ht_cmp (og_ne c) (he_callB (cg_repr c) rfl T.z_repr (by decide +kernel) (ha_cons (he_var (i := 2) rfl (Or.inl rfl)) (ha_nil))) (he_var (i := 6) rfl (Or.inl rfl)) (nomark _)))))) (hb_one (hs_ret (he_bl))) (hb_nil)) (hb_one (hs_if (ht_cmp (og_notin c) (he_callTy cg_tuple rfl T.z_tuple (by decide +kernel) (ha_cons (he_call (h6.mono (by decide)) c rfl g6 k6 b6 (ha_cons (he_ix c.hu (he_var (i := 2) rfl (Or.inl rfl)) (he_int) (fun _ _ => rfl)) (ha_nil))) (ha_nil))) (he_call (h5.mono (by decide)) c rfl g5 k5 b5 (ha_cons (he_var (i := 2) rfl (Or.inl rfl)) (ha_nil))) (by rfl)) (hb_one (hs_ret (he_bl))) (hb_nil))))))))) (hb_cons (hs_set (i := 8) c.nd rfl (Or.inl rfl) (he_tup (ha_cons (he_tup (ha_cons (he_tup (ha_cons (he_str) (ha_nil))) (ha_nil))) (ha_cons (he_tup (ha_cons (he_int) (ha_cons (he_op og_pow (he_int) (he_int)) (ha_nil)))) (ha_cons (he_tup (ha_nil)) (ha_nil)))))) (hb_one (hs_ret (he_cmp (og_eq c) (he_callB (cg_repr c) rfl T.z_repr (by decide +kernel) (ha_cons (he_call (h5.mono (by decide)) c rfl g5 k5 b5 (ha_cons (he_var (i := 8) rfl (Or.inl rfl)) (ha_nil))) (ha_nil))) (he_callB (cg_repr c) rfl T.z_repr (by decide +kernel) (ha_cons (he_tup (ha_cons (he_tup (ha_nil)) (ha_nil))) (ha_nil))) (nomark _)))))))
  have q2 := fnG_fun (b := Blaw) F sclaw S q
  have q3 := F.binds (ps := ["script"]) (fun _ _ _ _ _ _ us hl => match us, hl with | [_], _ => rfl)
  exact ⟨a, fd, F, hm, F.kp, q3, q2⟩

end
theorem txt_mk {K : Fg} {h : Heap} {mg : Str → Option Value} (X : K.In h) (G : h.Ns mainGlobals mg)
    (z_dict : PySem.W.nsIn K mainGlobals "dict" = some none)
    (z_enumerate : PySem.W.nsIn K mainGlobals "enumerate" = some none)
    (z_int : PySem.W.nsIn K mainGlobals "int" = some none)
    (z_len : PySem.W.nsIn K mainGlobals "len" = some none)
    (z_max : PySem.W.nsIn K mainGlobals "max" = some none)
    (z_min : PySem.W.nsIn K mainGlobals "min" = some none)
    (z_range : PySem.W.nsIn K mainGlobals "range" = some none)
    (z_repr : PySem.W.nsIn K mainGlobals "repr" = some none)
    (z_sorted : PySem.W.nsIn K mainGlobals "sorted" = some none)
    (z_sum : PySem.W.nsIn K mainGlobals "sum" = some none)
    (z_tuple : PySem.W.nsIn K mainGlobals "tuple" = some none)
    (z_zip : PySem.W.nsIn K mainGlobals "zip" = some none)
    {f1 : Addr} {od1 an1 : Option Addr} {sl1 : Array (Option Value)} {oc1 kV1 dc1 pm1 cd1 ct1 : Value} (a1 : PySem.W.nsIn K mainGlobals "choices_within" = some (some (.ref f1))) (l1 : K.lookup f1 = some ⟨oc1, od1, .func (PySem.W.fnOf "choices_within" "choices_within" (defArgs (topS 1)) (defBody (topS 1)) (defScope (topS 1)) .none kV1 dc1 pm1 an1 cd1 ct1), sl1⟩) (q1 : PySem.W.codeIn K cd1 "choices_within" = true) (k1 : PySem.W.keepIn K (.ref f1) = true)
    {f3 : Addr} {od3 an3 : Option Addr} {sl3 : Array (Option Value)} {oc3 kV3 dc3 pm3 cd3 ct3 : Value} (a3 : PySem.W.nsIn K mainGlobals "jumps_of" = some (some (.ref f3))) (l3 : K.lookup f3 = some ⟨oc3, od3, .func (PySem.W.fnOf "jumps_of" "jumps_of" (defArgs (topS 3)) (defBody (topS 3)) (defScope (topS 3)) .none kV3 dc3 pm3 an3 cd3 ct3), sl3⟩) (q3 : PySem.W.codeIn K cd3 "jumps_of" = true) (k3 : PySem.W.keepIn K (.ref f3) = true)
    {f8 : Addr} {od8 an8 : Option Addr} {sl8 : Array (Option Value)} {oc8 kV8 dc8 pm8 cd8 ct8 : Value} (a8 : PySem.W.nsIn K mainGlobals "own_bytes" = some (some (.ref f8))) (l8 : K.lookup f8 = some ⟨oc8, od8, .func (PySem.W.fnOf "own_bytes" "own_bytes" (defArgs (topS 8)) (defBody (topS 8)) (defScope (topS 8)) .none kV8 dc8 pm8 an8 cd8 ct8), sl8⟩) (q8 : PySem.W.codeIn K cd8 "own_bytes" = true) (k8 : PySem.W.keepIn K (.ref f8) = true)
    {f5 : Addr} {od5 an5 : Option Addr} {sl5 : Array (Option Value)} {oc5 kV5 dc5 pm5 cd5 ct5 : Value} (a5 : PySem.W.nsIn K mainGlobals "laid" = some (some (.ref f5))) (l5 : K.lookup f5 = some ⟨oc5, od5, .func (PySem.W.fnOf "laid" "laid" (defArgs (topS 5)) (defBody (topS 5)) (defScope (topS 5)) .none kV5 dc5 pm5 an5 cd5 ct5), sl5⟩) (q5 : PySem.W.codeIn K cd5 "laid" = true) (k5 : PySem.W.keepIn K (.ref f5) = true)
    {f9 : Addr} {od9 an9 : Option Addr} {sl9 : Array (Option Value)} {oc9 kV9 dc9 pm9 cd9 ct9 : Value} (a9 : PySem.W.nsIn K mainGlobals "_way" = some (some (.ref f9))) (l9 : K.lookup f9 = some ⟨oc9, od9, .func (PySem.W.fnOf "_way" "_way" (defArgs (topS 9)) (defBody (topS 9)) (defScope (topS 9)) .none kV9 dc9 pm9 an9 cd9 ct9), sl9⟩) (q9 : PySem.W.codeIn K cd9 "_way" = true) (k9 : PySem.W.keepIn K (.ref f9) = true)
    {f7 : Addr} {od7 an7 : Option Addr} {sl7 : Array (Option Value)} {oc7 kV7 dc7 pm7 cd7 ct7 : Value} (a7 : PySem.W.nsIn K mainGlobals "stuck" = some (some (.ref f7))) (l7 : K.lookup f7 = some ⟨oc7, od7, .func (PySem.W.fnOf "stuck" "stuck" (defArgs (topS 7)) (defBody (topS 7)) (defScope (topS 7)) .none kV7 dc7 pm7 an7 cd7 ct7), sl7⟩) (q7 : PySem.W.codeIn K cd7 "stuck" = true) (k7 : PySem.W.keepIn K (.ref f7) = true)
    {f6 : Addr} {od6 an6 : Option Addr} {sl6 : Array (Option Value)} {oc6 kV6 dc6 pm6 cd6 ct6 : Value} (a6 : PySem.W.nsIn K mainGlobals "serves" = some (some (.ref f6))) (l6 : K.lookup f6 = some ⟨oc6, od6, .func (PySem.W.fnOf "serves" "serves" (defArgs (topS 6)) (defBody (topS 6)) (defScope (topS 6)) .none kV6 dc6 pm6 an6 cd6 ct6), sl6⟩) (q6 : PySem.W.codeIn K cd6 "serves" = true) (k6 : PySem.W.keepIn K (.ref f6) = true)
    {f11 : Addr} {od11 an11 : Option Addr} {sl11 : Array (Option Value)} {oc11 kV11 dc11 pm11 cd11 ct11 : Value} (a11 : PySem.W.nsIn K mainGlobals "serving" = some (some (.ref f11))) (l11 : K.lookup f11 = some ⟨oc11, od11, .func (PySem.W.fnOf "serving" "serving" (defArgs (topS 11)) (defBody (topS 11)) (defScope (topS 11)) .none kV11 dc11 pm11 an11 cd11 ct11), sl11⟩) (q11 : PySem.W.codeIn K cd11 "serving" = true) (k11 : PySem.W.keepIn K (.ref f11) = true)
    {f13 : Addr} {od13 an13 : Option Addr} {sl13 : Array (Option Value)} {oc13 kV13 dc13 pm13 cd13 ct13 : Value} (a13 : PySem.W.nsIn K mainGlobals "_law_stock" = some (some (.ref f13))) (l13 : K.lookup f13 = some ⟨oc13, od13, .func (PySem.W.fnOf "_law_stock" "_law_stock" (defArgs (topS 13)) (defBody (topS 13)) (defScope (topS 13)) .none kV13 dc13 pm13 an13 cd13 ct13), sl13⟩) (q13 : PySem.W.codeIn K cd13 "_law_stock" = true) (k13 : PySem.W.keepIn K (.ref f13) = true)
    {f14 : Addr} {od14 an14 : Option Addr} {sl14 : Array (Option Value)} {oc14 kV14 dc14 pm14 cd14 ct14 : Value} (a14 : PySem.W.nsIn K mainGlobals "_law_draw" = some (some (.ref f14))) (l14 : K.lookup f14 = some ⟨oc14, od14, .func (PySem.W.fnOf "_law_draw" "_law_draw" (defArgs (topS 14)) (defBody (topS 14)) (defScope (topS 14)) .none kV14 dc14 pm14 an14 cd14 ct14), sl14⟩) (q14 : PySem.W.codeIn K cd14 "_law_draw" = true) (k14 : PySem.W.keepIn K (.ref f14) = true)
    {f15 : Addr} {od15 an15 : Option Addr} {sl15 : Array (Option Value)} {oc15 kV15 dc15 pm15 cd15 ct15 : Value} (a15 : PySem.W.nsIn K mainGlobals "_law_pick" = some (some (.ref f15))) (l15 : K.lookup f15 = some ⟨oc15, od15, .func (PySem.W.fnOf "_law_pick" "_law_pick" (defArgs (topS 15)) (defBody (topS 15)) (defScope (topS 15)) .none kV15 dc15 pm15 an15 cd15 ct15), sl15⟩) (q15 : PySem.W.codeIn K cd15 "_law_pick" = true) (k15 : PySem.W.keepIn K (.ref f15) = true)
    {f16 : Addr} {od16 an16 : Option Addr} {sl16 : Array (Option Value)} {oc16 kV16 dc16 pm16 cd16 ct16 : Value} (a16 : PySem.W.nsIn K mainGlobals "_law_skeleton" = some (some (.ref f16))) (l16 : K.lookup f16 = some ⟨oc16, od16, .func (PySem.W.fnOf "_law_skeleton" "_law_skeleton" (defArgs (topS 16)) (defBody (topS 16)) (defScope (topS 16)) .none kV16 dc16 pm16 an16 cd16 ct16), sl16⟩) (q16 : PySem.W.codeIn K cd16 "_law_skeleton" = true) (k16 : PySem.W.keepIn K (.ref f16) = true)
    {f17 : Addr} {od17 an17 : Option Addr} {sl17 : Array (Option Value)} {oc17 kV17 dc17 pm17 cd17 ct17 : Value} (a17 : PySem.W.nsIn K mainGlobals "_law_eight" = some (some (.ref f17))) (l17 : K.lookup f17 = some ⟨oc17, od17, .func (PySem.W.fnOf "_law_eight" "_law_eight" (defArgs (topS 17)) (defBody (topS 17)) (defScope (topS 17)) .none kV17 dc17 pm17 an17 cd17 ct17), sl17⟩) (q17 : PySem.W.codeIn K cd17 "_law_eight" = true) (k17 : PySem.W.keepIn K (.ref f17) = true)
    {f18 : Addr} {od18 an18 : Option Addr} {sl18 : Array (Option Value)} {oc18 kV18 dc18 pm18 cd18 ct18 : Value} (a18 : PySem.W.nsIn K mainGlobals "_law_jumps" = some (some (.ref f18))) (l18 : K.lookup f18 = some ⟨oc18, od18, .func (PySem.W.fnOf "_law_jumps" "_law_jumps" (defArgs (topS 18)) (defBody (topS 18)) (defScope (topS 18)) .none kV18 dc18 pm18 an18 cd18 ct18), sl18⟩) (q18 : PySem.W.codeIn K cd18 "_law_jumps" = true) (k18 : PySem.W.keepIn K (.ref f18) = true)
    {f19 : Addr} {od19 an19 : Option Addr} {sl19 : Array (Option Value)} {oc19 kV19 dc19 pm19 cd19 ct19 : Value} (a19 : PySem.W.nsIn K mainGlobals "_law_spots" = some (some (.ref f19))) (l19 : K.lookup f19 = some ⟨oc19, od19, .func (PySem.W.fnOf "_law_spots" "_law_spots" (defArgs (topS 19)) (defBody (topS 19)) (defScope (topS 19)) .none kV19 dc19 pm19 an19 cd19 ct19), sl19⟩) (q19 : PySem.W.codeIn K cd19 "_law_spots" = true) (k19 : PySem.W.keepIn K (.ref f19) = true)
    {f20 : Addr} {od20 an20 : Option Addr} {sl20 : Array (Option Value)} {oc20 kV20 dc20 pm20 cd20 ct20 : Value} (a20 : PySem.W.nsIn K mainGlobals "_law_ways" = some (some (.ref f20))) (l20 : K.lookup f20 = some ⟨oc20, od20, .func (PySem.W.fnOf "_law_ways" "_law_ways" (defArgs (topS 20)) (defBody (topS 20)) (defScope (topS 20)) .none kV20 dc20 pm20 an20 cd20 ct20), sl20⟩) (q20 : PySem.W.codeIn K cd20 "_law_ways" = true) (k20 : PySem.W.keepIn K (.ref f20) = true)
    {f21 : Addr} {od21 an21 : Option Addr} {sl21 : Array (Option Value)} {oc21 kV21 dc21 pm21 cd21 ct21 : Value} (a21 : PySem.W.nsIn K mainGlobals "_law_fits" = some (some (.ref f21))) (l21 : K.lookup f21 = some ⟨oc21, od21, .func (PySem.W.fnOf "_law_fits" "_law_fits" (defArgs (topS 21)) (defBody (topS 21)) (defScope (topS 21)) .none kV21 dc21 pm21 an21 cd21 ct21), sl21⟩) (q21 : PySem.W.codeIn K cd21 "_law_fits" = true) (k21 : PySem.W.keepIn K (.ref f21) = true)
    {f22 : Addr} {od22 an22 : Option Addr} {sl22 : Array (Option Value)} {oc22 kV22 dc22 pm22 cd22 ct22 : Value} (a22 : PySem.W.nsIn K mainGlobals "_law_choices" = some (some (.ref f22))) (l22 : K.lookup f22 = some ⟨oc22, od22, .func (PySem.W.fnOf "_law_choices" "_law_choices" (defArgs (topS 22)) (defBody (topS 22)) (defScope (topS 22)) .none kV22 dc22 pm22 an22 cd22 ct22), sl22⟩) (q22 : PySem.W.codeIn K cd22 "_law_choices" = true) (k22 : PySem.W.keepIn K (.ref f22) = true)
    {f23 : Addr} {od23 an23 : Option Addr} {sl23 : Array (Option Value)} {oc23 kV23 dc23 pm23 cd23 ct23 : Value} (a23 : PySem.W.nsIn K mainGlobals "_law_all" = some (some (.ref f23))) (l23 : K.lookup f23 = some ⟨oc23, od23, .func (PySem.W.fnOf "_law_all" "_law_all" (defArgs (topS 23)) (defBody (topS 23)) (defScope (topS 23)) .none kV23 dc23 pm23 an23 cd23 ct23), sl23⟩) (q23 : PySem.W.codeIn K cd23 "_law_all" = true) (k23 : PySem.W.keepIn K (.ref f23) = true)
    {f24 : Addr} {od24 an24 : Option Addr} {sl24 : Array (Option Value)} {oc24 kV24 dc24 pm24 cd24 ct24 : Value} (a24 : PySem.W.nsIn K mainGlobals "_law_lengths" = some (some (.ref f24))) (l24 : K.lookup f24 = some ⟨oc24, od24, .func (PySem.W.fnOf "_law_lengths" "_law_lengths" (defArgs (topS 24)) (defBody (topS 24)) (defScope (topS 24)) .none kV24 dc24 pm24 an24 cd24 ct24), sl24⟩) (q24 : PySem.W.codeIn K cd24 "_law_lengths" = true) (k24 : PySem.W.keepIn K (.ref f24) = true)
    {f25 : Addr} {od25 an25 : Option Addr} {sl25 : Array (Option Value)} {oc25 kV25 dc25 pm25 cd25 ct25 : Value} (a25 : PySem.W.nsIn K mainGlobals "_law_program" = some (some (.ref f25))) (l25 : K.lookup f25 = some ⟨oc25, od25, .func (PySem.W.fnOf "_law_program" "_law_program" (defArgs (topS 25)) (defBody (topS 25)) (defScope (topS 25)) .none kV25 dc25 pm25 an25 cd25 ct25), sl25⟩) (q25 : PySem.W.codeIn K cd25 "_law_program" = true) (k25 : PySem.W.keepIn K (.ref f25) = true)
    {f26 : Addr} {od26 an26 : Option Addr} {sl26 : Array (Option Value)} {oc26 kV26 dc26 pm26 cd26 ct26 : Value} (a26 : PySem.W.nsIn K mainGlobals "law" = some (some (.ref f26))) (l26 : K.lookup f26 = some ⟨oc26, od26, .func (PySem.W.fnOf "law" "law" (defArgs (topS 26)) (defBody (topS 26)) (defScope (topS 26)) .none kV26 dc26 pm26 an26 cd26 ct26), sl26⟩) (q26 : PySem.W.codeIn K cd26 "law" = true) (k26 : PySem.W.keepIn K (.ref f26) = true) :
    Txt K mg :=
  ⟨PySem.W.mg_none_of X G z_dict,
    PySem.W.mg_none_of X G z_enumerate,
    PySem.W.mg_none_of X G z_int,
    PySem.W.mg_none_of X G z_len,
    PySem.W.mg_none_of X G z_max,
    PySem.W.mg_none_of X G z_min,
    PySem.W.mg_none_of X G z_range,
    PySem.W.mg_none_of X G z_repr,
    PySem.W.mg_none_of X G z_sorted,
    PySem.W.mg_none_of X G z_sum,
    PySem.W.mg_none_of X G z_tuple,
    PySem.W.mg_none_of X G z_zip,
    ⟨_, _, PySem.W.mg_of X G a1, fun_mk (st := topS 1) l1 q1 k1⟩,
    ⟨_, _, PySem.W.mg_of X G a3, fun_mk (st := topS 3) l3 q3 k3⟩,
    ⟨_, _, PySem.W.mg_of X G a8, fun_mk (st := topS 8) l8 q8 k8⟩,
    ⟨_, _, PySem.W.mg_of X G a5, fun_mk (st := topS 5) l5 q5 k5⟩,
    ⟨_, _, PySem.W.mg_of X G a9, fun_mk (st := topS 9) l9 q9 k9⟩,
    ⟨_, _, PySem.W.mg_of X G a7, fun_mk (st := topS 7) l7 q7 k7⟩,
    ⟨_, _, PySem.W.mg_of X G a6, fun_mk (st := topS 6) l6 q6 k6⟩,
    ⟨_, _, PySem.W.mg_of X G a11, fun_mk (st := topS 11) l11 q11 k11⟩,
    ⟨_, _, PySem.W.mg_of X G a13, fun_mk (st := topS 13) l13 q13 k13⟩,
    ⟨_, _, PySem.W.mg_of X G a14, fun_mk (st := topS 14) l14 q14 k14⟩,
    ⟨_, _, PySem.W.mg_of X G a15, fun_mk (st := topS 15) l15 q15 k15⟩,
    ⟨_, _, PySem.W.mg_of X G a16, fun_mk (st := topS 16) l16 q16 k16⟩,
    ⟨_, _, PySem.W.mg_of X G a17, fun_mk (st := topS 17) l17 q17 k17⟩,
    ⟨_, _, PySem.W.mg_of X G a18, fun_mk (st := topS 18) l18 q18 k18⟩,
    ⟨_, _, PySem.W.mg_of X G a19, fun_mk (st := topS 19) l19 q19 k19⟩,
    ⟨_, _, PySem.W.mg_of X G a20, fun_mk (st := topS 20) l20 q20 k20⟩,
    ⟨_, _, PySem.W.mg_of X G a21, fun_mk (st := topS 21) l21 q21 k21⟩,
    ⟨_, _, PySem.W.mg_of X G a22, fun_mk (st := topS 22) l22 q22 k22⟩,
    ⟨_, _, PySem.W.mg_of X G a23, fun_mk (st := topS 23) l23 q23 k23⟩,
    ⟨_, _, PySem.W.mg_of X G a24, fun_mk (st := topS 24) l24 q24 k24⟩,
    ⟨_, _, PySem.W.mg_of X G a25, fun_mk (st := topS 25) l25 q25 k25⟩,
    ⟨_, _, PySem.W.mg_of X G a26, fun_mk (st := topS 26) l26 q26 k26⟩⟩
theorem law_fn {l : PySem.W.OpenLaw} {w : World} {K : Fg} {mg : Str → Option Value} {fa : Addr} (T : Txt K mg) (hfa : mg "law" = some (.ref fa)) : ∃ fd : FuncData, (∀ (s : Shared) (u : Value), BindsTo s fd ⟨[u], []⟩ [("script", u)]) ∧ ∀ base : Heap, K.In base → base.Ns mainGlobals mg → SysD base → FnG l.prog w K mg base 6 fa fd ["script"] Mlaw := by
  obtain ⟨a, fd, hm, F⟩ := T.f_law
  refine ⟨fd, fun s v => ?_, fun base _ _ S => ?_⟩
  · obtain ⟨oc, od, kV, doc, pm, an, cdv, ct, osl, rfl, lk, hcd⟩ := F.ex
    exact .of_eq rfl
  · obtain ⟨a2, fd2, F2, g2, k2, b2, h2⟩ := oklaw (P := l.prog) (w := w) (base := base) T S
    rw [hfa] at g2
    cases g2
    rw [hfa] at hm
    cases hm
    have e : fd2 = fd := fun_same F2 F
    subst e
    exact h2
end NS
open PySem PySem.W PyProof.Rows
set_option maxHeartbeats 0 in
theorem PySem.Challenge.cw_longernearer_k44_whole_choices_that_serv_holds : PySem.Challenge.rw_longernearer_k44_whole_choices_that_serv.Holds := by
  w_on; o_law; k_head; (case hw => w_witness2)
  k_fill
  refine PL.law_walk (l := PySem.Challenge.rw_longernearer_k44_whole_choices_that_serv) (n := 63) (k := 6) (x := "script") (F := NS.Mlaw) rfl (by decide) rfl (by decide +kernel) ⟨rfl, by decide, by decide⟩ (fun w h Y => PySem.W.kIn_of Y) ?F NS.law_true
  case F =>
    intro w mg fa h KX G hmg
    refine NS.law_fn ?T hmg
    refine' NS.txt_mk KX G ?z_dict ?z_enumerate ?z_int ?z_len ?z_max ?z_min ?z_range ?z_repr ?z_sorted ?z_sum ?z_tuple ?z_zip ?a1 ?l1 ?q1 ?k1 ?a3 ?l3 ?q3 ?k3 ?a8 ?l8 ?q8 ?k8 ?a5 ?l5 ?q5 ?k5 ?a9 ?l9 ?q9 ?k9 ?a7 ?l7 ?q7 ?k7 ?a6 ?l6 ?q6 ?k6 ?a11 ?l11 ?q11 ?k11 ?a13 ?l13 ?q13 ?k13 ?a14 ?l14 ?q14 ?k14 ?a15 ?l15 ?q15 ?k15 ?a16 ?l16 ?q16 ?k16 ?a17 ?l17 ?q17 ?k17 ?a18 ?l18 ?q18 ?k18 ?a19 ?l19 ?q19 ?k19 ?a20 ?l20 ?q20 ?k20 ?a21 ?l21 ?q21 ?k21 ?a22 ?l22 ?q22 ?k22 ?a23 ?l23 ?q23 ?k23 ?a24 ?l24 ?q24 ?k24 ?a25 ?l25 ?q25 ?k25 ?a26 ?l26 ?q26 ?k26
    (case z_dict => k_is); (case z_enumerate => k_is); (case z_int => k_is); (case z_len => k_is); (case z_max => k_is); (case z_min => k_is); (case z_range => k_is); (case z_repr => k_is); (case z_sorted => k_is); (case z_sum => k_is); (case z_tuple => k_is); (case z_zip => k_is); (case a1 => k_is); (case l1 => k_is); (case q1 => k_is); (case k1 => k_is); (case a3 => k_is); (case l3 => k_is); (case q3 => k_is); (case k3 => k_is); (case a8 => k_is); (case l8 => k_is); (case q8 => k_is); (case k8 => k_is); (case a5 => k_is); (case l5 => k_is); (case q5 => k_is); (case k5 => k_is); (case a9 => k_is); (case l9 => k_is); (case q9 => k_is); (case k9 => k_is); (case a7 => k_is); (case l7 => k_is); (case q7 => k_is); (case k7 => k_is); (case a6 => k_is); (case l6 => k_is); (case q6 => k_is); (case k6 => k_is); (case a11 => k_is); (case l11 => k_is); (case q11 => k_is); (case k11 => k_is); (case a13 => k_is); (case l13 => k_is); (case q13 => k_is); (case k13 => k_is); (case a14 => k_is); (case l14 => k_is); (case q14 => k_is); (case k14 => k_is); (case a15 => k_is); (case l15 => k_is); (case q15 => k_is); (case k15 => k_is); (case a16 => k_is); (case l16 => k_is); (case q16 => k_is); (case k16 => k_is); (case a17 => k_is); (case l17 => k_is); (case q17 => k_is); (case k17 => k_is); (case a18 => k_is); (case l18 => k_is); (case q18 => k_is); (case k18 => k_is); (case a19 => k_is); (case l19 => k_is); (case q19 => k_is); (case k19 => k_is); (case a20 => k_is); (case l20 => k_is); (case q20 => k_is); (case k20 => k_is); (case a21 => k_is); (case l21 => k_is); (case q21 => k_is); (case k21 => k_is); (case a22 => k_is); (case l22 => k_is); (case q22 => k_is); (case k22 => k_is); (case a23 => k_is); (case l23 => k_is); (case q23 => k_is); (case k23 => k_is); (case a24 => k_is); (case l24 => k_is); (case q24 => k_is); (case k24 => k_is); (case a25 => k_is); (case l25 => k_is); (case q25 => k_is); (case k25 => k_is); (case a26 => k_is); (case l26 => k_is); (case q26 => k_is); (case k26 => k_is)
