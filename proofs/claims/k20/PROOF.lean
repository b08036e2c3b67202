import PyProof.Rows.All
import HandS.ForMost
import HandS.ForExc
import HandS.IsInst
import HandS.Deep
import HandS.TupMul
import HandS.Conv
import HandS.Flow
import HandS.TupAny
import HandS.More
import HandS.Zip
import KE.GoesMore
import KE.GoesEnum
import PyProof.EnumFor
import PyProof.EnumMake
import HandS.Small
import HandS.RevRange
import PyProof.EqKinds
import HandS.RaiseMore
import HandS.WordsDict
import HandS.Style
import KE.DatumOrd
import HandS.DictComp
import PyProof.Rows.SortShell
import KE.KDictDisplayH
import HandS.AnyAll
import HandS.SortInts
import KE.LtSeq
import PySem.Challenge.RW_longernearer_k20_rows_judged_and_spoilt
set_option Elab.async false
set_option linter.all false
set_option maxRecDepth 100000
/- part PLa -/
set_option maxHeartbeats 4000000
namespace PL
open PySem PySem.Spec PyProof.Rows L2
abbrev Fg := PySem.W.Frag
abbrev St := L2.St

/-! ### pure values, cells, outcomes -/
inductive W where
  | non
  | bl (b : Bool)
  | int (i : Int)
  | str (x : Str)
  | ty (s : String)
  | tup (ws : List W)
  | ref (n : Nat)
  | fn (a : Addr)
instance : Inhabited W := ⟨.non⟩

inductive Cell where
  | lst (ws : List W)
  | rol (ws : List W)
  | dct (kvs : List (Key × W))
  | tct (kvs : List (List Key × W))
  | lkd (kvs : List (Key × W))
instance : Inhabited Cell := ⟨.lst []⟩
def Cell.mut : Cell → Bool
  | .rol _ => false
  | .lkd _ => false
  | _ => true
/-- one place alone stands for it -/
def Cell.own : Cell → Bool
  | .rol _ => false
  | _ => true
theorem Cell.own_of {c : Cell} (h : c.mut = true) : c.own = true := by cases c <;> first | rfl | cases h
abbrev Cells := List Cell
abbrev PEnv := List (Option W)
structure Exn where
  cls : Str
  arg : Option (Str × W)

inductive Rs (α : Type) where
  | ok (a : α) (G : Cells)
  | ex (e : Exn) (G : Cells)
  | no
def Rs.bind {α β : Type} (r : Rs α) (k : α → Cells → Rs β) : Rs β :=
  match r with
  | .ok a G => k a G
  | .ex e G => .ex e G
  | .no => .no
@[simp] theorem Rs.bind_ok {α β : Type} (a : α) (G : Cells) (k : α → Cells → Rs β) : (Rs.ok a G).bind k = k a G := rfl
@[simp] theorem Rs.bind_ex {α β : Type} (e : Exn) (G : Cells) (k : α → Cells → Rs β) : (Rs.ex e G : Rs α).bind k = .ex e G := rfl
@[simp] theorem Rs.bind_no {α β : Type} (k : α → Cells → Rs β) : (Rs.no : Rs α).bind k = .no := rfl
inductive So where
  | nx (E : PEnv) (G : Cells)
  | rt (w : W) (G : Cells)
  | bk (E : PEnv) (G : Cells)
  | ct (E : PEnv) (G : Cells)
  | ex (e : Exn) (E : PEnv) (G : Cells)
  | no

/-! ### a pure value stands for a value -/
mutual
inductive VR (K : Fg) (ρ : List Addr) (H : Hp) : W → V → Prop
  | non : VR K ρ H .non .non
  | bl (b : Bool) : VR K ρ H (.bl b) (.bl b)
  | int (i : Int) : VR K ρ H (.int i) (.int i)
  | str (x : Str) : VR K ρ H (.str x) (.str x)
  | ty (s : String) : VR K ρ H (.ty s) (.ty s)
  | fn (a : Addr) : VR K ρ H (.fn a) (.ref a)
  | tup {a : Addr} {vs : List V} {ws : List W} : H a = some (.tup vs) → VRs K ρ H ws vs → VR K ρ H (.tup ws) (.ref a)
  | ref {n : Nat} {a : Addr} : ρ[n]? = some a → VR K ρ H (.ref n) (.ref a)
inductive VRs (K : Fg) (ρ : List Addr) (H : Hp) : List W → List V → Prop
  | nil : VRs K ρ H [] []
  | cons {w : W} {v : V} {ws : List W} {vs : List V} : VR K ρ H w v → VRs K ρ H ws vs → VRs K ρ H (w :: ws) (v :: vs)
end
structure Ext (K : Fg) (ρ : List Addr) (H : Hp) (ρ' : List Addr) (H' : Hp) : Prop where
  rho : ∀ (n : Nat) (a : Addr), ρ[n]? = some a → ρ'[n]? = some a
  tups : ∀ a vs, H a = some (.tup vs) → H' a = some (.tup vs)
  frz : ∀ a o u, H a = some (.frz o u) → H' a = some (.frz o u)
theorem Ext.refl {K : Fg} {ρ : List Addr} {H : Hp} : Ext K ρ H ρ H := ⟨fun _ _ h => h, fun _ _ h => h, fun _ _ _ h => h⟩
theorem Ext.trans {K : Fg} {ρ ρ1 ρ2 : List Addr} {H H1 H2 : Hp} (a : Ext K ρ H ρ1 H1) (b : Ext K ρ1 H1 ρ2 H2) : Ext K ρ H ρ2 H2 :=
  ⟨fun n x h => b.rho n x (a.rho n x h), fun x vs h => b.tups x vs (a.tups x vs h), fun x o u h => b.frz x o u (a.frz x o u h)⟩
section
variable {K : Fg} {ρ ρ' : List Addr} {H H' : Hp}
mutual
theorem VR.mono (e : Ext K ρ H ρ' H') : ∀ {w : W} {v : V}, VR K ρ H w v → VR K ρ' H' w v
  | _, _, .non => .non
  | _, _, .bl b => .bl b
  | _, _, .int i => .int i
  | _, _, .str x => .str x
  | _, _, .ty s => .ty s
  | _, _, .fn a => .fn a
  | _, _, .tup h k => .tup (e.tups _ _ h) (VRs.mono e k)
  | _, _, .ref h => .ref (e.rho _ _ h)
theorem VRs.mono (e : Ext K ρ H ρ' H') : ∀ {ws : List W} {vs : List V}, VRs K ρ H ws vs → VRs K ρ' H' ws vs
  | _, _, .nil => .nil
  | _, _, .cons h k => .cons (VR.mono e h) (VRs.mono e k)
end
theorem VRs.length : ∀ {ws : List W} {vs : List V}, VRs K ρ H ws vs → ws.length = vs.length
  | _, _, .nil => rfl
  | _, _, .cons _ k => by rw [List.length_cons, List.length_cons, k.length]
theorem VRs.get : ∀ {ws : List W} {vs : List V} {i : Nat} {w : W}, VRs K ρ H ws vs → ws[i]? = some w → ∃ v, vs[i]? = some v ∧ VR K ρ H w v
  | _, _, _, _, .nil, h => by simp at h
  | _, _, 0, w, .cons h k, e => by simp at e; subst e; exact ⟨_, rfl, h⟩
  | _, _, i + 1, w, .cons h k, e => by
    obtain ⟨v, e1, e2⟩ := VRs.get (i := i) (w := w) k (by simpa using e)
    exact ⟨v, by simpa using e1, e2⟩
theorem VRs.append : ∀ {ws xs : List W} {vs us : List V}, VRs K ρ H ws vs → VRs K ρ H xs us → VRs K ρ H (ws ++ xs) (vs ++ us)
  | _, _, _, _, .nil, s => s
  | _, _, _, _, .cons h k, s => .cons h (VRs.append k s)
theorem VRs.take : ∀ {ws : List W} {vs : List V} (n : Nat), VRs K ρ H ws vs → VRs K ρ H (ws.take n) (vs.take n)
  | _, _, 0, _ => .nil
  | _, _, _ + 1, .nil => .nil
  | _, _, n + 1, .cons h k => .cons h (VRs.take n k)
theorem VRs.drop : ∀ {ws : List W} {vs : List V} (n : Nat), VRs K ρ H ws vs → VRs K ρ H (ws.drop n) (vs.drop n)
  | _, _, 0, h => h
  | _, _, _ + 1, .nil => .nil
  | _, _, n + 1, .cons h k => VRs.drop n k
theorem VRs.set {w : W} {v : V} (h : VR K ρ H w v) : ∀ {ws : List W} {vs : List V} (n : Nat), VRs K ρ H ws vs → VRs K ρ H (ws.set n w) (vs.set n v)
  | _, _, _, .nil => .nil
  | _, _, 0, .cons _ k => .cons h k
  | _, _, n + 1, .cons h' k => .cons h' (VRs.set h n k)
theorem VRs.get_none {ws : List W} {vs : List V} {i : Nat} (h : VRs K ρ H ws vs) (e : ws[i]? = none) : vs[i]? = none := by
  have h1 := h.length
  have h2 := List.getElem?_eq_none_iff.mp e
  exact List.getElem?_eq_none_iff.mpr (by omega)
theorem VRs.reverse : ∀ {ws : List W} {vs : List V}, VRs K ρ H ws vs → VRs K ρ H ws.reverse vs.reverse
  | _, _, .nil => .nil
  | _, _, .cons h k => by rw [List.reverse_cons, List.reverse_cons]; exact VRs.append (VRs.reverse k) (.cons h .nil)
theorem VRs.rep {ws : List W} {vs : List V} (h : VRs K ρ H ws vs) : ∀ n : Nat, VRs K ρ H (List.replicate n ws).flatten (List.replicate n vs).flatten
  | 0 => .nil
  | n + 1 => by rw [List.replicate_succ, List.replicate_succ, List.flatten_cons, List.flatten_cons]; exact h.append (VRs.rep h n)
end

/-! ### cells -/
inductive KVR {κ : Type} (K : Fg) (ρ : List Addr) (H : Hp) : List (κ × W) → List (κ × V) → Prop
  | nil : KVR K ρ H [] []
  | cons {k : κ} {w : W} {v : V} {r : List (κ × W)} {q : List (κ × V)} : VR K ρ H w v → KVR K ρ H r q → KVR K ρ H ((k, w) :: r) ((k, v) :: q)
theorem KVR.mono {κ : Type} {K : Fg} {ρ ρ' : List Addr} {H H' : Hp} (e : Ext K ρ H ρ' H') : ∀ {r : List (κ × W)} {q : List (κ × V)}, KVR K ρ H r q → KVR K ρ' H' r q
  | _, _, .nil => .nil
  | _, _, .cons h k => .cons (h.mono e) (k.mono e)
def KList (K : Fg) (a : Addr) (xs : List V) : Prop :=
  ∃ (o : Obj) (its : Array Value) (n : Nat), K.lookup a = some o ∧ o.cls = .type "list" ∧ o.dict = none ∧ o.data = .seq its n ∧ its.size ≤ sizeLine ∧ Vals xs its.toList
def CR (K : Fg) (ρ : List Addr) (H : Hp) : Cell → Addr → Prop
  | .lst ws, a => ∃ vs, H a = some (.lst vs) ∧ VRs K ρ H ws vs
  | .rol ws, a => ∃ vs, ((∃ o, H a = some (.frz o (.lst vs))) ∨ KList K a vs) ∧ VRs K ρ H ws vs
  | .dct kvs, a => ∃ q, H a = some (.dK q) ∧ KVR K ρ H kvs q
  | .tct kvs, a => ∃ q, H a = some (.dT q) ∧ KVR K ρ H kvs q
  | .lkd kvs, a => ∃ o q, H a = some (.frz o (.dK q)) ∧ KVR K ρ H kvs q
structure SR (K : Fg) (ρ : List Addr) (G : Cells) (H : Hp) : Prop where
  len : ρ.length = G.length
  cell : ∀ (n : Nat) (c : Cell) (a : Addr), G[n]? = some c → ρ[n]? = some a → CR K ρ H c a
  inj : ∀ (n m : Nat) (a : Addr) (c d : Cell), ρ[n]? = some a → ρ[m]? = some a → G[n]? = some c → c.own = true → G[m]? = some d → d.own = true → n = m
section
variable {K : Fg} {ρ ρ' : List Addr} {H H' : Hp} {G : Cells} {n : Nat} {a p : Addr} {c : Cell} {o : HO}
theorem SR.at (s : SR K ρ G H) (h : ρ[n]? = some a) : ∃ c, G[n]? = some c := by
  obtain ⟨hn, _⟩ := List.getElem?_eq_some_iff.mp h
  rw [s.len] at hn
  exact ⟨G[n], List.getElem?_eq_getElem hn⟩
/-- what a store at x keeps -/
theorem ext_upd {x : Addr} (hx : H x = none ∨ Mut (H x)) (hr : ∀ (n : Nat) (a : Addr), ρ[n]? = some a → ρ'[n]? = some a) : Ext K ρ H ρ' (upd H x o) := by
  have ne : ∀ b u, H b = some u → ¬ Mut (some u) → b ≠ x := fun b u h m z => by
    subst z
    rcases hx with e | e
    · rw [e] at h; cases h
    · rw [h] at e; exact m e
  exact ⟨hr, fun b vs h => by rw [upd_ne (ne b _ h fun z => z)]; exact h, fun b ob u h => by rw [upd_ne (ne b _ h fun z => z)]; exact h⟩
theorem CR.mono {c : Cell} (r : CR K ρ H c a) (e : Ext K ρ H ρ' H') (k : c.mut = true → H' a = H a) : CR K ρ' H' c a := by
  cases c with
  | lst ws => obtain ⟨vs, h, q⟩ := r; exact ⟨vs, by rw [k rfl]; exact h, q.mono e⟩
  | rol ws =>
    obtain ⟨vs, h, q⟩ := r
    refine ⟨vs, ?_, q.mono e⟩
    rcases h with ⟨o, h⟩ | h
    · exact .inl ⟨o, e.frz _ _ _ h⟩
    · exact .inr h
  | dct kvs => obtain ⟨vs, h, q⟩ := r; exact ⟨vs, by rw [k rfl]; exact h, q.mono e⟩
  | tct kvs => obtain ⟨vs, h, q⟩ := r; exact ⟨vs, by rw [k rfl]; exact h, q.mono e⟩
  | lkd kvs => obtain ⟨o, q, h, z⟩ := r; exact ⟨o, q, e.frz _ _ _ h, z.mono e⟩
theorem CR.here {c : Cell} (r : CR K ρ H c a) (m : c.mut = true) : ∃ o, H a = some o ∧ Mut (some o) := by
  cases c with
  | lst ws => obtain ⟨vs, h, q⟩ := r; exact ⟨_, h, trivial⟩
  | rol ws => cases m
  | dct kvs => obtain ⟨vs, h, q⟩ := r; exact ⟨_, h, trivial⟩
  | tct kvs => obtain ⟨vs, h, q⟩ := r; exact ⟨_, h, trivial⟩
  | lkd kvs => cases m
theorem CR.hereO {c : Cell} (r : CR K ρ H c a) (m : c.own = true) : ∃ o, H a = some o := by
  cases c with
  | lst ws => obtain ⟨vs, h, q⟩ := r; exact ⟨_, h⟩
  | rol ws => cases m
  | dct kvs => obtain ⟨vs, h, q⟩ := r; exact ⟨_, h⟩
  | tct kvs => obtain ⟨vs, h, q⟩ := r; exact ⟨_, h⟩
  | lkd kvs => obtain ⟨o, q, h, z⟩ := r; exact ⟨_, h⟩
/-- a new tuple (or whatever is not a cell) -/
theorem SR.fresh (s : SR K ρ G H) (hp : H p = none) : SR K ρ G (upd H p o) := by
  refine ⟨s.len, fun n c a h1 h2 => (s.cell n c a h1 h2).mono (ext_upd (.inl hp) fun _ _ h => h) fun m => ?_, s.inj⟩
  obtain ⟨u, hu, _⟩ := (s.cell n c a h1 h2).here m
  exact upd_ne (ne_of_none hu hp)
theorem get_snoc {α : Type} {l : List α} {x y : α} {n : Nat} (h : (l ++ [x])[n]? = some y) : l[n]? = some y ∨ (n = l.length ∧ y = x) := by
  by_cases hn : n < l.length
  · rw [List.getElem?_append_left hn] at h; exact .inl h
  · rw [List.getElem?_append_right (by omega)] at h
    have : n - l.length = 0 := by
      obtain ⟨q, _⟩ := List.getElem?_eq_some_iff.mp h
      simp at q; omega
    rw [this] at h
    simp at h
    exact .inr ⟨by omega, h.symm⟩
theorem get_left {α : Type} {l r : List α} {y : α} {n : Nat} (h : l[n]? = some y) : (l ++ r)[n]? = some y := by
  obtain ⟨q, _⟩ := List.getElem?_eq_some_iff.mp h
  rw [List.getElem?_append_left q]; exact h
theorem ext_alloc (hp : H p = none) : Ext K ρ H (ρ ++ [p]) (upd H p o) := ext_upd (.inl hp) fun _ _ h => get_left h
/-- a new cell -/
theorem SR.alloc (s : SR K ρ G H) (hp : H p = none) (hc : CR K (ρ ++ [p]) (upd H p o) c p) : SR K (ρ ++ [p]) (G ++ [c]) (upd H p o) := by
  have keep : ∀ (n : Nat) (c : Cell) (a : Addr), G[n]? = some c → ρ[n]? = some a → c.own = true → a ≠ p := fun n c a h1 h2 m => by
    obtain ⟨u, hu⟩ := (s.cell n c a h1 h2).hereO m
    exact ne_of_none hu hp
  refine ⟨by simp [s.len], fun n d a h1 h2 => ?_, fun n m a d e h1 h2 h3 h4 h5 h6 => ?_⟩
  · rcases get_snoc h1 with h1 | ⟨h1, rfl⟩
    · rcases get_snoc h2 with h2 | ⟨h2, _⟩
      · exact (s.cell n d a h1 h2).mono (ext_alloc hp) fun m => upd_ne (keep n d a h1 h2 (Cell.own_of m))
      · obtain ⟨q, _⟩ := List.getElem?_eq_some_iff.mp h1
        have := s.len; omega
    · rcases get_snoc h2 with h2 | ⟨h2, rfl⟩
      · obtain ⟨q, _⟩ := List.getElem?_eq_some_iff.mp h2
        have := s.len; omega
      · exact hc
  · rcases get_snoc h1 with h1 | ⟨h1, e1⟩
    · rcases get_snoc h2 with h2 | ⟨h2, e2⟩
      · rcases get_snoc h3 with h3 | ⟨h3, _⟩
        · rcases get_snoc h5 with h5 | ⟨h5, _⟩
          · exact s.inj n m a d e h1 h2 h3 h4 h5 h6
          · obtain ⟨q, _⟩ := List.getElem?_eq_some_iff.mp h2
            have := s.len; omega
        · obtain ⟨q, _⟩ := List.getElem?_eq_some_iff.mp h1
          have := s.len; omega
      · rcases get_snoc h3 with h3 | ⟨h3, _⟩
        · exact absurd e2 (keep n d a h3 h1 h4)
        · obtain ⟨q, _⟩ := List.getElem?_eq_some_iff.mp h1
          have := s.len; omega
    · rcases get_snoc h2 with h2 | ⟨h2, e2⟩
      · rcases get_snoc h5 with h5 | ⟨h5, _⟩
        · exact absurd e1 (keep m e a h5 h2 h6)
        · obtain ⟨q, _⟩ := List.getElem?_eq_some_iff.mp h2
          have := s.len; omega
      · omega
/-- a cell is written -/
theorem SR.write {c' : Cell} (s : SR K ρ G H) (hn : G[n]? = some c) (ha : ρ[n]? = some a) (hm : c.mut = true) (hm' : c'.mut = true) (hc : CR K ρ (upd H a o) c' a) : SR K ρ (G.set n c') (upd H a o) := by
  have mu : Mut (H a) := by
    obtain ⟨u, hu, h⟩ := (s.cell n c a hn ha).here hm
    rw [hu]; exact h
  have hlt : n < G.length := (List.getElem?_eq_some_iff.mp hn).1
  refine ⟨by simp [s.len], fun m d b h1 h2 => ?_, fun i j b d e h1 h2 h3 h4 h5 h6 => ?_⟩
  · by_cases e : m = n
    · subst e
      rw [List.getElem?_set_self hlt] at h1
      cases h1
      rw [ha] at h2; cases h2
      exact hc
    · rw [List.getElem?_set_ne (Ne.symm e)] at h1
      exact (s.cell m d b h1 h2).mono (ext_upd (.inr mu) fun _ _ h => h) fun md => upd_ne fun z => e (s.inj m n b d c h2 (z ▸ ha) h1 (Cell.own_of md) hn (Cell.own_of hm))
  · have back : ∀ (i : Nat) (d : Cell), (G.set n c')[i]? = some d → d.own = true → ∃ d', G[i]? = some d' ∧ d'.own = true := fun i d h m => by
      by_cases e : i = n
      · subst e; exact ⟨c, hn, Cell.own_of hm⟩
      · rw [List.getElem?_set_ne (Ne.symm e)] at h; exact ⟨d, h, m⟩
    obtain ⟨d', q1, q2⟩ := back i d h3 h4
    obtain ⟨e', q3, q4⟩ := back j e h5 h6
    exact s.inj i j b d' e' h1 h2 q1 q2 q3 q4
theorem SR.ext_write (s : SR K ρ G H) (hn : G[n]? = some c) (ha : ρ[n]? = some a) (hm : c.mut = true) : Ext K ρ H ρ (upd H a o) := by
  obtain ⟨u, hu, h⟩ := (s.cell n c a hn ha).here hm
  exact ext_upd (.inr (by rw [hu]; exact h)) fun _ _ h => h
theorem same_ext (h : Same H H') : Ext K ρ H ρ H' := ⟨fun _ _ h => h, fun a vs q => h _ _ q, fun a o u q => h _ _ q⟩
theorem SR.same (s : SR K ρ G H) (h : Same H H') : SR K ρ G H' := ⟨s.len, fun n c a h1 h2 => (s.cell n c a h1 h2).mono (same_ext h) fun m => by
  obtain ⟨u, hu, _⟩ := (s.cell n c a h1 h2).here m
  rw [hu, h _ _ hu], s.inj⟩
end

/-! ### slots -/
inductive ER (K : Fg) (ρ : List Addr) (H : Hp) : PEnv → St → Prop
  | nil : ER K ρ H [] []
  | none {v : Option V} {E : PEnv} {σ : St} : ER K ρ H E σ → ER K ρ H (.none :: E) (v :: σ)
  | some {w : W} {v : V} {E : PEnv} {σ : St} : VR K ρ H w v → ER K ρ H E σ → ER K ρ H (.some w :: E) (.some v :: σ)
section
variable {K : Fg} {ρ ρ' : List Addr} {H H' : Hp}
theorem ER.mono (e : Ext K ρ H ρ' H') : ∀ {E : PEnv} {σ : St}, ER K ρ H E σ → ER K ρ' H' E σ
  | _, _, .nil => .nil
  | _, _, .none k => .none (k.mono e)
  | _, _, .some h k => .some (h.mono e) (k.mono e)
theorem ER.get : ∀ {E : PEnv} {σ : St} {i : Nat} {w : W}, ER K ρ H E σ → E[i]? = .some (.some w) → ∃ v, σ[i]? = .some (.some v) ∧ VR K ρ H w v
  | _, _, _, _, .nil, h => by simp at h
  | _, _, 0, _, .none _, h => by simp at h
  | _, _, 0, _, .some q _, h => by simp at h; subst h; exact ⟨_, rfl, q⟩
  | _, _, i + 1, w, .none k, h => by
    obtain ⟨v, e1, e2⟩ := ER.get (i := i) (w := w) k (by simpa using h)
    exact ⟨v, by simpa using e1, e2⟩
  | _, _, i + 1, w, .some _ k, h => by
    obtain ⟨v, e1, e2⟩ := ER.get (i := i) (w := w) k (by simpa using h)
    exact ⟨v, by simpa using e1, e2⟩
theorem ER.set {w : W} {v : V} (h : VR K ρ H w v) : ∀ {E : PEnv} {σ : St} (i : Nat), ER K ρ H E σ → ER K ρ H (E.set i (.some w)) (σ.set i (.some v))
  | _, _, _, .nil => .nil
  | _, _, 0, .none k => .some h k
  | _, _, 0, .some _ k => .some h k
  | _, _, i + 1, .none k => .none (ER.set h i k)
  | _, _, i + 1, .some q k => .some q (ER.set h i k)
theorem ER.unset : ∀ {E : PEnv} {σ : St} (i : Nat) (v : Option V), ER K ρ H E σ → ER K ρ H (E.set i .none) (σ.set i v)
  | _, _, _, _, .nil => .nil
  | _, _, 0, _, .none k => .none k
  | _, _, 0, _, .some _ k => .none k
  | _, _, i + 1, v, .none k => .none (ER.unset i v k)
  | _, _, i + 1, v, .some q k => .some q (ER.unset i v k)
theorem ER.length : ∀ {E : PEnv} {σ : St}, ER K ρ H E σ → E.length = σ.length
  | _, _, .nil => rfl
  | _, _, .none k => by rw [List.length_cons, List.length_cons, k.length]
  | _, _, .some _ k => by rw [List.length_cons, List.length_cons, k.length]
theorem ER.replicate : ∀ n : Nat, ER K ρ H (List.replicate n .none) (List.replicate n .none)
  | 0 => .nil
  | n + 1 => .none (ER.replicate n)
theorem ER.args : ∀ {ws : List W} {vs : List V}, VRs K ρ H ws vs → ∀ {E : PEnv} {σ : St}, ER K ρ H E σ → ER K ρ H (ws.map .some ++ E) (vs.map .some ++ σ)
  | _, _, .nil, _, _, k => k
  | _, _, .cons h q, _, _, k => .some h (ER.args q k)
end

/-! ### outcomes -/
abbrev Wish := Exn → St → List Addr → Hp → Prop
def Out {α β : Type} (K : Fg) (XP : Wish) (Rel : List Addr → Hp → α → β → Prop) (σ : St) (ρ : List Addr) (H : Hp) (r : Rs α) (Q : β → Hp → Prop) : Prop :=
  match r with
  | .ok w G => ∀ ρ' H' v, Ext K ρ H ρ' H' → SR K ρ' G H' → Rel ρ' H' w v → Q v H'
  | .ex e G => ∀ ρ' H', Ext K ρ H ρ' H' → SR K ρ' G H' → XP e σ ρ' H'
  | .no => False
theorem Out.mono {α β : Type} {K : Fg} {XP : Wish} {Rel : List Addr → Hp → α → β → Prop} {σ : St} {ρ ρ' : List Addr} {H H' : Hp} {r : Rs α} {Q : β → Hp → Prop} (h : Out K XP Rel σ ρ H r Q) (e : Ext K ρ H ρ' H') : Out K XP Rel σ ρ' H' r Q := by
  cases r with
  | ok w G => exact fun ρ2 H2 v e2 s q => h ρ2 H2 v (e.trans e2) s q
  | ex x G => exact fun ρ2 H2 e2 s => h ρ2 H2 (e.trans e2) s
  | no => exact h
theorem Out.bind {α β α' β' : Type} {K : Fg} {XP : Wish} {Rel : List Addr → Hp → α → β → Prop} {Rel' : List Addr → Hp → α' → β' → Prop} {σ : St} {ρ : List Addr} {H : Hp} {r : Rs α} {k : α → Cells → Rs α'} {Q : β → Hp → Prop} {Q' : β' → Hp → Prop}
    (h : Out K XP Rel' σ ρ H (r.bind k) Q') (f : ∀ w G ρ1 H1 v, Ext K ρ H ρ1 H1 → SR K ρ1 G H1 → Rel ρ1 H1 w v → Out K XP Rel' σ ρ1 H1 (k w G) Q' → Q v H1) : Out K XP Rel σ ρ H r Q := by
  cases r with
  | ok w G => exact fun ρ1 H1 v e s q => f w G ρ1 H1 v e s q (h.mono e)
  | ex x G => exact h
  | no => exact h
theorem Out.ok {α β : Type} {K : Fg} {XP : Wish} {Rel : List Addr → Hp → α → β → Prop} {σ : St} {ρ : List Addr} {H : Hp} {w : α} {G : Cells} {Q : β → Hp → Prop} (h : Out K XP Rel σ ρ H (.ok w G) Q) {v : β} (s : SR K ρ G H) (q : Rel ρ H w v) : Q v H := h ρ H v .refl s q

abbrev ME := PEnv → Cells → Rs W
abbrev MA := PEnv → Cells → Rs (List W)
abbrev MT := PEnv → Cells → Rs Bool
abbrev MS := PEnv → Cells → So
def BR : List Addr → Hp → Bool → Bool → Prop := fun _ _ a b => a = b

structure HE (X : Cx) (XP : Wish) (e : Expr) (m : ME) : Prop where
  ex : ∃ t, PE X e t ∧ ∀ ρ E G σ H Q, ER X.K ρ H E σ → SR X.K ρ G H → Out X.K XP (VR X.K) σ ρ H (m E G) Q → t σ H Q
structure HA (X : Cx) (XP : Wish) (es : List Expr) (m : MA) : Prop where
  ex : ∃ t, PA X es t ∧ ∀ ρ E G σ H Q, ER X.K ρ H E σ → SR X.K ρ G H → Out X.K XP (VRs X.K) σ ρ H (m E G) Q → t σ H Q
structure HT (X : Cx) (XP : Wish) (e : Expr) (m : MT) : Prop where
  ex : ∃ t, PT X e t ∧ ∀ ρ E G σ H Q, ER X.K ρ H E σ → SR X.K ρ G H → Out X.K XP BR σ ρ H (m E G) Q → t σ H Q
def OutS (K : Fg) (XP : Wish) (ρ : List Addr) (H : Hp) (r : So) (D : Ends) : Prop :=
  match r with
  | .nx E G => ∀ ρ' H' σ', Ext K ρ H ρ' H' → SR K ρ' G H' → ER K ρ' H' E σ' → D.nx σ' H'
  | .rt w G => ∀ ρ' H' v, Ext K ρ H ρ' H' → SR K ρ' G H' → VR K ρ' H' w v → D.rt v H'
  | .bk E G => ∀ ρ' H' σ', Ext K ρ H ρ' H' → SR K ρ' G H' → ER K ρ' H' E σ' → D.bk σ' H'
  | .ct E G => ∀ ρ' H' σ', Ext K ρ H ρ' H' → SR K ρ' G H' → ER K ρ' H' E σ' → D.ct σ' H'
  | .ex e E G => ∀ ρ' H' σ', Ext K ρ H ρ' H' → SR K ρ' G H' → ER K ρ' H' E σ' → XP e σ' ρ' H'
  | .no => False
theorem OutS.mono {K : Fg} {XP : Wish} {ρ ρ' : List Addr} {H H' : Hp} {r : So} {D : Ends} (h : OutS K XP ρ H r D) (e : Ext K ρ H ρ' H') : OutS K XP ρ' H' r D := by
  cases r with
  | nx E G => exact fun ρ2 H2 v e2 s q => h ρ2 H2 v (e.trans e2) s q
  | rt w G => exact fun ρ2 H2 v e2 s q => h ρ2 H2 v (e.trans e2) s q
  | bk E G => exact fun ρ2 H2 v e2 s q => h ρ2 H2 v (e.trans e2) s q
  | ct E G => exact fun ρ2 H2 v e2 s q => h ρ2 H2 v (e.trans e2) s q
  | ex x E G => exact fun ρ2 H2 v e2 s q => h ρ2 H2 v (e.trans e2) s q
  | no => exact h
structure HS (X : Cx) (XP : Wish) (st : Stmt) (m : MS) : Prop where
  ex : ∃ t, PS X st t ∧ ∀ ρ E G σ H D, ER X.K ρ H E σ → SR X.K ρ G H → OutS X.K XP ρ H (m E G) D → t D σ H
structure HB (X : Cx) (XP : Wish) (sts : List Stmt) (m : MS) : Prop where
  ex : ∃ t, PSs X sts t ∧ ∀ ρ E G σ H D, ER X.K ρ H E σ → SR X.K ρ G H → OutS X.K XP ρ H (m E G) D → t D σ H
end PL
/- part PLb -/
set_option maxHeartbeats 4000000
namespace PL
open PySem PySem.Spec PyProof.Rows L2
section
variable {X : Cx} {XP : Wish} {pos : Pos}

/-! ### names, constants -/
def mVar (i : Nat) : ME := fun E G => match E[i]? with | some (some w) => .ok w G | _ => .no
def mC (w : W) : ME := fun _ G => .ok w G
theorem he_var {i : Nat} {x : Str} (hN : X.N[i]? = some x) (hv : Vis X.env.scope x) (hd : (x == ("__debug__" : Str)) = false := by decide) (hcd : (x == ("__classdict__" : Str)) = false := by decide) : HE X XP (.Name x pos) (mVar i) := by
  refine ⟨_, pe_var hN hv hd hcd, fun ρ E G σ H Q er sr h => ?_⟩
  unfold mVar at h
  split at h
  · rename_i w hw
    obtain ⟨v, h1, h2⟩ := er.get hw
    exact ⟨v, h1, h.ok sr h2⟩
  · exact h.elim
theorem he_const {e : Expr} {v : V} {w : W} (h : PE X e (tC v)) (r : ∀ ρ H, VR X.K ρ H w v) : HE X XP e (mC w) :=
  ⟨_, h, fun ρ E G σ H Q er sr q => q.ok sr (r ρ H)⟩
theorem he_int {i : Int} {j} : HE X XP (.Constant (.int i) j pos) (mC (.int i)) := he_const pe_int fun _ _ => .int i
theorem he_bl {b : Bool} {j} : HE X XP (.Constant (.bool b) j pos) (mC (.bl b)) := he_const pe_bl fun _ _ => .bl b
theorem he_non {j} : HE X XP (.Constant .none j pos) (mC .non) := he_const pe_non fun _ _ => .non
theorem he_str {x : Str} {j} : HE X XP (.Constant (.str x) j pos) (mC (.str x)) := he_const pe_str fun _ _ => .str x
/-- a module's constant -/
theorem he_glob {x : Str} {v : V} {u : Value} {w : W} (hg : Gl X x) (hm : X.mg x = some u) (r : RelV v u) (k : ∀ ρ H, VR X.K ρ H w v) (hd : (x == ("__debug__" : Str)) = false := by decide) : HE X XP (.Name x pos) (mC w) :=
  he_const (pe_glob hg hm r hd) k
/-- a built-in type as a value -/
theorem he_type {x : Str} {n : String} (hg : Gl X x) (hm : X.mg x = none) (hv : bootBuiltins x = some (.type n)) (hn : x ≠ "__name__" := by decide) (hd : (x == ("__debug__" : Str)) = false := by decide) : HE X XP (.Name x pos) (mC (.ty n)) :=
  he_const (v := .ty n) (pe_bltn hg hm hv rfl hn hd) fun _ _ => .ty n

/-! ### two-place operations -/
abbrev GOp := Cells → W → W → Rs W
structure OpG (X : Cx) (XP : Wish) (f : Value → Value → Sem Value) (g : GOp) : Prop where
  ex : ∃ r, OpR X f r ∧ ∀ ρ G σ H x y v u Q, SR X.K ρ G H → VR X.K ρ H x v → VR X.K ρ H y u → Out X.K XP (VR X.K) σ ρ H (g G x y) Q → r v u H Q
def mBin (g : GOp) (ma mb : ME) : ME := fun E G => (ma E G).bind fun x G1 => (mb E G1).bind fun y G2 => g G2 x y
theorem bin_run {ta tb : TE} {ma mb : ME} {g : GOp} {r : R2}
    (ha : ∀ ρ E G σ H Q, ER X.K ρ H E σ → SR X.K ρ G H → Out X.K XP (VR X.K) σ ρ H (ma E G) Q → ta σ H Q)
    (hb : ∀ ρ E G σ H Q, ER X.K ρ H E σ → SR X.K ρ G H → Out X.K XP (VR X.K) σ ρ H (mb E G) Q → tb σ H Q)
    (hr : ∀ ρ G σ H x y v u Q, SR X.K ρ G H → VR X.K ρ H x v → VR X.K ρ H y u → Out X.K XP (VR X.K) σ ρ H (g G x y) Q → r v u H Q) :
    ∀ ρ E G σ H Q, ER X.K ρ H E σ → SR X.K ρ G H → Out X.K XP (VR X.K) σ ρ H (mBin g ma mb E G) Q → tOp r ta tb σ H Q := by
  intro ρ E G σ H Q er sr h
  refine ha ρ E G σ H _ er sr (h.bind fun x G1 ρ1 H1 v e1 s1 r1 h1 => ?_)
  refine hb ρ1 E G1 σ H1 _ (er.mono e1) s1 (h1.bind fun y G2 ρ2 H2 u e2 s2 r2 h2 => ?_)
  exact hr ρ2 G2 σ H2 x y v u Q s2 (r1.mono e2) r2 h2
theorem he_op {op : Operator} {a b : Expr} {ma mb : ME} {g : GOp} (ho : OpG X XP (binaryOp op) g) (ha : HE X XP a ma) (hb : HE X XP b mb) : HE X XP (.BinOp a op b pos) (mBin g ma mb) := by
  obtain ⟨r, h1, h2⟩ := ho.ex
  obtain ⟨ta, a1, a2⟩ := ha.ex
  obtain ⟨tb, b1, b2⟩ := hb.ex
  exact ⟨_, pe_op h1 a1 b1, bin_run a2 b2 h2⟩
theorem he_cmp {op : CmpOp} {a b : Expr} {ma mb : ME} {g : GOp} (ho : OpG X XP (compareOp op) g) (ha : HE X XP a ma) (hb : HE X XP b mb) (hm : behindInMarks op b = false) : HE X XP (.Compare a [op] [b] pos) (mBin g ma mb) := by
  obtain ⟨r, h1, h2⟩ := ho.ex
  obtain ⟨ta, a1, a2⟩ := ha.ex
  obtain ⟨tb, b1, b2⟩ := hb.ex
  exact ⟨_, pe_cmpR h1 a1 b1 hm, bin_run a2 b2 h2⟩
def mTest (m : ME) : MT := fun E G => (m E G).bind fun w G' => match w with | .bl b => .ok b G' | _ => .no
theorem test_run {t : TE} {m : ME} (h : ∀ ρ E G σ H Q, ER X.K ρ H E σ → SR X.K ρ G H → Out X.K XP (VR X.K) σ ρ H (m E G) Q → t σ H Q) :
    ∀ ρ E G σ H Q, ER X.K ρ H E σ → SR X.K ρ G H → Out X.K XP BR σ ρ H (mTest m E G) Q → tTest t σ H Q := by
  intro ρ E G σ H Q er sr q
  refine h ρ E G σ H _ er sr (q.bind fun w G1 ρ1 H1 v e1 s1 r1 h1 => ?_)
  cases r1 <;> first | exact h1.elim | exact ⟨_, rfl, h1.ok s1 rfl⟩
theorem ht_cmp {op : CmpOp} {a b : Expr} {ma mb : ME} {g : GOp} (ho : OpG X XP (compareOp op) g) (ha : HE X XP a ma) (hb : HE X XP b mb) (hm : behindInMarks op b = false) : HT X XP (.Compare a [op] [b] pos) (mTest (mBin g ma mb)) := by
  obtain ⟨r, h1, h2⟩ := ho.ex
  obtain ⟨ta, a1, a2⟩ := ha.ex
  obtain ⟨tb, b1, b2⟩ := hb.ex
  exact ⟨_, pt_cmpR h1 a1 b1 hm, test_run (bin_run a2 b2 h2)⟩
/-- a op b op' c -/
def mChain (g g' : GOp) (ma mb mc : ME) : ME := fun E G => (ma E G).bind fun x G1 => (mb E G1).bind fun y G2 => (g G2 x y).bind fun z G3 =>
  match z with | .bl true => (mc E G3).bind fun w G4 => g' G4 y w | .bl false => .ok (.bl false) G3 | _ => .no
theorem chain_run {ta tb tc : TE} {ma mb mc : ME} {g g' : GOp} {r r' : R2}
    (ha : ∀ ρ E G σ H Q, ER X.K ρ H E σ → SR X.K ρ G H → Out X.K XP (VR X.K) σ ρ H (ma E G) Q → ta σ H Q)
    (hb : ∀ ρ E G σ H Q, ER X.K ρ H E σ → SR X.K ρ G H → Out X.K XP (VR X.K) σ ρ H (mb E G) Q → tb σ H Q)
    (hc : ∀ ρ E G σ H Q, ER X.K ρ H E σ → SR X.K ρ G H → Out X.K XP (VR X.K) σ ρ H (mc E G) Q → tc σ H Q)
    (hr : ∀ ρ G σ H x y v u Q, SR X.K ρ G H → VR X.K ρ H x v → VR X.K ρ H y u → Out X.K XP (VR X.K) σ ρ H (g G x y) Q → r v u H Q)
    (hr' : ∀ ρ G σ H x y v u Q, SR X.K ρ G H → VR X.K ρ H x v → VR X.K ρ H y u → Out X.K XP (VR X.K) σ ρ H (g' G x y) Q → r' v u H Q) :
    ∀ ρ E G σ H Q, ER X.K ρ H E σ → SR X.K ρ G H → Out X.K XP (VR X.K) σ ρ H (mChain g g' ma mb mc E G) Q → tChain r r' ta tb tc σ H Q := by
  intro ρ E G σ H Q er sr h
  refine ha ρ E G σ H _ er sr (h.bind fun x G1 ρ1 H1 v e1 s1 r1 h1 => ?_)
  refine hb ρ1 E G1 σ H1 _ (er.mono e1) s1 (h1.bind fun y G2 ρ2 H2 u e2 s2 r2 h2 => ?_)
  refine hr ρ2 G2 σ H2 x y v u _ s2 (r1.mono e2) r2 (h2.bind fun z G3 ρ3 H3 zv e3 s3 r3 h3 => ?_)
  cases r3 with
  | bl b =>
    cases b with
    | true =>
      refine ⟨true, rfl, ?_⟩
      rw [if_pos rfl]
      refine hc ρ3 E G3 σ H3 _ (er.mono (e1.trans (e2.trans e3))) s3 (h3.bind fun w' G4 ρ4 H4 wv e4 s4 r4 h4 => ?_)
      exact hr' ρ4 G4 σ H4 y w' u wv Q s4 (r2.mono (e3.trans e4)) r4 h4
    | false =>
      refine ⟨false, rfl, ?_⟩
      rw [if_neg Bool.false_ne_true]
      exact h3.ok s3 (.bl false)
  | _ => exact h3.elim
theorem he_chain {op op' : CmpOp} {a b c : Expr} {ma mb mc : ME} {g g' : GOp} (ho : OpG X XP (compareOp op) g) (ho' : OpG X XP (compareOp op') g') (ha : HE X XP a ma) (hb : HE X XP b mb) (hc : HE X XP c mc)
    (hm : lastMarks [op, op'] [b, c] = false := by with_unfolding_all rfl) : HE X XP (.Compare a [op, op'] [b, c] pos) (mChain g g' ma mb mc) := by
  obtain ⟨r, h1, h2⟩ := ho.ex
  obtain ⟨r', h1', h2'⟩ := ho'.ex
  obtain ⟨ta, a1, a2⟩ := ha.ex
  obtain ⟨tb, b1, b2⟩ := hb.ex
  obtain ⟨tc, c1, c2⟩ := hc.ex
  exact ⟨_, pe_chain h1 h1' a1 b1 c1 hm, chain_run a2 b2 c2 h2 h2'⟩
theorem ht_chain {op op' : CmpOp} {a b c : Expr} {ma mb mc : ME} {g g' : GOp} (ho : OpG X XP (compareOp op) g) (ho' : OpG X XP (compareOp op') g') (ha : HE X XP a ma) (hb : HE X XP b mb) (hc : HE X XP c mc)
    (hm : lastMarks [op, op'] [b, c] = false := by with_unfolding_all rfl) : HT X XP (.Compare a [op, op'] [b, c] pos) (mTest (mChain g g' ma mb mc)) := by
  obtain ⟨r, h1, h2⟩ := ho.ex
  obtain ⟨r', h1', h2'⟩ := ho'.ex
  obtain ⟨ta, a1, a2⟩ := ha.ex
  obtain ⟨tb, b1, b2⟩ := hb.ex
  obtain ⟨tc, c1, c2⟩ := hc.ex
  exact ⟨_, pt_chain h1 h1' a1 b1 c1 hm, test_run (chain_run a2 b2 c2 h2 h2')⟩

/-! ### truth -/
def truW (G : Cells) : W → Option Bool
  | .non => some false
  | .bl b => some b
  | .int i => some (i != 0)
  | .str y => if y.length ≤ sizeLine then some ((y.length : Int) != 0) else none
  | .tup ws => some (!ws.isEmpty)
  | .ref n => match G[n]? with
    | some (.lst ws) => some (!ws.isEmpty)
    | some (.rol ws) => some (!ws.isEmpty)
    | some (.dct kvs) => some (!kvs.isEmpty)
    | _ => none
  | .ty _ => none
  | .fn _ => none
theorem VRs.empty {K : Fg} {ρ : List Addr} {H : Hp} {ws : List W} {vs : List V} (h : VRs K ρ H ws vs) : ws.isEmpty = vs.isEmpty := by cases h <;> rfl
theorem tru_of {K : Fg} {ρ : List Addr} {G : Cells} {H : Hp} {w : W} {v : V} {b : Bool} (s : SR K ρ G H) (r : VR K ρ H w v) (h : truW G w = some b) : TruV K v H b := by
  cases r with
  | non => exact (Option.some.inj h).symm
  | bl k => exact (Option.some.inj h).symm
  | int i => exact (Option.some.inj h).symm
  | str y =>
    simp only [truW] at h
    split at h
    · rename_i hl
      exact ⟨hl, (Option.some.inj h).symm⟩
    · cases h
  | ty s => cases h
  | fn a => cases h
  | tup h1 h2 =>
    have e := (Option.some.inj h).symm
    exact .inr (.inl ⟨_, .of h1, by rw [e, h2.empty]⟩)
  | @ref n a h1 =>
    obtain ⟨c, hc⟩ := s.at h1
    have k := s.cell n c a hc h1
    simp only [truW, hc] at h
    cases c with
    | lst ws =>
      obtain ⟨vs, q1, q2⟩ := k
      have e := (Option.some.inj h).symm
      exact .inl ⟨vs, .of q1, by rw [e, q2.empty]⟩
    | rol ws =>
      obtain ⟨vs, q1, q2⟩ := k
      have e := (Option.some.inj h).symm
      refine .inl ⟨vs, ?_, by rw [e, q2.empty]⟩
      rcases q1 with ⟨o, q1⟩ | q1
      · exact .inl (.inr ⟨o, q1⟩)
      · exact .inr q1
    | dct kvs =>
      obtain ⟨vs, q1, q2⟩ := k
      have e := (Option.some.inj h).symm
      refine .inr (.inr ⟨vs, q1, ?_⟩)
      rw [e]
      cases q2 <;> rfl
    | tct kvs => cases h
    | lkd kvs => cases h
def mTru (m : ME) : MT := fun E G => (m E G).bind fun w G' => match truW G' w with | some b => .ok b G' | none => .no
theorem ht_truth {a : Expr} {m : ME} (ha : HE X XP a m) (he : ∀ whole, isTrue a X.env whole = (do let v ← whole; standAt a.pos; holding [v] (truthy v)) := by intro _; rfl) : HT X XP a (mTru m) := by
  obtain ⟨ta, a1, a2⟩ := ha.ex
  refine ⟨_, pt_truth a1 he, fun ρ E G σ H Q er sr q => a2 ρ E G σ H _ er sr (q.bind fun w G1 ρ1 H1 v e1 s1 r1 h1 => ?_)⟩
  split at h1
  · rename_i b hb
    exact ⟨b, tru_of s1 r1 hb, h1.ok s1 rfl⟩
  · exact h1.elim
def mNotT (m : MT) : MT := fun E G => (m E G).bind fun b G' => .ok (!b) G'
theorem ht_not {a : Expr} {m : MT} (ha : HT X XP a m) : HT X XP (.UnaryOp .Not a pos) (mNotT m) := by
  obtain ⟨ta, a1, a2⟩ := ha.ex
  exact ⟨_, pt_not a1, fun ρ E G σ H Q er sr q => a2 ρ E G σ H _ er sr (q.bind fun w G1 ρ1 H1 v e1 s1 r1 h1 => by cases r1; exact h1.ok s1 rfl)⟩
structure HW (X : Cx) (XP : Wish) (e : Expr) (m : MT) : Prop where
  ex : ∃ t, PW X e t ∧ ∀ ρ E G σ H Q, ER X.K ρ H E σ → SR X.K ρ G H → Out X.K XP BR σ ρ H (m E G) Q → t σ H Q
theorem HW.ht {e : Expr} {m : MT} (h : HW X XP e m) : HT X XP e m := by
  obtain ⟨t, h1, h2⟩ := h.ex
  exact ⟨t, h1.pt, h2⟩
def mAndT (ma mb : MT) : MT := fun E G => (ma E G).bind fun b G' => if b = true then mb E G' else .ok false G'
def mOrT (ma mb : MT) : MT := fun E G => (ma E G).bind fun b G' => if b = true then .ok true G' else mb E G'
theorem hw_and1 {a : Expr} {m : MT} (ha : HT X XP a m) : HW X XP (.BoolOp .And [a] pos) m := by
  obtain ⟨t, h1, h2⟩ := ha.ex
  exact ⟨_, pw_and1 h1, h2⟩
theorem hw_or1 {a : Expr} {m : MT} (ha : HT X XP a m) : HW X XP (.BoolOp .Or [a] pos) m := by
  obtain ⟨t, h1, h2⟩ := ha.ex
  exact ⟨_, pw_or1 h1, h2⟩
theorem hw_and {a b : Expr} {rest : List Expr} {ma mb : MT} (ha : HT X XP a ma) (hb : HW X XP (.BoolOp .And (b :: rest) pos) mb) : HW X XP (.BoolOp .And (a :: b :: rest) pos) (mAndT ma mb) := by
  obtain ⟨ta, a1, a2⟩ := ha.ex
  obtain ⟨tb, b1, b2⟩ := hb.ex
  refine ⟨_, pw_and a1 b1, fun ρ E G σ H Q er sr q => a2 ρ E G σ H _ er sr (q.bind fun w G1 ρ1 H1 v e1 s1 r1 h1 => ?_)⟩
  cases r1
  cases w with
  | true => rw [if_pos rfl]; exact b2 ρ1 E G1 σ H1 Q (er.mono e1) s1 (by simpa using h1)
  | false => rw [if_neg Bool.false_ne_true]; exact Out.ok (by simpa using h1) s1 rfl
theorem hw_or {a b : Expr} {rest : List Expr} {ma mb : MT} (ha : HT X XP a ma) (hb : HW X XP (.BoolOp .Or (b :: rest) pos) mb) : HW X XP (.BoolOp .Or (a :: b :: rest) pos) (mOrT ma mb) := by
  obtain ⟨ta, a1, a2⟩ := ha.ex
  obtain ⟨tb, b1, b2⟩ := hb.ex
  refine ⟨_, pw_or a1 b1, fun ρ E G σ H Q er sr q => a2 ρ E G σ H _ er sr (q.bind fun w G1 ρ1 H1 v e1 s1 r1 h1 => ?_)⟩
  cases r1
  cases w with
  | true => rw [if_pos rfl]; exact Out.ok (by simpa using h1) s1 rfl
  | false => rw [if_neg Bool.false_ne_true]; exact b2 ρ1 E G1 σ H1 Q (er.mono e1) s1 (by simpa using h1)
/-- x and y, x or y, not x as values -/
def mAnd (ma mb : ME) : ME := fun E G => (ma E G).bind fun w G' => match truW G' w with | some true => mb E G' | some false => .ok w G' | none => .no
def mOr (ma mb : ME) : ME := fun E G => (ma E G).bind fun w G' => match truW G' w with | some true => .ok w G' | some false => mb E G' | none => .no
def mNot (ma : ME) : ME := fun E G => (ma E G).bind fun w G' => match truW G' w with | some b => .ok (.bl (!b)) G' | none => .no
theorem he_one {op : BoolOp} {a : Expr} {m : ME} (ha : HE X XP a m) : HE X XP (.BoolOp op [a] pos) m := by
  obtain ⟨t, h1, h2⟩ := ha.ex
  exact ⟨_, pe_one h1, h2⟩
theorem he_and {a b : Expr} {rest : List Expr} {ma mb : ME} (ha : HE X XP a ma) (hb : HE X XP (.BoolOp .And (b :: rest) pos) mb) : HE X XP (.BoolOp .And (a :: b :: rest) pos) (mAnd ma mb) := by
  obtain ⟨ta, a1, a2⟩ := ha.ex
  obtain ⟨tb, b1, b2⟩ := hb.ex
  refine ⟨_, pe_andT a1 b1, fun ρ E G σ H Q er sr q => a2 ρ E G σ H _ er sr (q.bind fun w G1 ρ1 H1 v e1 s1 r1 h1 => ?_)⟩
  split at h1
  · rename_i hb; exact ⟨true, tru_of s1 r1 hb, by rw [if_pos rfl]; exact b2 ρ1 E G1 σ H1 Q (er.mono e1) s1 h1⟩
  · rename_i hb; exact ⟨false, tru_of s1 r1 hb, by rw [if_neg Bool.false_ne_true]; exact h1.ok s1 r1⟩
  · exact h1.elim
theorem he_or {a b : Expr} {rest : List Expr} {ma mb : ME} (ha : HE X XP a ma) (hb : HE X XP (.BoolOp .Or (b :: rest) pos) mb) : HE X XP (.BoolOp .Or (a :: b :: rest) pos) (mOr ma mb) := by
  obtain ⟨ta, a1, a2⟩ := ha.ex
  obtain ⟨tb, b1, b2⟩ := hb.ex
  refine ⟨_, pe_orT a1 b1, fun ρ E G σ H Q er sr q => a2 ρ E G σ H _ er sr (q.bind fun w G1 ρ1 H1 v e1 s1 r1 h1 => ?_)⟩
  split at h1
  · rename_i hb; exact ⟨true, tru_of s1 r1 hb, by rw [if_pos rfl]; exact h1.ok s1 r1⟩
  · rename_i hb; exact ⟨false, tru_of s1 r1 hb, by rw [if_neg Bool.false_ne_true]; exact b2 ρ1 E G1 σ H1 Q (er.mono e1) s1 h1⟩
  · exact h1.elim
theorem he_not {a : Expr} {ma : ME} (ha : HE X XP a ma) : HE X XP (.UnaryOp .Not a pos) (mNot ma) := by
  obtain ⟨ta, a1, a2⟩ := ha.ex
  refine ⟨_, pe_notT a1, fun ρ E G σ H Q er sr q => a2 ρ E G σ H _ er sr (q.bind fun w G1 ρ1 H1 v e1 s1 r1 h1 => ?_)⟩
  split at h1
  · rename_i b hb; exact ⟨b, tru_of s1 r1 hb, h1.ok s1 (.bl _)⟩
  · exact h1.elim
def mIf (t : MT) (ma mb : ME) : ME := fun E G => (t E G).bind fun b G' => if b = true then ma E G' else mb E G'
theorem he_if {c a b : Expr} {t : MT} {ma mb : ME} (hc : HT X XP c t) (ha : HE X XP a ma) (hb : HE X XP b mb) : HE X XP (.IfExp c a b pos) (mIf t ma mb) := by
  obtain ⟨tc, c1, c2⟩ := hc.ex
  obtain ⟨ta, a1, a2⟩ := ha.ex
  obtain ⟨tb, b1, b2⟩ := hb.ex
  refine ⟨_, pe_ifExp c1 a1 b1, fun ρ E G σ H Q er sr q => c2 ρ E G σ H _ er sr (q.bind fun w G1 ρ1 H1 v e1 s1 r1 h1 => ?_)⟩
  cases r1
  cases w with
  | true => rw [if_pos rfl]; exact a2 ρ1 E G1 σ H1 Q (er.mono e1) s1 (by simpa using h1)
  | false => rw [if_neg Bool.false_ne_true]; exact b2 ρ1 E G1 σ H1 Q (er.mono e1) s1 (by simpa using h1)
def mNeg (m : ME) : ME := fun E G => (m E G).bind fun w G' => match w with | .int i => .ok (.int (-i)) G' | _ => .no
theorem he_neg {a : Expr} {m : ME} (ha : HE X XP a m) : HE X XP (.UnaryOp .USub a pos) (mNeg m) := by
  obtain ⟨ta, a1, a2⟩ := ha.ex
  refine ⟨_, pe_un un_neg a1, fun ρ E G σ H Q er sr q => a2 ρ E G σ H _ er sr (q.bind fun w G1 ρ1 H1 v e1 s1 r1 h1 => ?_)⟩
  cases r1 <;> first | exact h1.elim | exact ⟨_, rfl, h1.ok s1 (.int _)⟩

/-! ### arguments, displays -/
def mNil : MA := fun _ G => .ok [] G
def mCons (ma : ME) (mr : MA) : MA := fun E G => (ma E G).bind fun w G1 => (mr E G1).bind fun ws G2 => .ok (w :: ws) G2
theorem ha_nil : HA X XP [] mNil := ⟨_, pa_nil, fun ρ E G σ H Q er sr q => q.ok sr .nil⟩
theorem ha_cons {e : Expr} {es : List Expr} {ma : ME} {mr : MA} (ha : HE X XP e ma) (hr : HA X XP es mr) (hs : starEach (e :: es) X.env = (false, eval e X.env) :: starEach es X.env := by rfl) : HA X XP (e :: es) (mCons ma mr) := by
  obtain ⟨ta, a1, a2⟩ := ha.ex
  obtain ⟨tr, r1, r2⟩ := hr.ex
  refine ⟨_, pa_cons a1 r1 hs, fun ρ E G σ H Q er sr q => a2 ρ E G σ H _ er sr (q.bind fun w G1 ρ1 H1 v e1 s1 q1 h1 => ?_)⟩
  exact r2 ρ1 E G1 σ H1 _ (er.mono e1) s1 (h1.bind fun ws G2 ρ2 H2 vs e2 s2 q2 h2 => h2.ok s2 (.cons (q1.mono e2) q2))
def mTup (m : MA) : ME := fun E G => (m E G).bind fun ws G' => if ws.length ≤ sizeLine then .ok (.tup ws) G' else .no
def mLst (m : MA) : ME := fun E G => (m E G).bind fun ws G' => if ws.length ≤ sizeLine then .ok (.ref G'.length) (G' ++ [.lst ws]) else .no
/-- a new tuple -/
theorem out_tup {Q : VK} {σ : St} {ρ : List Addr} {H : Hp} {G : Cells} {ws : List W} {vs : List V} {p : Addr} (h : Out X.K XP (VR X.K) σ ρ H (.ok (.tup ws) G) Q) (s : SR X.K ρ G H) (r : VRs X.K ρ H ws vs) (hp : H p = none) : Q (.ref p) (upd H p (.tup vs)) :=
  h ρ _ _ (ext_upd (.inl hp) fun _ _ h => h) (s.fresh hp) (.tup upd_same (r.mono (ext_upd (.inl hp) fun _ _ h => h)))
theorem last_get {α : Type} (l : List α) (x : α) : (l ++ [x])[l.length]? = some x := by simp
/-- a new list -/
theorem out_lst {Q : VK} {σ : St} {ρ : List Addr} {H : Hp} {G : Cells} {ws : List W} {vs : List V} {p : Addr} (h : Out X.K XP (VR X.K) σ ρ H (.ok (.ref G.length) (G ++ [.lst ws])) Q) (s : SR X.K ρ G H) (r : VRs X.K ρ H ws vs) (hp : H p = none) : Q (.ref p) (upd H p (.lst vs)) :=
  h (ρ ++ [p]) _ _ (ext_alloc hp) (s.alloc hp ⟨vs, upd_same, r.mono (ext_alloc hp)⟩) (.ref (by rw [← s.len]; exact last_get _ _))
theorem he_tup {es : List Expr} {m : MA} {x1} (h : HA X XP es m) : HE X XP (.Tuple es x1 pos) (mTup m) := by
  obtain ⟨t, h1, h2⟩ := h.ex
  refine ⟨_, pe_tup h1, fun ρ E G σ H Q er sr q => h2 ρ E G σ H _ er sr (q.bind fun ws G1 ρ1 H1 vs e1 s1 r1 k1 => ?_)⟩
  split at k1
  · rename_i hl
    exact ⟨by rw [← r1.length]; exact hl, fun p hp => out_tup k1 s1 r1 hp⟩
  · exact k1.elim
theorem he_lst {es : List Expr} {m : MA} (h : HA X XP es m) : HE X XP (.List es pos) (mLst m) := by
  obtain ⟨t, h1, h2⟩ := h.ex
  refine ⟨_, pe_lst h1, fun ρ E G σ H Q er sr q => h2 ρ E G σ H _ er sr (q.bind fun ws G1 ρ1 H1 vs e1 s1 r1 k1 => ?_)⟩
  split at k1
  · rename_i hl
    exact ⟨by rw [← r1.length]; exact hl, fun p hp => out_lst k1 s1 r1 hp⟩
  · exact k1.elim

/-! ### calls of built-ins by values -/
abbrev GCall := Cells → List W → Rs W
structure CaG (X : Cx) (XP : Wish) (f : Value) (g : GCall) : Prop where
  ex : ∃ r, CallR X f r ∧ ∀ ρ G σ H ws vs Q, SR X.K ρ G H → VRs X.K ρ H ws vs → Out X.K XP (VR X.K) σ ρ H (g G ws) Q → r vs H Q
def mCall (g : GCall) (m : MA) : ME := fun E G => (m E G).bind fun ws G' => g G' ws
theorem he_callB {x : Str} {p : Pos} {e : Expr} {es : List Expr} {id : String} {g : GCall} {m : MA} (hc : CaG X XP (.builtin id) g) (hg : Gl X x) (hm : X.mg x = none) (hv : bootBuiltins x = some (.builtin id)) (ha : HA X XP (e :: es) m) (hn : x ≠ "__name__" := by decide) (hdb : (x == ("__debug__" : Str)) = false := by decide)
    (he : starEach (e :: es) X.env = (false, eval e X.env) :: starEach es X.env := by rfl) (hpl : (backTo pos (starEach es X.env)).any (·.1) = false := by rfl) : HE X XP (.Call (.Name x p) (e :: es) [] pos) (mCall g m) := by
  obtain ⟨r, h1, h2⟩ := hc.ex
  obtain ⟨t, a1, a2⟩ := ha.ex
  exact ⟨_, pe_callB h1 hg hm hv a1 hn hdb he hpl, fun ρ E G σ H Q er sr q => a2 ρ E G σ H _ er sr (q.bind fun ws G1 ρ1 H1 vs e1 s1 q1 k1 => h2 ρ1 G1 σ H1 ws vs Q s1 q1 k1)⟩
theorem he_callTy {x : Str} {p : Pos} {e : Expr} {es : List Expr} {T : String} {g : GCall} {m : MA} (hc : CaG X XP (.type T) g) (hg : Gl X x) (hm : X.mg x = none) (hv : bootBuiltins x = some (.type T)) (ha : HA X XP (e :: es) m) (hn : x ≠ "__name__" := by decide) (hdb : (x == ("__debug__" : Str)) = false := by decide)
    (he : starEach (e :: es) X.env = (false, eval e X.env) :: starEach es X.env := by rfl) (hpl : (backTo pos (starEach es X.env)).any (·.1) = false := by rfl) : HE X XP (.Call (.Name x p) (e :: es) [] pos) (mCall g m) := by
  obtain ⟨r, h1, h2⟩ := hc.ex
  obtain ⟨t, a1, a2⟩ := ha.ex
  exact ⟨_, pe_callTy h1 hg hm hv a1 hn hdb he hpl, fun ρ E G σ H Q er sr q => a2 ρ E G σ H _ er sr (q.bind fun ws G1 ρ1 H1 vs e1 s1 q1 k1 => h2 ρ1 G1 σ H1 ws vs Q s1 q1 k1)⟩
end
end PL
/- part PLc -/
set_option maxHeartbeats 4000000
namespace PL
open PySem PySem.Spec PyProof.Rows L2
section
variable {X : Cx} {XP : Wish} {pos : Pos}

/-! ### what a reference holds -/
theorem cell_lst {K : Fg} {ρ : List Addr} {G : Cells} {H : Hp} {n : Nat} {a : Addr} {ws : List W} (s : SR K ρ G H) (h : ρ[n]? = some a) (e : G[n]? = some (.lst ws)) : ∃ vs, H a = some (.lst vs) ∧ VRs K ρ H ws vs := s.cell n _ a e h
theorem cell_dct {K : Fg} {ρ : List Addr} {G : Cells} {H : Hp} {n : Nat} {a : Addr} {kvs : List (Key × W)} (s : SR K ρ G H) (h : ρ[n]? = some a) (e : G[n]? = some (.dct kvs)) : ∃ q, H a = some (.dK q) ∧ KVR K ρ H kvs q := s.cell n _ a e h
theorem cell_tct {K : Fg} {ρ : List Addr} {G : Cells} {H : Hp} {n : Nat} {a : Addr} {kvs : List (List Key × W)} (s : SR K ρ G H) (h : ρ[n]? = some a) (e : G[n]? = some (.tct kvs)) : ∃ q, H a = some (.dT q) ∧ KVR K ρ H kvs q := s.cell n _ a e h
theorem cell_lkd {K : Fg} {ρ : List Addr} {G : Cells} {H : Hp} {n : Nat} {a : Addr} {kvs : List (Key × W)} (s : SR K ρ G H) (h : ρ[n]? = some a) (e : G[n]? = some (.lkd kvs)) : ∃ o q, H a = some (.frz o (.dK q)) ∧ KVR K ρ H kvs q := s.cell n _ a e h
/-- a list that is read -/
def rdL (G : Cells) (n : Nat) : Option (List W) := match G[n]? with
  | some (.lst ws) => some ws
  | some (.rol ws) => some ws
  | _ => none
theorem rdL_ok {K : Fg} {ρ : List Addr} {G : Cells} {H : Hp} {n : Nat} {a : Addr} {ws : List W} (s : SR K ρ G H) (h : ρ[n]? = some a) (e : rdL G n = some ws) : ∃ vs, SqL K H a vs ∧ VRs K ρ H ws vs := by
  unfold rdL at e
  split at e
  · rename_i hc; cases e
    obtain ⟨vs, h1, h2⟩ := s.cell n _ a hc h
    exact ⟨vs, .of h1, h2⟩
  · rename_i hc; cases e
    obtain ⟨vs, h1, h2⟩ := s.cell n _ a hc h
    refine ⟨vs, ?_, h2⟩
    rcases h1 with ⟨o, h1⟩ | h1
    · exact .inl (.inr ⟨o, h1⟩)
    · exact .inr h1
  · cases e
/-- what may be read item by item: a list, a tuple -/
def rdS (G : Cells) : W → Option (List W)
  | .tup ws => some ws
  | .ref n => rdL G n
  | _ => none
theorem rdS_ok {K : Fg} {ρ : List Addr} {G : Cells} {H : Hp} {w : W} {v : V} {ws : List W} (s : SR K ρ G H) (r : VR K ρ H w v) (e : rdS G w = some ws) : ∃ a vs, v = .ref a ∧ (SqL K H a vs ∨ SqT K H a vs) ∧ VRs K ρ H ws vs := by
  cases r with
  | tup h1 h2 => cases e; exact ⟨_, _, rfl, .inr (.of h1), h2⟩
  | ref h1 => obtain ⟨vs, q1, q2⟩ := rdL_ok s h1 e; exact ⟨_, vs, rfl, .inl q1, q2⟩
  | _ => cases e

/-! ### arithmetic -/
def addW : GOp := fun G x y => match x, y with
  | .int i, .int j => .ok (.int (i + j)) G
  | .int i, .bl k => .ok (.int (i + b2i k)) G
  | .str i, .str j => if i.length + j.length ≤ sizeLine then .ok (.str (i ++ j)) G else .no
  | .tup xs, .tup ys => if xs.length + ys.length ≤ sizeLine then .ok (.tup (xs ++ ys)) G else .no
  | .ref n, .ref m => match G[n]?, G[m]? with
    | some (.lst xs), some (.lst ys) => if xs.length + ys.length ≤ sizeLine then .ok (.ref G.length) (G ++ [.lst (xs ++ ys)]) else .no
    | _, _ => .no
  | _, _ => .no
theorem og_add : OpG X XP (binaryOp .Add) addW := by
  refine ⟨_, op_add.or (op_add_ib.or (op_add_str.or (op_catA.or op_cat))), fun ρ G σ H x y v u Q s rx ry h => ?_⟩
  unfold addW at h
  split at h
  · cases rx; cases ry
    exact .inl ⟨_, _, rfl, rfl, h.ok s (.int _)⟩
  · cases rx; cases ry
    exact .inr (.inl ⟨_, _, rfl, rfl, h.ok s (.int _)⟩)
  · cases rx; cases ry
    split at h
    · rename_i hl; exact .inr (.inr (.inl ⟨_, _, rfl, rfl, hl, h.ok s (.str _)⟩))
    · exact h.elim
  · cases rx with
    | tup a1 a2 =>
      cases ry with
      | tup b1 b2 =>
        split at h
        · rename_i hl
          refine .inr (.inr (.inr (.inl ⟨_, _, _, _, rfl, rfl, .of a1, .of b1, by rw [← a2.length, ← b2.length]; exact hl, fun e => ?_, fun _ e => ?_, fun _ _ p hp => out_tup h s (a2.append b2) hp⟩)))
          · subst e; cases a2; exact h.ok s (.tup b1 b2)
          · subst e; cases b2; exact h.ok s (.tup a1 (by rw [List.append_nil]; exact a2))
        · exact h.elim
  · cases rx with
    | ref a1 =>
      cases ry with
      | ref b1 =>
        split at h
        · rename_i xs ys e1 e2
          split at h
          · rename_i hl
            obtain ⟨vs, q1, q2⟩ := cell_lst s a1 e1
            obtain ⟨us, k1, k2⟩ := cell_lst s b1 e2
            exact .inr (.inr (.inr (.inr ⟨_, _, _, _, rfl, rfl, q1, k1, by rw [← q2.length, ← k2.length]; exact hl, fun p hp => out_lst h s (q2.append k2) hp⟩)))
          · exact h.elim
        · exact h.elim
  · exact h.elim
def subW : GOp := fun G x y => match x, y with
  | .int i, .int j => .ok (.int (i - j)) G
  | _, _ => .no
theorem og_sub : OpG X XP (binaryOp .Sub) subW := by
  refine ⟨_, op_sub, fun ρ G σ H x y v u Q s rx ry h => ?_⟩
  unfold subW at h
  split at h
  · cases rx; cases ry; exact ⟨_, _, rfl, rfl, h.ok s (.int _)⟩
  · exact h.elim
def mulOk (i j : Int) : Bool := (decide (-(2 ^ 64) < i) && decide (i < 2 ^ 64)) || (decide (-(2 ^ 64) < j) && decide (j < 2 ^ 64))
theorem mulOk_c {i j : Int} (h : mulOk i j = true) : CMul i j := by
  unfold mulOk at h
  simp only [Bool.or_eq_true, Bool.and_eq_true, decide_eq_true_eq] at h
  exact h
/-- t * 1 -/
theorem tuple_mul_one (l : Addr) (items : Array Value) (n : Nat) (dd : Option Addr) (sl : Array (Option Value)) (x : Int) (u : Tok) (c0 : (decide (x < -(2 ^ 63)) || decide (x ≥ 2 ^ 63)) = false) (c1 : (items.isEmpty || x == 1) = true) :
    Meets (Builtin.«tuple.__mul__» ⟨[.ref l, .int x u], []⟩) (fun _ R s => s.heap.get? l = some { cls := .type "tuple", dict := dd, data := .seq items n, slots := sl } ∧ R (.ok (.ret (Value.ref l))) s) :=
  .of_wp fun prog w A R s h => by
    obtain ⟨hp, g, d, tk, os⟩ := s
    obtain ⟨hl, h⟩ := h
    have f1 := AutoSeq1.idx_int
    wp_walk using wpAny_loadPart' hl
    all_goals repeat (first
      | (refine wpAny_ite_false (decide_eq_false (by rw [c0]; exact Bool.false_ne_true)) ?_; wp_walk using wpAny_loadPart' hl)
      | (refine wpAny_ite_true (decide_eq_true c1) ?_; wp_walk using wpAny_loadPart' hl))
    exact ⟨_, rfl, h⟩
def rRep1 (K : Fg) : R2 := fun x y H Q => ∃ l k xs, x = .ref l ∧ y = .int k ∧ SqT K H l xs ∧ (xs = [] ∨ k = 1) ∧ -(2 ^ 62) ≤ k ∧ k ≤ 2 ^ 62 ∧ Q (.ref l) H
theorem op_rep1 : OpR X (binaryOp .Mult) (rRep1 X.K) := by
  intro pins s σ H x y v u Q I rx ry h
  obtain ⟨l, k, xs, rfl, rfl, hT, hk, k1, k2, q⟩ := h
  cases rx
  obtain ⟨t, rfl⟩ := ry
  obtain ⟨its, r, ⟨⟨cls, dd, data, sl⟩, ho, hc, n, hd⟩, hs⟩ := I.tuple hT
  simp only at hc hd
  subst hc hd
  have c0 : (decide (k < -(2 ^ 63)) || decide (k ≥ 2 ^ 63)) = false := by
    rw [decide_eq_false (by omega), decide_eq_false (by omega)] <;> rfl
  have c1 : (its.toArray.isEmpty || k == 1) = true := by
    rcases hk with e | e
    · subst e; cases r; rfl
    · subst e; simp
  exact wpAny_binaryOp_repeat_ref (T := "tuple") (U := "int") (by decide) ⟨_, ho, rfl⟩ (fun s' => typeIs_int s' k t) noFill_tuple_mul F.fills_int_mul F.slot_int_rmul repeat_tuple F.slot_int_index.lookup
    (call_meets F.slot_int_rmul (typeIs_int s k t) F.entry_int_rmul (F.args_int_rmul_2 _ _) (int_rmul_tuple k t l its.toArray n dd sl)
      ⟨ho, rfl, ⟨_, ho, rfl⟩, call_meets F.slot_tuple_mul ⟨_, ho, rfl⟩ F.entry_tuple_mul (F.args_tuple_mul_2 _ _) (tuple_mul_one l its.toArray n dd sl k t c0 c1) ⟨ho, .ref l, H, I, rfl, q⟩⟩)
def mulW : GOp := fun G x y => match x, y with
  | .int i, .int j => if mulOk i j = true then .ok (.int (i * j)) G else .no
  | .tup xs, .int k =>
    if (xs.isEmpty || k == 1) && decide (-(2 ^ 62) ≤ k) && decide (k ≤ 2 ^ 62) then .ok (.tup xs) G
    else if !xs.isEmpty && decide (2 ≤ k) && decide (k ≤ 1000) && decide (xs.length ≤ 1000) then .ok (.tup (List.replicate k.toNat xs).flatten) G
    else .no
  | .ref n, .int k => match G[n]? with
    | some (.lst xs) => if decide (-(2 ^ 63) ≤ k) && decide (k < 2 ^ 63) && decide (xs.length * k.toNat ≤ sizeLine) then .ok (.ref G.length) (G ++ [.lst (List.replicate k.toNat xs).flatten]) else .no
    | _ => .no
  | _, _ => .no
theorem og_mul : OpG X XP (binaryOp .Mult) mulW := by
  refine ⟨_, op_mul.or (op_rep1.or (op_repT.or op_rep)), fun ρ G σ H x y v u Q s rx ry h => ?_⟩
  unfold mulW at h
  split at h
  · cases rx; cases ry
    split at h
    · rename_i hm; exact .inl ⟨_, _, rfl, rfl, mulOk_c hm, h.ok s (.int _)⟩
    · exact h.elim
  · cases rx with
    | tup a1 a2 =>
      cases ry
      split at h
      · rename_i hc
        simp only [Bool.and_eq_true, Bool.or_eq_true, decide_eq_true_eq, List.isEmpty_iff, beq_iff_eq] at hc
        refine .inr (.inl ⟨_, _, _, rfl, rfl, .of a1, ?_, hc.1.2, hc.2, h.ok s (.tup a1 a2)⟩)
        rcases hc.1.1 with e | e
        · subst e; cases a2; exact .inl rfl
        · exact .inr e
      · split at h
        · rename_i hc
          simp only [Bool.and_eq_true, Bool.not_eq_true', decide_eq_true_eq] at hc
          have hl := a2.length
          refine .inr (.inr (.inl ⟨_, _, _, rfl, rfl, .of a1, fun e => ?_, hc.1.1.2, hc.1.2, by omega, fun p hp => out_tup h s (a2.rep _) hp⟩))
          subst e; cases a2; exact absurd hc.1.1.1 (by decide)
        · exact h.elim
  · cases rx with
    | ref a1 =>
      cases ry
      split at h
      · rename_i xs e1
        split at h
        · rename_i hc
          simp only [Bool.and_eq_true, decide_eq_true_eq] at hc
          obtain ⟨vs, q1, q2⟩ := cell_lst s a1 e1
          exact .inr (.inr (.inr ⟨_, _, _, rfl, rfl, q1, hc.1.1, hc.1.2, by rw [← q2.length]; exact hc.2, fun p hp => out_lst h s (q2.rep _) hp⟩))
        · exact h.elim
      · exact h.elim
  · exact h.elim
def modW : GOp := fun G x y => match x, y with
  | .int i, .int j => if 0 < j then .ok (.int (i % j)) G else .no
  | _, _ => .no
theorem og_mod : OpG X XP (binaryOp .Mod) modW := by
  refine ⟨_, op_mod, fun ρ G σ H x y v u Q s rx ry h => ?_⟩
  unfold modW at h
  split at h
  · cases rx; cases ry
    split at h
    · rename_i hj; exact ⟨_, _, rfl, rfl, hj, h.ok s (.int _)⟩
    · exact h.elim
  · exact h.elim
def fdivW : GOp := fun G x y => match x, y with
  | .int i, .int j => if 0 < j ∧ j < 1073741824 then .ok (.int (i / j)) G else .no
  | _, _ => .no
theorem og_fdiv : OpG X XP (binaryOp .FloorDiv) fdivW := by
  refine ⟨_, op_fdiv, fun ρ G σ H x y v u Q s rx ry h => ?_⟩
  unfold fdivW at h
  split at h
  · cases rx; cases ry
    split at h
    · rename_i hj; exact ⟨_, _, rfl, rfl, hj, h.ok s (.int _)⟩
    · exact h.elim
  · exact h.elim
def powW : GOp := fun G x y => match x, y with
  | .int i, .int j => if 0 ≤ j ∧ j ≤ 1000000 ∧ i.natAbs < 2 ^ 64 then .ok (.int (i ^ j.toNat)) G else .no
  | _, _ => .no
theorem og_pow : OpG X XP (binaryOp .Pow) powW := by
  refine ⟨_, op_pow, fun ρ G σ H x y v u Q s rx ry h => ?_⟩
  unfold powW at h
  split at h
  · cases rx; cases ry
    split at h
    · rename_i hj; exact ⟨_, _, rfl, rfl, hj, h.ok s (.int _)⟩
    · exact h.elim
  · exact h.elim
/-- comparisons of ints -/
def cmpI (p : Int → Int → Bool) : GOp := fun G x y => match x, y with
  | .int i, .int j => .ok (.bl (p i j)) G
  | _, _ => .no
theorem og_cmpI {f : Value → Value → Sem Value} {p : Int → Int → Bool} (h0 : OpR X f (rI0 fun i j => .bl (p i j))) : OpG X XP f (cmpI p) := by
  refine ⟨_, h0, fun ρ G σ H x y v u Q s rx ry h => ?_⟩
  unfold cmpI at h
  split at h
  · cases rx; cases ry; exact ⟨_, _, rfl, rfl, h.ok s (.bl _)⟩
  · exact h.elim
abbrev ltW := cmpI fun i j => decide (i < j)
abbrev leW := cmpI fun i j => decide (i ≤ j)
abbrev gtW := cmpI fun i j => decide (j < i)
abbrev geW := cmpI fun i j => decide (j ≤ i)
theorem og_lt : OpG X XP (compareOp .Lt) ltW := og_cmpI op_lt
theorem og_le : OpG X XP (compareOp .LtE) leW := og_cmpI op_le
theorem og_gt : OpG X XP (compareOp .Gt) gtW := og_cmpI op_gt
theorem og_ge : OpG X XP (compareOp .GtE) geW := og_cmpI op_ge
/-- is None -/
def W.isNone : W → Bool
  | .non => true
  | _ => false
def isW (neg : Bool) : GOp := fun G x y => match y with
  | .non => .ok (.bl (if neg then !x.isNone else x.isNone)) G
  | _ => .no
theorem isNone_v {K : Fg} {ρ : List Addr} {H : Hp} {x : W} {v : V} (r : VR K ρ H x v) : decide (v = .non) = x.isNone := by
  cases r <;> simp [W.isNone]
theorem og_is : OpG X XP (compareOp .Is) (isW false) := by
  refine ⟨_, op_isN, fun ρ G σ H x y v u Q s rx ry h => ?_⟩
  unfold isW at h
  split at h
  · cases ry
    refine ⟨rfl, ?_⟩
    rw [isNone_v rx]
    exact h.ok s (.bl _)
  · exact h.elim
theorem og_isnot : OpG X XP (compareOp .IsNot) (isW true) := by
  refine ⟨_, op_notN, fun ρ G σ H x y v u Q s rx ry h => ?_⟩
  unfold isW at h
  split at h
  · cases ry
    refine ⟨rfl, ?_⟩
    rw [isNone_v rx]
    exact h.ok s (.bl _)
  · exact h.elim

end
end PL
/- part PLd -/
set_option maxHeartbeats 4000000
namespace PL
open PySem PySem.Spec PyProof.Rows L2
section
variable {X : Cx} {XP : Wish} {pos : Pos}

/-! ### dicts -/
section
variable {κ : Type} [DecidableEq κ]
def valW (kvs : List (κ × W)) (k : κ) : Option W := (kvs.find? fun kv => decide (kv.1 = k)).map (·.2)
def putW (kvs : List (κ × W)) (k : κ) (v : W) : List (κ × W) :=
  if (kvs.any fun kv => decide (kv.1 = k)) = true then kvs.map (fun kv => if kv.1 = k then (kv.1, v) else kv) else kvs ++ [(k, v)]
end
def keyW : W → Option Key
  | .int i => some (.inl i)
  | .str x => some (.inr x)
  | _ => none
theorem keyW_ok {K : Fg} {ρ : List Addr} {H : Hp} {w : W} {v : V} {k : Key} (r : VR K ρ H w v) (e : keyW w = some k) : v = kV k := by
  cases r <;> first | (cases e; done) | (cases e; rfl)
def keysL : List W → Option (List Key)
  | [] => some []
  | w :: ws => match keyW w, keysL ws with
    | some k, some r => some (k :: r)
    | _, _ => none
def tkW : W → Option (List Key)
  | .tup ws => keysL ws
  | _ => none
theorem keysL_ok {K : Fg} {ρ : List Addr} {H : Hp} : ∀ {ws : List W} {vs : List V} {ks : List Key}, VRs K ρ H ws vs → keysL ws = some ks → vs = ks.map kV
  | _, _, _, .nil, h => by cases h; rfl
  | _, _, _, .cons (w := w) (ws := ws) r rr, h => by
    simp only [keysL] at h
    cases hw : keyW w with
    | none => rw [hw] at h; cases h
    | some k =>
      cases hr : keysL ws with
      | none => rw [hw, hr] at h; cases h
      | some q =>
        rw [hw, hr] at h
        cases h
        rw [List.map_cons, keyW_ok r hw, keysL_ok rr hr]
theorem tkW_ok {K : Fg} {ρ : List Addr} {H : Hp} {w : W} {v : V} {ks : List Key} (r : VR K ρ H w v) (e : tkW w = some ks) : ∃ b, v = .ref b ∧ H b = some (.tup (ks.map kV)) := by
  cases r with
  | tup h1 h2 => exact ⟨_, rfl, by rw [← keysL_ok h2 e]; exact h1⟩
  | _ => cases e
section
variable {κ : Type} [DecidableEq κ] {K : Fg} {ρ : List Addr} {H : Hp}
theorem valW_pos {k : κ} {w : W} {r : List (κ × W)} : valW ((k, w) :: r) k = some w := by simp [valW, List.find?_cons]
theorem valW_neg {k k' : κ} {w : W} {r : List (κ × W)} (e : ¬ k' = k) : valW ((k', w) :: r) k = valW r k := by simp [valW, List.find?_cons, e]
theorem KVR.val {k : κ} : ∀ {r : List (κ × W)} {q : List (κ × V)} {w : W}, KVR K ρ H r q → valW r k = some w → ∃ v, valV q k = some v ∧ VR K ρ H w v
  | _, _, _, .nil, h => by cases h
  | _, _, w, .cons (k := k') (w := w0) (v := v0) h t, e => by
    by_cases ek : k' = k
    · subst ek
      rw [valW_pos] at e
      cases e
      exact ⟨v0, valV_pos (p := (k', v0)) rfl, h⟩
    · rw [valW_neg ek] at e
      obtain ⟨v, e1, e2⟩ := KVR.val t e
      exact ⟨v, by rw [valV_neg (p := (k', v0)) ek]; exact e1, e2⟩
theorem KVR.val_none {k : κ} : ∀ {r : List (κ × W)} {q : List (κ × V)}, KVR K ρ H r q → valW r k = none → valV q k = none
  | _, _, .nil, h => rfl
  | _, _, .cons (k := k') (w := w0) (v := v0) h t, e => by
    by_cases ek : k' = k
    · subst ek
      rw [valW_pos] at e
      cases e
    · rw [valW_neg ek] at e
      rw [valV_neg (p := (k', v0)) ek]; exact KVR.val_none t e
theorem KVR.any {k : κ} : ∀ {r : List (κ × W)} {q : List (κ × V)}, KVR K ρ H r q → (r.any fun kv => decide (kv.1 = k)) = (q.any fun kv => decide (kv.1 = k))
  | _, _, .nil => rfl
  | _, _, .cons h t => by simp only [List.any_cons, KVR.any t]
theorem KVR.map {k : κ} {w : W} {v : V} (hv : VR K ρ H w v) : ∀ {r : List (κ × W)} {q : List (κ × V)}, KVR K ρ H r q → KVR K ρ H (r.map (fun kv => if kv.1 = k then (kv.1, w) else kv)) (q.map (fun kv => if kv.1 = k then (kv.1, v) else kv))
  | _, _, .nil => .nil
  | _, _, .cons (k := k') h t => by
    rw [List.map_cons, List.map_cons]
    by_cases ek : k' = k
    · simp only [ek, if_true]; exact .cons hv (by simpa only [ek] using KVR.map hv t)
    · simp only [ek, if_false]; exact .cons h (KVR.map hv t)
theorem KVR.app : ∀ {r r' : List (κ × W)} {q q' : List (κ × V)}, KVR K ρ H r q → KVR K ρ H r' q' → KVR K ρ H (r ++ r') (q ++ q')
  | _, _, _, _, .nil, s => s
  | _, _, _, _, .cons h t, s => .cons h (KVR.app t s)
theorem KVR.put {k : κ} {w : W} {v : V} {r : List (κ × W)} {q : List (κ × V)} (h : KVR K ρ H r q) (hv : VR K ρ H w v) : KVR K ρ H (putW r k w) (putK q k v) := by
  unfold putW putK
  rw [h.any (k := k)]
  split
  · exact h.map hv
  · exact h.app (.cons hv .nil)
theorem KVR.length : ∀ {r : List (κ × W)} {q : List (κ × V)}, KVR K ρ H r q → r.length = q.length
  | _, _, .nil => rfl
  | _, _, .cons _ t => by rw [List.length_cons, List.length_cons, t.length]
end

/-! ### subscripts -/
theorem VRs.atI {K : Fg} {ρ : List Addr} {H : Hp} {ws : List W} {vs : List V} {i : Int} {w : W} (h : VRs K ρ H ws vs) (e : L2.atI ws i = some w) : ∃ v, L2.atI vs i = some v ∧ VR K ρ H w v := by
  unfold L2.atI at e ⊢
  rw [← h.length]
  cases q : ixN ws.length i with
  | none => rw [q] at e; cases e
  | some j =>
    rw [q] at e
    obtain ⟨v, e1, e2⟩ := h.get (i := j) e
    exact ⟨v, e1, e2⟩
def rIxD : R2 := fun x y H Q => ∃ a v, x = .ref a ∧ DGet H a y (some v) ∧ Q v H
theorem ix_dict (hu : X.A.units + 1 < cLine) : IxR X rIxD := by
  intro value slice pins s σ H x y v u Q I rx ry h hs
  obtain ⟨a, z, rfl, g, q⟩ := h
  cases rx
  exact tail_any (dict_typeIs I g) PySem.F.slot_dict_getitem.lookup (d_getItem hu I g ry fun w' s3 I3 rw' => ⟨z, H, I3, rw', q⟩) hs
def getW : GOp := fun G x y => match x, y with
  | .tup ws, .int i => match L2.atI ws i with | some w => .ok w G | none => .no
  | .str z, .int i => if z.length ≤ sizeLine then (match L2.atI z.cps.toList i with | some c => .ok (.str ⟨#[c]⟩) G | none => .no) else .no
  | .ref n, k => match G[n]? with
    | some (.dct kvs) => (match keyW k with | some k => (match valW kvs k with | some w => .ok w G | none => .no) | none => .no)
    | some (.lkd kvs) => (match keyW k with | some k => (match valW kvs k with | some w => .ok w G | none => .no) | none => .no)
    | some (.lst ws) => (match k with | .int i => (match L2.atI ws i with | some w => .ok w G | none => .no) | _ => .no)
    | some (.rol ws) => (match k with | .int i => (match L2.atI ws i with | some w => .ok w G | none => .no) | _ => .no)
    | _ => .no
  | _, _ => .no
structure IxG (X : Cx) (XP : Wish) (g : GOp) : Prop where
  ex : ∃ r, IxR X r ∧ ∀ ρ G σ H x y v u Q, SR X.K ρ G H → VR X.K ρ H x v → VR X.K ρ H y u → Out X.K XP (VR X.K) σ ρ H (g G x y) Q → r v u H Q
theorem ig_get (hu : X.A.units + 1 < cLine) : IxG X XP getW := by
  refine ⟨_, ix_seq.or (ix_dict hu), fun ρ G σ H x y v u Q s rx ry h => ?_⟩
  unfold getW at h
  split at h
  · cases rx with
    | tup a1 a2 =>
      cases ry
      split at h
      · rename_i w hw
        obtain ⟨z, e1, e2⟩ := a2.atI hw
        exact .inl (.inr (.inl ⟨_, _, _, z, rfl, rfl, .of a1, e1, h.ok s e2⟩))
      · exact h.elim
  · cases rx; cases ry
    split at h
    · rename_i hl
      split at h
      · rename_i c hc
        exact .inl (.inr (.inr ⟨_, _, c, rfl, rfl, hl, hc, h.ok s (.str _)⟩))
      · exact h.elim
    · exact h.elim
  · cases rx with
    | ref a1 =>
      split at h
      · rename_i kvs hk
        obtain ⟨q, e1, e2⟩ := cell_dct s a1 hk
        split at h
        · rename_i k ek
          have := keyW_ok ry ek
          subst this
          split at h
          · rename_i w hw
            obtain ⟨z, f1, f2⟩ := e2.val hw
            exact .inr ⟨_, z, rfl, .inl ⟨q, k, .inl e1, rfl, f1.symm⟩, h.ok s f2⟩
          · exact h.elim
        · exact h.elim
      · rename_i kvs hk
        obtain ⟨o, q, e1, e2⟩ := cell_lkd s a1 hk
        split at h
        · rename_i k ek
          have := keyW_ok ry ek
          subst this
          split at h
          · rename_i w hw
            obtain ⟨z, f1, f2⟩ := e2.val hw
            exact .inr ⟨_, z, rfl, .inl ⟨q, k, .inr ⟨o, e1⟩, rfl, f1.symm⟩, h.ok s f2⟩
          · exact h.elim
        · exact h.elim
      · rename_i ws hk
        obtain ⟨q, e1, e2⟩ := rdL_ok s a1 (show rdL G _ = some ws by unfold rdL; rw [hk])
        split at h
        · cases ry
          split at h
          · rename_i w hw
            obtain ⟨z, f1, f2⟩ := e2.atI hw
            exact .inl (.inl ⟨_, _, _, z, rfl, rfl, e1, f1, h.ok s f2⟩)
          · exact h.elim
        · exact h.elim
      · rename_i ws hk
        obtain ⟨q, e1, e2⟩ := rdL_ok s a1 (show rdL G _ = some ws by unfold rdL; rw [hk])
        split at h
        · cases ry
          split at h
          · rename_i w hw
            obtain ⟨z, f1, f2⟩ := e2.atI hw
            exact .inl (.inl ⟨_, _, _, z, rfl, rfl, e1, f1, h.ok s f2⟩)
          · exact h.elim
        · exact h.elim
      · exact h.elim
  · exact h.elim
theorem he_ix {a b : Expr} {ma mb : ME} (hu : X.A.units + 1 < cLine) (ha : HE X XP a ma) (hb : HE X XP b mb) (hs : PlainIx b) : HE X XP (.Subscript a b pos) (mBin getW ma mb) := by
  obtain ⟨r, h1, h2⟩ := (ig_get (X := X) (XP := XP) hu).ex
  obtain ⟨ta, a1, a2⟩ := ha.ex
  obtain ⟨tb, b1, b2⟩ := hb.ex
  exact ⟨_, pe_ix h1 a1 b1 hs, bin_run a2 b2 h2⟩

/-! ### slices -/
def cutW (xs : List W) (lo hi : Option Int) : List W := (xs.drop (HT.sIx xs.length 0 lo)).take (HT.sIx xs.length xs.length hi - HT.sIx xs.length 0 lo)
theorem VRs.cut {K : Fg} {ρ : List Addr} {H : Hp} {ws : List W} {vs : List V} {lo hi : Option Int} (h : VRs K ρ H ws vs) : VRs K ρ H (cutW ws lo hi) (cutV vs lo hi) := by
  unfold cutW cutV
  rw [h.length]
  exact (h.drop _).take _
abbrev MO := PEnv → Cells → Rs (Option Int)
def OR : List Addr → Hp → Option Int → Option Int → Prop := fun _ _ a b => a = b
structure HO' (X : Cx) (XP : Wish) (e : Option Expr) (m : MO) : Prop where
  ex : ∃ t, PO X e t ∧ ∀ ρ E G σ H Q, ER X.K ρ H E σ → SR X.K ρ G H → Out X.K XP OR σ ρ H (m E G) Q → t σ H Q
def mNoPart : MO := fun _ G => .ok none G
def mPart (m : ME) : MO := fun E G => (m E G).bind fun w G' => match w with | .int i => .ok (some i) G' | _ => .no
theorem ho_none : HO' X XP none mNoPart := ⟨_, po_none, fun ρ E G σ H Q er sr q => q.ok sr rfl⟩
theorem ho_some {e : Expr} {m : ME} (h : HE X XP e m) : HO' X XP (some e) (mPart m) := by
  obtain ⟨t, h1, h2⟩ := h.ex
  refine ⟨_, po_some h1, fun ρ E G σ H Q er sr q => h2 ρ E G σ H _ er sr (q.bind fun w G1 ρ1 H1 v e1 s1 r1 k1 => ?_)⟩
  cases r1 <;> first | exact k1.elim | exact ⟨_, rfl, k1.ok s1 rfl⟩
def cutOp (G : Cells) (x : W) (lo hi : Option Int) : Rs W := match x with
  | .tup ws => .ok (.tup (cutW ws lo hi)) G
  | .str z => if z.length ≤ sizeLine then .ok (.str (cutS z lo hi)) G else .no
  | .ref n => match rdL G n with
    | some ws => .ok (.ref G.length) (G ++ [.lst (cutW ws lo hi)])
    | none => .no
  | _ => .no
def mCut (ma : ME) (ml mh : MO) : ME := fun E G => (ma E G).bind fun x G1 => (ml E G1).bind fun lo G2 => (mh E G2).bind fun hi G3 => cutOp G3 x lo hi
theorem cut_whole (ws : List W) (lo hi : Option Int) (h : HT.sIx ws.length 0 lo = 0 ∧ HT.sIx ws.length ws.length hi = ws.length) : cutW ws lo hi = ws := by
  unfold cutW
  rw [h.1, h.2]; simp
theorem he_cut {a : Expr} {lo hi : Option Expr} {ma : ME} {ml mh : MO} {p2 : Pos} (ha : HE X XP a ma) (hl : HO' X XP lo ml) (hh : HO' X XP hi mh) : HE X XP (.Subscript a (.Slice lo hi none p2) pos) (mCut ma ml mh) := by
  obtain ⟨ta, a1, a2⟩ := ha.ex
  obtain ⟨tl, l1, l2⟩ := hl.ex
  obtain ⟨th, g1, g2⟩ := hh.ex
  refine ⟨_, pe_slice (sl_list.or (sl_tupA.or sl_str)) a1 l1 g1, fun ρ E G σ H Q er sr q => a2 ρ E G σ H _ er sr (q.bind fun x G1 ρ1 H1 v e1 s1 r1 k1 => ?_)⟩
  refine l2 ρ1 E G1 σ H1 _ (er.mono e1) s1 (k1.bind fun lo G2 ρ2 H2 lo' e2 s2 r2 k2 => ?_)
  refine g2 ρ2 E G2 σ H2 _ (er.mono (e1.trans e2)) s2 (k2.bind fun hi G3 ρ3 H3 hi' e3 s3 r3 k3 => ?_)
  cases r2; cases r3
  have r := r1.mono (e2.trans e3)
  unfold cutOp at k3
  split at k3
  · cases r with
    | tup b1 b2 =>
      refine .inr (.inl ⟨_, _, rfl, .of b1, fun hw => ?_, fun hw p hp => out_tup k3 s3 b2.cut hp⟩)
      rw [← b2.length] at hw
      rw [cut_whole _ _ _ hw] at k3
      exact k3.ok s3 (.tup b1 b2)
  · cases r
    split at k3
    · rename_i hz; exact .inr (.inr ⟨_, rfl, hz, k3.ok s3 (.str _)⟩)
    · exact k3.elim
  · cases r with
    | ref b1 =>
      split at k3
      · rename_i ws hw
        obtain ⟨vs, q1, q2⟩ := rdL_ok s3 b1 hw
        exact .inl ⟨_, _, rfl, q1, fun p hp => out_lst k3 s3 q2.cut hp⟩
      · exact k3.elim
  · exact k3.elim

end
end PL
/- part PLe -/
set_option maxHeartbeats 4000000
namespace PL
open PySem PySem.Spec PyProof.Rows L2
/-! ### enumerate of a tuple -/
theorem enum_new1 {v : Value} {ob : Obj} {HH : Heap → Prop} (B : Begins v ob HH) :
    Meets (Builtin.«enumerate.__new__» ⟨[.type "enumerate", v], []⟩) (fun _ R st => HH st.heap ∧
      R (.ok (.ret (.ref (st.heap.push ob).objs.size))) { st with heap := (st.heap.push ob).push { cls := .type "enumerate", data := .fields #[.none, .bool false, .ref st.heap.objs.size, rawInt 0, .none, .none] } }) :=
  .of_wp fun prog w A R st hst => by
    obtain ⟨hp1, gn, dr, tks, osx⟩ := st
    obtain ⟨hb, hr⟩ := hst
    have hsubE := sub_enumerate
    have itB : ∀ {A' : Around} {E : Value → Shared → Prop} {Q : Value → Shared → Prop}, Q (.ref hp1.objs.size) ⟨hp1.push ob, gn, dr, tks, osx⟩ → wpAny (model prog w) A' (pyIter v) Q E ⟨hp1, gn, dr, tks, osx⟩ :=
      fun qq => B.iter prog w _ _ ⟨hp1, gn, dr, tks, osx⟩ _ hb qq
    wp_walk using itB
    refine wpAny_stack_any fun stk => wpAny_pure ?_
    split
    · rename_i cc _ _ _ _ _
      cases (cc == Value.type "enumerate") <;> (wp_walk using itB; exact ⟨_, rfl, hr⟩)
    · (wp_walk using itB; exact ⟨_, rfl, hr⟩)
section
variable {prog : Program} {w : World} {A : Around} {E : Value → Shared → Prop} {s : Shared}
theorem call_enum1 {v : Value} {ob : Obj} {HH : Heap → Prop} {Q : Value → Shared → Prop} (B : Begins v ob HH) (hb : HH s.heap)
    (h : ∀ h', IsEnum h' (s.heap.objs.size + 1) s.heap.objs.size 0 .none → h'.get? s.heap.objs.size = some ob → (∀ b o, s.heap.get? b = some o → h'.get? b = some o) → Q (.ref (s.heap.objs.size + 1)) { s with heap := h' }) :
    wpAny (model prog w) A (call (.type "enumerate") [v]) Q E s := by
  refine callType_new F.called_enumerate (by decide) (F.typeCall_enumerate_1 _) (F.newCall_enumerate_1 _) (fun obj => F.args_object_init_2 obj _) F.entry_enumerate_new (enum_new1 B) ⟨hb, ?_⟩
  have sz1 : (s.heap.push ob).objs.size = s.heap.objs.size + 1 := Heap.size_push ..
  show _ ∧ _
  rw [sz1]
  have isE : IsEnum ((s.heap.push ob).push { cls := .type "enumerate", data := .fields #[.none, .bool false, .ref s.heap.objs.size, rawInt 0, .none, .none] }) (s.heap.objs.size + 1) s.heap.objs.size 0 .none := by
    have q := Heap.get?_push_size (s.heap.push ob) (o := { cls := .type "enumerate", data := .fields #[.none, .bool false, .ref s.heap.objs.size, rawInt 0, .none, .none] }) rfl
    rw [sz1] at q
    exact q
  exact ⟨⟨_, isE, rfl⟩, h _ isE (Heap.get?_push_of_some _ (Heap.get?_push_size _ B.free)) fun b o z => Heap.get?_push_of_some _ (Heap.get?_push_of_some _ z)⟩
end
theorem pyNext_enumT_end {prog : Program} {w : World} {A : Around} {E : Value → Shared → Prop} {s : Shared} {e it l : Addr} {i : Nat} {k : Int} {items : Array Value} {old : Value} {Q : Option Value → Shared → Prop} (hh : A.handled = none)
    (he : IsEnum s.heap e it k old) (hit : s.heap.IsTupleIter it l i) (hl : s.heap.IsTuple l items) (hx : items[i]? = none)
    (hQ : ∀ h', Heap.ExtBut it s.heap h' → Q none { s with heap := h' }) : wpAny (model prog w) A (pyNext (.ref e)) Q E s := by
  have tyE : s.TypeIs (.ref e) "enumerate" := ⟨_, he, rfl⟩
  unfold pyNext
  refine wpAny_bind (wpAny_attempt (wpAny_callSpecial?_slot (name := Str.ofString "__next__") tyE F.slot_enumerate_next (wpAny_call_entry F.slot_enumerate_next tyE F.entry_enumerate_next ?_ (F.args_enumerate_next_1 _))))
  show wpAny _ _ (field (.ref e) 2 >>= _) _ _ _
  refine wpAny_bind (wpAny_field he rfl (x := .ref it) rfl (wpAny_bind (wpAny_nextOf_tuple_end hh hit hl hx fun h1 x1 he1 hx1 => ?_)))
  obtain ⟨ox, hox, hcx⟩ := hx1
  exact wpAny_bind (wpAny_isInstance (T := "StopIteration") (b := true) ⟨ox, hox, hcx⟩ isSubtype_stop (wpAny_pure (hQ _ he1)))
def IteT (K : Fg) (a : Addr) : It :=
  ⟨fun i H => ∃ (xs : List V) (x : V), SqT K H a xs ∧ xs[i]? = some x, fun i H v H' => ∃ T x, v = .ref T ∧ H T = none ∧ H' = upd H T (.tup [.int (i : Nat), x]) ∧ ∀ xs, SqT K H a xs → xs[i]? = some x, fun i H => ∃ xs : List V, SqT K H a xs ∧ xs.length ≤ i⟩
theorem mem_two {b e it : Addr} (h : b ∈ [e, it]) : b = e ∨ b = it := by simpa using h
theorem turn_enumT {P : Program} {w : World} {K : Fg} {elts : List Expr} {kk : Nat} {tpos : Pos} (a e it : Addr) (hat : a ≠ it) (hae : a ≠ e) :
    Turn P w K (.Tuple elts kk tpos) (IteT K a) [e, it] e (fun i h => (∃ old, IsEnum h e it ((i : Nat) : Int) old) ∧ h.IsTupleIter it a i ∧ e ≠ it) where
  mem := by simp
  obj := fun i h st b hb => by
    obtain ⟨⟨old, he⟩, ⟨o, ho, hc, hd⟩, _⟩ := st
    rcases mem_two hb with z | z
    · subst z; exact ⟨_, he, fun v q => nomatch q⟩
    · subst z; exact ⟨o, ho, fun v q => by rw [hd] at q; cases q⟩
  keep := fun i h h' st k => by
    obtain ⟨⟨old, he⟩, hi, hne⟩ := st
    exact ⟨⟨old, k e (by simp) _ he⟩, hi.at fun o q => k it (by simp) o q, hne⟩
  item := by
    intro X hP hw hK hc i pins s σ H E I hf st hg
    subst hP hw hK
    obtain ⟨⟨old, he⟩, hit, hne⟩ := st
    obtain ⟨xs, x, hq, hx⟩ := hg
    obtain ⟨its, rv, p, hz⟩ := I.tuple hq
    obtain ⟨u, hu, ru⟩ := rv.get hx
    have hel : e < s.heap.objs.size := Heap.lt_size he
    have hil : it < s.heap.objs.size := by
      obtain ⟨_, q, _⟩ := hit
      exact Heap.lt_size q
    have Dr := Draws.tuple (prog := X.prog) (w := X.w) (A := X.A.in1) (by exact I.ok.hd hc) it a hat its.toArray
    have hlt : i < its.toArray.size := by
      have := (List.getElem?_eq_some_iff.mp hu).1
      simpa using this
    refine wpAny_pyNext_enum_itemD Dr he ⟨hit, p⟩ hlt hne (by simp [hne, Ne.symm hae]) fun y h1 tk hy ho hit' hT hsz hk => ?_
    have yu : y = u := by
      have q : its[i]? = some y := by simpa using hy
      rw [hu] at q
      exact (Option.some.inj q).symm
    subst yu
    refine ⟨_, rfl, wpAny_letOwnedTupleGo_enum (s := { s with heap := h1, toks := tk + 1 }) ho fun h2 he' sb => ?_⟩
    have hT2 : h2.get? s.heap.objs.size = some { cls := .type "tuple", data := .seq #[.int i tk, y] } := (sb.2 _ (Nat.ne_of_gt hel)).trans hT
    have new : ObjOk X.prog X.w (upd H s.heap.objs.size (.tup [.int (i : Nat), x])) h2 s.heap.objs.size (.tup [.int (i : Nat), x]) :=
      ⟨by show 2 ≤ sizeLine; decide, [.int i tk, y], .cons ⟨_, rfl⟩ (.cons ru .nil), ⟨_, hT2, rfl, _, rfl⟩⟩
    have I1 : Inv X pins σ (upd H s.heap.objs.size (.tup [.int (i : Nat), x])) { s with heap := h2, toks := tk + 1 } :=
      I.turnedNew (ch := [e, it]) (fun b ob hb q => (sb.2 b (fun z => hb (by simp [z]))).trans (hk b ob (fun z => hb (by simp [z])) (fun z => hb (by simp [z])) q)) hf (Nat.le_refl _) new
    refine ⟨.ref s.heap.objs.size, _, I1, rfl, ⟨_, x, rfl, I.hok.fresh (Nat.le_refl _), rfl, fun ys hy => by rw [I.tuple_inj hy hq]; exact hx⟩, ⟨⟨y, ?_⟩, hit'.1.at fun o q => (sb.2 it (Ne.symm hne)).trans q, hne⟩, fun b hb => ?_⟩
    · rw [show ((i + 1 : Nat) : Int) = (i : Int) + 1 by omega]
      exact he'
    · have hb' : b < s.heap.objs.size := by
        rcases mem_two hb with z | z
        · subst z; exact hel
        · subst z; exact hil
      rw [upd_ne (Nat.ne_of_lt hb')]
      exact (hf b hb).1
  done := by
    intro X hP hw hK hc i pins s σ H E I hf st hg
    subst hP hw hK
    obtain ⟨⟨old, he⟩, hit, hne⟩ := st
    obtain ⟨xs, hq, hx⟩ := hg
    obtain ⟨its, rv, p, hz⟩ := I.tuple hq
    obtain ⟨f0, f1, f2, f3, f4, f5⟩ := hf it (by simp)
    have hl := rv.length
    exact pyNext_enumT_end (I.ok.hd hc) he hit p (by simp; omega) fun h1 eb => ⟨rfl, I.turned (t' := s.toks) (fun b o hb q => eb b o hb q) f0 f1 f3 f4 f5⟩
  self := fun A i s Q E st h => by
    obtain ⟨⟨_, he⟩, _⟩ := st
    exact wpAny_pyIter_enum he h
section
variable {X : Cx}
/-- enumerate(xs) of a list or a tuple -/
def iEnumA (K : Fg) (ta : TA) : TI := fun σ H R => ta σ H fun vs H1 => ∃ a, vs = [.ref a] ∧ ((∃ xs, SqL K H1 a xs ∧ R (Ite K a) H1) ∨ (∃ xs, SqT K H1 a xs ∧ R (IteT K a) H1))
theorem pi_enumA {e : Expr} {ta : TA} {p pos tpos : Pos} {elts : List Expr} {kk : Nat} (hg : Gl X "enumerate") (hm : X.mg "enumerate" = none) (ha : PA X [e] ta) (hs : starEach [e] X.env = [(false, eval e X.env)] := by rfl) :
    PI X (.Tuple elts kk tpos) (.Call (.Name "enumerate" p) [e] [] pos) (iEnumA X.K ta) := by
  refine ⟨fun pins s σ H R I h => ?_⟩
  refine Call_ (ld_blt I hg hm boot_enumerate (PyProof.Rows.callWith_type1 (thn (ha.run pos pins s σ H _ I h) fun us s1 ⟨vs, H1, I1, r1, q1⟩ => ?_) hs rfl))
  obtain ⟨a, ex, q⟩ := q1
  subst ex
  cases r1 with
  | cons r rr =>
    cases rr
    cases r
    have two : ∀ {h' : Heap} (b : Addr), b ∈ [s1.heap.objs.size + 1, s1.heap.objs.size] → FpOk X pins H1 b := fun b hb => by
      have hle : s1.heap.objs.size ≤ b := by
        rcases mem_two hb with z | z <;> (subst z; first | exact Nat.le_add_right _ _ | exact Nat.le_refl _)
      exact I1.fpOk hle (I1.hok.fresh hle)
    rcases q with ⟨xs, hq, q⟩ | ⟨xs, hq, q⟩
    · obtain ⟨its, rv, p', hz⟩ := I1.list hq
      refine call_enumerate_list p'.isList fun h' he hit hsz hk => wpAny_pyIter_enum he ?_
      exact ⟨s1.heap.objs.size + 1, [s1.heap.objs.size + 1, s1.heap.objs.size], _, _, H1, rfl, I1.kept (t' := s1.toks) hk, turn_enum a (s1.heap.objs.size + 1) s1.heap.objs.size, ⟨⟨.none, he⟩, hit, Nat.succ_ne_self _⟩, two (h' := h'), q⟩
    · obtain ⟨its, rv, p', hz⟩ := I1.tuple hq
      have lt : a < s1.heap.objs.size := p'.lt
      refine call_enum1 (begins_tuple a its.toArray) p' fun h' he hob hk => wpAny_pyIter_enum he ?_
      refine ⟨s1.heap.objs.size + 1, [s1.heap.objs.size + 1, s1.heap.objs.size], _, _, H1, rfl, I1.kept (t' := s1.toks) hk, turn_enumT a (s1.heap.objs.size + 1) s1.heap.objs.size (Nat.ne_of_lt lt) (Nat.ne_of_lt (Nat.lt_succ_of_lt lt)), ⟨⟨.none, he⟩, ?_, Nat.succ_ne_self _⟩, two (h' := h'), q⟩
      exact ⟨_, hob, rfl, rfl⟩
end
end PL
/- part PLf -/
set_option maxHeartbeats 4000000
namespace PL
open PySem PySem.Spec PyProof.Rows L2
/-! ### what is walked -/
inductive PIt where
  | lst (n : Nat)
  | tup (ws : List W)
  | rng (lo : Int) (n : Nat)
  | enL (n : Nat)
  | enT (ws : List W)
  | zipL (n m : Nat)
  | zipT (ws us : List W)
  | zipM (n : Nat) (us : List W)
def PIt.at (G : Cells) (i : Nat) : PIt → Option (Option W)
  | .lst n => (rdL G n).map fun ws => ws[i]?
  | .tup ws => some ws[i]?
  | .rng lo n => some (if i < n then some (.int (lo + i)) else none)
  | .enL n => (rdL G n).map fun ws => ws[i]?.map fun w => .tup [.int i, w]
  | .enT ws => some (ws[i]?.map fun w => .tup [.int i, w])
  | .zipL n m => (rdL G n).bind fun ws => (rdL G m).map fun us => ws[i]?.bind fun x => us[i]?.map fun y => .tup [x, y]
  | .zipT ws us => some (ws[i]?.bind fun x => us[i]?.map fun y => .tup [x, y])
  | .zipM n us => (rdL G n).bind fun ws => if i ≤ ws.length ∧ i ≤ us.length then some (ws[i]?.bind fun x => us[i]?.map fun y => .tup [x, y]) else none
/-- how many turns -/
def PIt.len (G : Cells) : PIt → Nat
  | .lst n => ((rdL G n).getD []).length
  | .tup ws => ws.length
  | .rng _ n => n
  | .enL n => ((rdL G n).getD []).length
  | .enT ws => ws.length
  | .zipL n m => min ((rdL G n).getD []).length ((rdL G m).getD []).length
  | .zipT ws us => min ws.length us.length
  | .zipM n us => min ((rdL G n).getD []).length us.length
def ItR (K : Fg) : List Addr → Hp → PIt → It → Prop := fun ρ H pit J => ∀ ρ' G' H', Ext K ρ H ρ' H' → SR K ρ' G' H' → ∀ i,
  (pit.at G' i = some none → J.stop i H') ∧ (∀ w, pit.at G' i = some (some w) → J.go i H' ∧ ∀ v H2, J.yld i H' v H2 → Ext K ρ' H' ρ' H2 ∧ SR K ρ' G' H2 ∧ VR K ρ' H2 w v)
abbrev MI := PEnv → Cells → Rs PIt
structure HI (X : Cx) (XP : Wish) (tg iter : Expr) (m : MI) : Prop where
  ex : ∃ wi, PI X tg iter wi ∧ ∀ ρ E G σ H R, ER X.K ρ H E σ → SR X.K ρ G H → Out X.K XP (ItR X.K) σ ρ H (m E G) R → wi σ H R
section
variable {K : Fg} {ρ : List Addr} {H : Hp}
theorem get?_none_le {α : Type} {l : List α} {i : Nat} (h : l[i]? = none) : l.length ≤ i := List.getElem?_eq_none_iff.mp h
theorem itr_list {n : Nat} {a : Addr} (hn : ρ[n]? = some a) : ItR K ρ H (.lst n) (Itl K a) := by
  intro ρ' G' H' e s i
  have hn' := e.rho _ _ hn
  simp only [PIt.at]
  cases hr : rdL G' n with
  | none => exact ⟨fun h => by simp at h, fun w h => by simp at h⟩
  | some ws =>
    obtain ⟨vs, h1, h2⟩ := rdL_ok s hn' hr
    refine ⟨fun h => ?_, fun w h => ?_⟩
    · have hx : ws[i]? = none := by simpa using h
      exact ⟨vs, h1, by rw [← h2.length]; exact get?_none_le hx⟩
    · have hx : ws[i]? = some w := by simpa using h
      obtain ⟨v, q1, q2⟩ := h2.get hx
      refine ⟨⟨vs, v, h1, q1⟩, fun v' H2 hy => ?_⟩
      obtain ⟨rfl, hy⟩ := hy
      have := hy vs h1
      rw [q1] at this; cases this
      exact ⟨.refl, s, q2⟩
theorem itr_tup {ws : List W} {vs : List V} {a : Addr} (h1 : H a = some (.tup vs)) (h2 : VRs K ρ H ws vs) : ItR K ρ H (.tup ws) (Itt K a) := by
  intro ρ' G' H' e s i
  have h1' : SqT K H' a vs := .of (e.tups _ _ h1)
  have h2' := h2.mono e
  simp only [PIt.at]
  refine ⟨fun h => ?_, fun w h => ?_⟩
  · have hx : ws[i]? = none := by simpa using h
    exact ⟨vs, h1', by rw [← h2'.length]; exact get?_none_le hx⟩
  · have hx : ws[i]? = some w := by simpa using h
    obtain ⟨v, q1, q2⟩ := h2'.get hx
    refine ⟨⟨vs, v, h1', q1⟩, fun v' H2 hy => ?_⟩
    obtain ⟨rfl, hy⟩ := hy
    have := hy vs h1'
    rw [q1] at this; cases this
    exact ⟨.refl, s, q2⟩
theorem itr_rng {lo : Int} {n : Nat} : ItR K ρ H (.rng lo n) (Itr lo n) := by
  intro ρ' G' H' e s i
  simp only [PIt.at]
  refine ⟨fun h => ?_, fun w h => ?_⟩
  · by_cases hi : i < n
    · rw [if_pos hi] at h; simp at h
    · exact Nat.le_of_not_lt hi
  · by_cases hi : i < n
    · rw [if_pos hi] at h
      simp at h
      subst h
      refine ⟨hi, fun v' H2 hy => ?_⟩
      obtain ⟨rfl, rfl⟩ := hy
      exact ⟨.refl, s, .int _⟩
    · rw [if_neg hi] at h; simp at h
theorem pair_fresh {G : Cells} {T : Addr} {x y : W} {u v : V} (s : SR K ρ G H) (hT : H T = none) (hx : VR K ρ H x u) (hy : VR K ρ H y v) :
    Ext K ρ H ρ (upd H T (.tup [u, v])) ∧ SR K ρ G (upd H T (.tup [u, v])) ∧ VR K ρ (upd H T (.tup [u, v])) (.tup [x, y]) (.ref T) := by
  have e : Ext K ρ H ρ (upd H T (.tup [u, v])) := ext_upd (.inl hT) fun _ _ h => h
  exact ⟨e, s.fresh hT, .tup upd_same (.cons (hx.mono e) (.cons (hy.mono e) .nil))⟩
theorem itr_enL {n : Nat} {a : Addr} (hn : ρ[n]? = some a) : ItR K ρ H (.enL n) (Ite K a) := by
  intro ρ' G' H' e s i
  have hn' := e.rho _ _ hn
  simp only [PIt.at]
  cases hr : rdL G' n with
  | none => exact ⟨fun h => by simp at h, fun w h => by simp at h⟩
  | some ws =>
    obtain ⟨vs, h1, h2⟩ := rdL_ok s hn' hr
    cases hx : ws[i]? with
    | none => exact ⟨fun h => ⟨vs, h1, by rw [← h2.length]; exact get?_none_le hx⟩, fun w h => by simp [hx] at h⟩
    | some w0 =>
      refine ⟨fun h => by simp [hx] at h, fun w h => ?_⟩
      have : w = .tup [.int i, w0] := by simp [hx] at h; exact h.symm
      subst this
      obtain ⟨v, q1, q2⟩ := h2.get hx
      refine ⟨⟨vs, v, h1, q1⟩, fun v' H2 hy => ?_⟩
      obtain ⟨T, x, rfl, hT, rfl, hy⟩ := hy
      have := hy vs h1
      rw [q1] at this; cases this
      exact pair_fresh s hT (.int _) q2
theorem itr_enT {ws : List W} {vs : List V} {a : Addr} (h1 : H a = some (.tup vs)) (h2 : VRs K ρ H ws vs) : ItR K ρ H (.enT ws) (IteT K a) := by
  intro ρ' G' H' e s i
  have h1' : SqT K H' a vs := .of (e.tups _ _ h1)
  have h2' := h2.mono e
  simp only [PIt.at]
  cases hx : ws[i]? with
  | none => exact ⟨fun h => ⟨vs, h1', by rw [← h2'.length]; exact get?_none_le hx⟩, fun w h => by simp [hx] at h⟩
  | some w0 =>
    refine ⟨fun h => by simp [hx] at h, fun w h => ?_⟩
    have : w = .tup [.int i, w0] := by simp [hx] at h; exact h.symm
    subst this
    obtain ⟨v, q1, q2⟩ := h2'.get hx
    refine ⟨⟨vs, v, h1', q1⟩, fun v' H2 hy => ?_⟩
    obtain ⟨T, x, rfl, hT, rfl, hy⟩ := hy
    have := hy vs h1'
    rw [q1] at this; cases this
    exact pair_fresh s hT (.int _) q2
theorem itr_zipL {n m : Nat} {a b : Addr} (hn : ρ[n]? = some a) (hm : ρ[m]? = some b) : ItR K ρ H (.zipL n m) (Itz K a b) := by
  intro ρ' G' H' e s i
  have hn' := e.rho _ _ hn
  have hm' := e.rho _ _ hm
  simp only [PIt.at]
  cases hr : rdL G' n with
  | none => exact ⟨fun h => by simp at h, fun w h => by simp at h⟩
  | some ws =>
    cases hr2 : rdL G' m with
    | none => exact ⟨fun h => by simp at h, fun w h => by simp at h⟩
    | some us =>
      obtain ⟨vs, h1, h2⟩ := rdL_ok s hn' hr
      obtain ⟨zs, g1, g2⟩ := rdL_ok s hm' hr2
      cases hx : ws[i]? with
      | none => exact ⟨fun h => ⟨vs, zs, h1, g1, .inl (by rw [← h2.length]; exact get?_none_le hx)⟩, fun w h => by simp [hx] at h⟩
      | some w0 =>
        cases hy : us[i]? with
        | none => exact ⟨fun h => ⟨vs, zs, h1, g1, .inr (by rw [← g2.length]; exact get?_none_le hy)⟩, fun w h => by simp [hx, hy] at h⟩
        | some u0 =>
          refine ⟨fun h => by simp [hx, hy] at h, fun w h => ?_⟩
          have : w = .tup [w0, u0] := by simp [hx, hy] at h; exact h.symm
          subst this
          obtain ⟨v, q1, q2⟩ := h2.get hx
          obtain ⟨z, k1, k2⟩ := g2.get hy
          refine ⟨⟨vs, zs, v, z, h1, g1, q1, k1⟩, fun v' H2 hh => ?_⟩
          obtain ⟨T, x, y, rfl, hT, rfl, hy1, hy2⟩ := hh
          have t1 := hy1 vs h1
          have t2 := hy2 zs g1
          rw [q1] at t1; cases t1
          rw [k1] at t2; cases t2
          exact pair_fresh s hT q2 k2
theorem itr_zipT {ws us : List W} {vs zs : List V} {a b : Addr} (h1 : H a = some (.tup vs)) (h2 : VRs K ρ H ws vs) (g1 : H b = some (.tup zs)) (g2 : VRs K ρ H us zs) : ItR K ρ H (.zipT ws us) (RZ.ItzT K a b) := by
  intro ρ' G' H' e s i
  have h1' : SqT K H' a vs := .of (e.tups _ _ h1)
  have h2' := h2.mono e
  have g1' : SqT K H' b zs := .of (e.tups _ _ g1)
  have g2' := g2.mono e
  simp only [PIt.at]
  cases hx : ws[i]? with
  | none => exact ⟨fun h => ⟨vs, zs, h1', g1', .inl (by rw [← h2'.length]; exact get?_none_le hx)⟩, fun w h => by simp [hx] at h⟩
  | some w0 =>
    cases hy : us[i]? with
    | none => exact ⟨fun h => ⟨vs, zs, h1', g1', .inr (by rw [← g2'.length]; exact get?_none_le hy)⟩, fun w h => by simp [hx, hy] at h⟩
    | some u0 =>
      refine ⟨fun h => by simp [hx, hy] at h, fun w h => ?_⟩
      have : w = .tup [w0, u0] := by simp [hx, hy] at h; exact h.symm
      subst this
      obtain ⟨v, q1, q2⟩ := h2'.get hx
      obtain ⟨z, k1, k2⟩ := g2'.get hy
      refine ⟨⟨vs, zs, v, z, h1', g1', q1, k1⟩, fun v' H2 hh => ?_⟩
      obtain ⟨T, x, y, rfl, hT, rfl, hy1, hy2⟩ := hh
      have t1 := hy1 vs h1'
      have t2 := hy2 zs g1'
      rw [q1] at t1; cases t1
      rw [k1] at t2; cases t2
      exact pair_fresh s hT q2 k2
end
section
variable {X : Cx} {XP : Wish} {tg : Expr} {pos : Pos}
def itSeq (w : W) (G : Cells) : Rs PIt := match w with
  | .ref n => (match rdL G n with | some _ => .ok (.lst n) G | none => .no)
  | .tup ws => .ok (.tup ws) G
  | _ => .no
def mSeq (m : ME) : MI := fun E G => (m E G).bind fun w G' => itSeq w G'
theorem pi_or {iter : Expr} {wi wi' : TI} (h : PI X tg iter wi) (h' : PI X tg iter wi') : PI X tg iter (fun σ H R => wi σ H R ∨ wi' σ H R) :=
  ⟨fun pins s σ H R I q => q.elim (h.run pins s σ H R I) (h'.run pins s σ H R I)⟩
theorem hi_seq {e : Expr} {m : ME} (h : HE X XP e m) : HI X XP tg e (mSeq m) := by
  obtain ⟨t, h1, h2⟩ := h.ex
  refine ⟨_, pi_or (pi_list h1) (pi_tup h1), fun ρ E G σ H R er sr q => ?_⟩
  unfold mSeq at q
  cases hm : m E G with
  | no => rw [hm] at q; exact q.elim
  | ex x G1 =>
    rw [hm] at q
    exact .inl (h2 ρ E G σ H _ er sr (by rw [hm]; exact q))
  | ok w G1 =>
    rw [hm] at q
    have q' : Out X.K XP (ItR X.K) σ ρ H (itSeq w G1) R := q
    unfold itSeq at q'
    split at q'
    · rename_i n
      split at q'
      · rename_i ws hr
        refine .inl (h2 ρ E G σ H _ er sr ?_)
        rw [hm]
        intro ρ1 H1 v e1 s1 r1
        cases r1 with
        | ref hn =>
          obtain ⟨vs, k1, k2⟩ := rdL_ok s1 hn hr
          exact ⟨_, rfl, ⟨vs, k1⟩, q' ρ1 H1 _ e1 s1 (itr_list hn)⟩
      · exact q'.elim
    · refine .inr (h2 ρ E G σ H _ er sr ?_)
      rw [hm]
      intro ρ1 H1 v e1 s1 r1
      cases r1 with
      | tup k1 k2 => exact ⟨_, rfl, ⟨_, .of k1⟩, q' ρ1 H1 _ e1 s1 (itr_tup k1 k2)⟩
    · exact q'.elim
def rngOk (i : Int) : Bool := decide (-(2 ^ 62) ≤ i) && decide (i < 2 ^ 62)
def mRng1 (m : MA) : MI := fun E G => (m E G).bind fun ws G' => match ws with
  | [.int j] => if rngOk j then .ok (.rng 0 j.toNat) G' else .no
  | _ => .no
theorem hi_range1 {a : Expr} {m : MA} {p : Pos} (hg : Gl X "range") (hm : X.mg "range" = none) (ha : HA X XP [a] m) (hs : starEach [a] X.env = [(false, eval a X.env)] := by rfl) : HI X XP tg (.Call (.Name "range" p) [a] [] pos) (mRng1 m) := by
  obtain ⟨t, h1, h2⟩ := ha.ex
  refine ⟨_, pi_range1 hg hm h1 hs, fun ρ E G σ H R er sr q => h2 ρ E G σ H _ er sr (q.bind fun ws G1 ρ1 H1 vs e1 s1 r1 k1 => ?_)⟩
  split at k1
  · split at k1
    · rename_i hj
      cases r1 with
      | cons r rr =>
        cases r; cases rr
        unfold rngOk at hj
        simp only [Bool.and_eq_true, decide_eq_true_eq] at hj
        exact ⟨_, rfl, hj.1, hj.2, k1.ok s1 itr_rng⟩
    · exact k1.elim
  · exact k1.elim
def mRng2 (m : MA) : MI := fun E G => (m E G).bind fun ws G' => match ws with
  | [.int i, .int j] => if rngOk i && rngOk j then .ok (.rng i (j - i).toNat) G' else .no
  | _ => .no
theorem hi_range2 {a b : Expr} {m : MA} {p : Pos} (hg : Gl X "range") (hm : X.mg "range" = none) (ha : HA X XP [a, b] m) (hs : starEach [a, b] X.env = [(false, eval a X.env), (false, eval b X.env)] := by rfl) (hs2 : starEach [b] X.env = [(false, eval b X.env)] := by rfl) : HI X XP tg (.Call (.Name "range" p) [a, b] [] pos) (mRng2 m) := by
  obtain ⟨t, h1, h2⟩ := ha.ex
  refine ⟨_, pi_range2 hg hm h1 hs hs2, fun ρ E G σ H R er sr q => h2 ρ E G σ H _ er sr (q.bind fun ws G1 ρ1 H1 vs e1 s1 r1 k1 => ?_)⟩
  split at k1
  · split at k1
    · rename_i hj
      cases r1 with
      | cons r rr =>
        cases rr with
        | cons r' rr =>
          cases r; cases r'; cases rr
          unfold rngOk at hj
          simp only [Bool.and_eq_true, decide_eq_true_eq] at hj
          exact ⟨_, _, rfl, ⟨hj.1.1, hj.1.2, hj.2.1, hj.2.2⟩, k1.ok s1 itr_rng⟩
    · exact k1.elim
  · exact k1.elim
def mEnum (m : MA) : MI := fun E G => (m E G).bind fun ws G' => match ws with
  | [.ref n] => (match rdL G' n with | some _ => .ok (.enL n) G' | none => .no)
  | [.tup us] => .ok (.enT us) G'
  | _ => .no
theorem hi_enum {e : Expr} {m : MA} {p tpos : Pos} {elts : List Expr} {kk : Nat} (hg : Gl X "enumerate") (hm : X.mg "enumerate" = none) (ha : HA X XP [e] m) (hs : starEach [e] X.env = [(false, eval e X.env)] := by rfl) : HI X XP (.Tuple elts kk tpos) (.Call (.Name "enumerate" p) [e] [] pos) (mEnum m) := by
  obtain ⟨t, h1, h2⟩ := ha.ex
  refine ⟨_, pi_enumA hg hm h1 hs, fun ρ E G σ H R er sr q => h2 ρ E G σ H _ er sr (q.bind fun ws G1 ρ1 H1 vs e1 s1 r1 k1 => ?_)⟩
  split at k1
  · rename_i n
    split at k1
    · rename_i us hr
      cases r1 with
      | cons r rr =>
        cases rr
        cases r with
        | ref hn =>
          obtain ⟨vs, q1, q2⟩ := rdL_ok s1 hn hr
          exact ⟨_, rfl, .inl ⟨vs, q1, k1.ok s1 (itr_enL hn)⟩⟩
    · exact k1.elim
  · cases r1 with
    | cons r rr =>
      cases rr
      cases r with
      | tup q1 q2 => exact ⟨_, rfl, .inr ⟨_, .of q1, k1.ok s1 (itr_enT q1 q2)⟩⟩
  · exact k1.elim
def mZip (m : MA) : MI := fun E G => (m E G).bind fun ws G' => match ws with
  | [.ref n, .ref k] => (match rdL G' n, rdL G' k with | some _, some _ => .ok (.zipL n k) G' | _, _ => .no)
  | [.tup xs, .tup ys] => .ok (.zipT xs ys) G'
  | _ => .no
theorem hi_zip {e e2 : Expr} {m : MA} {p tpos : Pos} {elts : List Expr} {kk : Nat} (hg : Gl X "zip") (hm : X.mg "zip" = none) (ha : HA X XP [e, e2] m)
    (hs : starEach [e, e2] X.env = (false, eval e X.env) :: starEach [e2] X.env := by rfl) (hpl : (backTo pos (starEach [e2] X.env)).any (·.1) = false := by rfl) : HI X XP (.Tuple elts kk tpos) (.Call (.Name "zip" p) [e, e2] [] pos) (mZip m) := by
  obtain ⟨t, h1, h2⟩ := ha.ex
  refine ⟨_, RZ.pi_zipA hg hm h1 hs hpl, fun ρ E G σ H R er sr q => h2 ρ E G σ H _ er sr (q.bind fun ws G1 ρ1 H1 vs e1 s1 r1 k1 => ?_)⟩
  split at k1
  · split at k1
    · rename_i xs ys hr hr2
      cases r1 with
      | cons r rr =>
        cases rr with
        | cons r' rr =>
          cases rr
          cases r with
          | ref hn =>
            cases r' with
            | ref hm2 =>
              obtain ⟨vs, q1, q2⟩ := rdL_ok s1 hn hr
              obtain ⟨us, g1, g2⟩ := rdL_ok s1 hm2 hr2
              exact ⟨_, _, vs, us, rfl, .inl ⟨q1, g1, k1.ok s1 (itr_zipL hn hm2)⟩⟩
    · exact k1.elim
  · cases r1 with
    | cons r rr =>
      cases rr with
      | cons r' rr =>
        cases rr
        cases r with
        | tup q1 q2 =>
          cases r' with
          | tup g1 g2 => exact ⟨_, _, _, _, rfl, .inr ⟨.of q1, .of g1, k1.ok s1 (itr_zipT q1 q2 g1 g2)⟩⟩
  · exact k1.elim
end
end PL
/- part PLg -/
set_option maxHeartbeats 4000000
namespace PL
open PySem PySem.Spec PyProof.Rows L2
section
variable {X : Cx} {XP : Wish} {pos : Pos}
/-! ### targets -/
abbrev MG := W → PEnv → Cells → Rs PEnv
/-- the slots at sl may have changed, no other -/
def GR (K : Fg) (sl : List Nat) (σ0 : St) : List Addr → Hp → PEnv → St → Prop := fun ρ H E σ => ER K ρ H E σ ∧ σ.length = σ0.length ∧ ∀ i, i ∉ sl → σ[i]? = σ0[i]?
structure HG (X : Cx) (XP : Wish) (e : Expr) (sl : List Nat) (m : MG) : Prop where
  ex : ∃ g, PG X e g ∧ ∀ ρ w E G v σ H Q, VR X.K ρ H w v → ER X.K ρ H E σ → SR X.K ρ G H → Out X.K XP (GR X.K sl σ) σ ρ H (m w E G) Q → g v σ H Q
abbrev MGs := List W → PEnv → Cells → Rs PEnv
structure HGs (X : Cx) (XP : Wish) (es : List Expr) (sl : List Nat) (m : MGs) : Prop where
  ex : ∃ g, PGs X es g ∧ ∀ ρ ws E G vs σ0 σ H Q, VRs X.K ρ H ws vs → ER X.K ρ H E σ → σ.length = σ0.length → (∀ i, i ∉ sl → σ[i]? = σ0[i]?) → SR X.K ρ G H → Out X.K XP (GR X.K sl σ0) σ0 ρ H (m ws E G) Q → g vs σ H Q
def gSet (i : Nat) : MG := fun w E G => .ok (E.set i (some w)) G
theorem set_other {σ : St} {i j : Nat} {v : Option V} (h : j ≠ i) : (σ.set i v)[j]? = σ[j]? := by rw [List.getElem?_set_ne (Ne.symm h)]
theorem hg_name {i : Nat} {x : Str} (hN : X.N.Nodup) (hi : X.N[i]? = some x) (hx : Loc X.env.scope x) (hf : X.fn x = true ∨ X.env.scope.names.lookup x = some .local := by first | exact .inl rfl | exact .inr rfl | assumption) : HG X XP (.Name x pos) [i] (gSet i) :=
  ⟨_, pg_name hN hi hx hf, fun ρ w E G v σ H Q r er sr q => q.ok sr ⟨er.set r i, List.length_set, fun j hj => set_other (by simpa using hj)⟩⟩
def gsNil : MGs := fun ws E G => match ws with | [] => .ok E G | _ => .no
def gsCons (i : Nat) (r : MGs) : MGs := fun ws E G => match ws with | w :: ws => r ws (E.set i (some w)) G | [] => .no
theorem hgs_nil {sl : List Nat} : HGs X XP [] sl gsNil := by
  refine ⟨_, pgs_nil, fun ρ ws E G vs σ0 σ H Q r er hln hk sr q => ?_⟩
  cases r with
  | nil => exact ⟨rfl, q.ok sr ⟨er, hln, hk⟩⟩
  | cons _ _ => exact q.elim
theorem hgs_cons {i : Nat} {x : Str} {p : Pos} {es : List Expr} {sl : List Nat} {m : MGs} (hN : X.N.Nodup) (hi : X.N[i]? = some x) (hx : Loc X.env.scope x) (hm : i ∈ sl) (hr : HGs X XP es sl m)
    (hf : X.fn x = true ∨ X.env.scope.names.lookup x = some .local := by first | exact .inl rfl | exact .inr rfl | assumption) : HGs X XP (.Name x p :: es) sl (gsCons i m) := by
  obtain ⟨g, h1, h2⟩ := hr.ex
  refine ⟨_, pgs_cons (pg_name hN hi hx hf) h1, fun ρ ws E G vs σ0 σ H Q r er hln hk sr q => ?_⟩
  cases r with
  | nil => exact q.elim
  | cons r1 r2 =>
    refine ⟨_, _, rfl, ?_⟩
    exact h2 ρ _ _ G _ σ0 _ H Q r2 (er.set r1 i) (by rw [List.length_set]; exact hln) (fun j hj => by rw [set_other (show j ≠ i from fun e => hj (by rw [e]; exact hm))]; exact hk j hj) sr q
def gTupW (n : Nat) (m : MGs) : MG := fun w E G => match w with
  | .tup ws => if ws.length = n then m ws E G else .no
  | _ => .no
theorem hg_tup {es : List Expr} {kk : Nat} {n : Nat} {sl : List Nat} {m : MGs} (hc : X.calm = true) (h : HGs X XP es sl m) (hn : (assignEach es X.env).length = n := by rfl) (hst : (assignEach es X.env).findIdx? (·.1) = none := by rfl) : HG X XP (.Tuple es kk pos) sl (gTupW n m) := by
  obtain ⟨g, h1, h2⟩ := h.ex
  refine ⟨_, pg_tup hc h1 hn hst, fun ρ w E G v σ H Q r er sr q => ?_⟩
  unfold gTupW at q
  split at q
  · cases r with
    | tup a1 a2 =>
      split at q
      · rename_i hn
        exact ⟨_, _, rfl, .of a1, by rw [← a2.length]; exact hn, h2 ρ _ E G _ σ σ H Q a2 er rfl (fun _ _ => rfl) sr q⟩
      · exact q.elim
  · exact q.elim

/-! ### stores by place and by key -/
def putOp (n : Nat) (k : W) (w : W) (G : Cells) : Option Cells := match G[n]? with
  | some (.lst ws) => (match k with | .int i => (match ixN ws.length i with | some j => some (G.set n (.lst (ws.set j w))) | none => none) | _ => none)
  | some (.dct kvs) => (match keyW k with | some k => if kvs.length < sizeLine then some (G.set n (.dct (putW kvs k w))) else none | none => none)
  | some (.tct kvs) => (match tkW k with | some k => if kvs.length < sizeLine then some (G.set n (.tct (putW kvs k w))) else none | none => none)
  | _ => none
theorem PSet.or' {t t' : TSet} (h : PSet X t) (h' : PSet X t') : PSet X (fun o i v H Q => t o i v H Q ∨ t' o i v H Q) := fun pins s σ H o i v ov iv u Q I ro ri rv q =>
  q.elim (h pins s σ H o i v ov iv u Q I ro ri rv) (h' pins s σ H o i v ov iv u Q I ro ri rv)
def gPut (mo mi : ME) : MG := fun w E G => (mo E G).bind fun o G1 => (mi E G1).bind fun k G2 => match o with
  | .ref n => (match putOp n k w G2 with | some G3 => .ok E G3 | none => .no)
  | _ => .no
theorem put_run {ρ : List Addr} {G G3 : Cells} {H : Hp} {n : Nat} {k w : W} {a : Addr} {kv v : V} {Q : Hp → Prop} (s : SR X.K ρ G H) (hn : ρ[n]? = some a) (rk : VR X.K ρ H k kv) (rw' : VR X.K ρ H w v) (e : putOp n k w G = some G3)
    (q : ∀ H', Ext X.K ρ H ρ H' → SR X.K ρ G3 H' → Q H') : rSetL (.ref a) kv v H Q ∨ rSetD (.ref a) kv v H Q := by
  unfold putOp at e
  split at e
  · rename_i ws hc
    split at e
    · rename_i i
      split at e
      · rename_i j hj
        cases e
        cases rk
        obtain ⟨vs, h1, h2⟩ := cell_lst s hn hc
        have ex : Ext X.K ρ H ρ (upd H a (.lst (vs.set j v))) := s.ext_write hc hn rfl
        exact .inl ⟨a, vs, i, j, rfl, rfl, h1, by rw [← h2.length]; exact hj, q _ ex (s.write hc hn rfl rfl ⟨_, upd_same, VRs.set (rw'.mono ex) j (h2.mono ex)⟩)⟩
      · cases e
    · cases e
  · rename_i kvs hc
    split at e
    · rename_i k0 hk
      split at e
      · rename_i hl
        cases e
        have := keyW_ok rk hk
        subst this
        obtain ⟨vs, h1, h2⟩ := cell_dct s hn hc
        have ex : Ext X.K ρ H ρ (upd H a (.dK (putK vs k0 v))) := s.ext_write hc hn rfl
        exact .inr ⟨a, _, rfl, .k h1 (by rw [← h2.length]; exact hl), q _ ex (s.write hc hn rfl rfl ⟨_, upd_same, KVR.put (h2.mono ex) (rw'.mono ex)⟩)⟩
      · cases e
    · cases e
  · rename_i kvs hc
    split at e
    · rename_i k0 hk
      split at e
      · rename_i hl
        cases e
        obtain ⟨b, rfl, hb⟩ := tkW_ok rk hk
        obtain ⟨vs, h1, h2⟩ := cell_tct s hn hc
        have ex : Ext X.K ρ H ρ (upd H a (.dT (putK vs k0 v))) := s.ext_write hc hn rfl
        exact .inr ⟨a, _, rfl, .t h1 hb (by rw [← h2.length]; exact hl), q _ ex (s.write hc hn rfl rfl ⟨_, upd_same, KVR.put (h2.mono ex) (rw'.mono ex)⟩)⟩
      · cases e
    · cases e
  · cases e
theorem hg_put {o i : Expr} {mo mi : ME} {p : Pos} (hu : X.A.units + 1 < cLine) (ho : HE X XP o mo) (hi : HE X XP i mi) (hpg : ∀ {to ti : TE} {t : TSet}, PE X o to → PE X i ti → PSet X t → PG X (.Subscript o i p) (gSub to ti t)) : HG X XP (.Subscript o i p) [] (gPut mo mi) := by
  obtain ⟨t1, a1, a2⟩ := ho.ex
  obtain ⟨t2, b1, b2⟩ := hi.ex
  refine ⟨_, hpg a1 b1 (PSet.or' set_list (set_dict hu)), fun ρ w E G v σ H Q r er sr q => ?_⟩
  refine a2 ρ E G σ H _ er sr (q.bind fun x G1 ρ1 H1 xv e1 s1 r1 k1 => ?_)
  refine b2 ρ1 E G1 σ H1 _ (er.mono e1) s1 (k1.bind fun y G2 ρ2 H2 yv e2 s2 r2 k2 => ?_)
  have r1' := r1.mono e2
  cases r1' with
  | @ref n a hn =>
    have k3 : Out X.K XP (GR X.K [] σ) σ ρ2 H2 (match putOp n y w G2 with | some G3 => Rs.ok E G3 | none => Rs.no) Q := k2
    cases hp : putOp n y w G2 with
    | some G3 =>
      rw [hp] at k3
      exact put_run s2 hn r2 (r.mono (e1.trans e2)) hp fun H' ex s3 => k3 ρ2 H' σ ex s3 ⟨er.mono ((e1.trans e2).trans ex), rfl, fun _ _ => rfl⟩
    | none => rw [hp] at k3; exact k3.elim
  | _ => exact k2.elim

/-! ### statements -/
def seqS (r : So) (k : PEnv → Cells → So) : So := match r with
  | .nx E G => k E G
  | r => r
def sNext : MS := fun E G => .nx E G
def sSeq (a b : MS) : MS := fun E G => seqS (a E G) b
theorem hb_nil : HB X XP [] sNext := ⟨_, pss_nil, fun ρ E G σ H D er sr q => q ρ H σ .refl sr er⟩
theorem hb_cons {st : Stmt} {rest : List Stmt} {a b : MS} (h1 : HS X XP st a) (h2 : HB X XP rest b) : HB X XP (st :: rest) (sSeq a b) := by
  obtain ⟨t, a1, a2⟩ := h1.ex
  obtain ⟨u, b1, b2⟩ := h2.ex
  refine ⟨_, pss_cons a1 b1, fun ρ E G σ H D er sr q => ?_⟩
  refine a2 ρ E G σ H _ er sr ?_
  unfold sSeq at q
  cases hr : a E G with
  | nx E1 G1 =>
    rw [hr] at q
    intro ρ1 H1 σ1 e1 s1 r1
    exact b2 ρ1 E1 G1 σ1 H1 D r1 s1 (OutS.mono q e1)
  | rt w G1 => rw [hr] at q; exact q
  | bk E1 G1 => rw [hr] at q; exact q
  | ct E1 G1 => rw [hr] at q; exact q
  | ex e E1 G1 => rw [hr] at q; exact q
  | no => rw [hr] at q; exact q
theorem hb_one {st : Stmt} {a : MS} (h1 : HS X XP st a) : HB X XP [st] a := by
  obtain ⟨t, a1, a2⟩ := h1.ex
  exact ⟨_, pss_one a1, a2⟩
theorem hs_pass : HS X XP (.Pass pos) sNext := ⟨_, ps_pass, fun ρ E G σ H D er sr q => q ρ H σ .refl sr er⟩
theorem hs_doc {x j pos'} : HS X XP (.Expr (.Constant (.str x) j pos) pos') sNext := ⟨_, ps_doc, fun ρ E G σ H D er sr q => q ρ H σ .refl sr er⟩
def sBreak : MS := fun E G => .bk E G
def sCont : MS := fun E G => .ct E G
theorem hs_break : HS X XP (.Break pos) sBreak := ⟨_, ps_break, fun ρ E G σ H D er sr q => q ρ H σ .refl sr er⟩
theorem hs_cont : HS X XP (.Continue pos) sCont := ⟨_, ps_continue, fun ρ E G σ H D er sr q => q ρ H σ .refl sr er⟩
/-- an expression's outcome within a statement -/
def liftS {α : Type} (r : Rs α) (E : PEnv) (k : α → Cells → So) : So := match r with
  | .ok a G => k a G
  | .ex e G => .ex e E G
  | .no => .no
theorem OutS.lift {α β : Type} {Rel : List Addr → Hp → α → β → Prop} {σ : St} {ρ : List Addr} {H : Hp} {r : Rs α} {E : PEnv} {k : α → Cells → So} {D : Ends} {Q : β → Hp → Prop} (er : ER X.K ρ H E σ)
    (h : OutS X.K XP ρ H (liftS r E k) D) (f : ∀ w G ρ1 H1 v, Ext X.K ρ H ρ1 H1 → SR X.K ρ1 G H1 → Rel ρ1 H1 w v → OutS X.K XP ρ1 H1 (k w G) D → Q v H1) : Out X.K XP Rel σ ρ H r Q := by
  cases r with
  | ok w G => exact fun ρ1 H1 v e s q => f w G ρ1 H1 v e s q (OutS.mono h e)
  | ex x G => exact fun ρ1 H1 e s => h ρ1 H1 σ e s (er.mono e)
  | no => exact h
def sExpr (m : ME) : MS := fun E G => liftS (m E G) E fun _ G' => .nx E G'
theorem hs_expr {e : Expr} {m : ME} (h : HE X XP e m) (hs : swapsWith e none pos.line X.env = pure false := by rfl) : HS X XP (.Expr e pos) (sExpr m) := by
  obtain ⟨t, a1, a2⟩ := h.ex
  exact ⟨_, ps_expr a1 hs, fun ρ E G σ H D er sr q => a2 ρ E G σ H _ er sr (OutS.lift er q fun w G1 ρ1 H1 v e1 s1 r1 k1 => k1 ρ1 H1 σ .refl s1 (er.mono e1))⟩
def sRet (m : ME) : MS := fun E G => liftS (m E G) E fun w G' => .rt w G'
theorem hs_ret {e : Expr} {m : ME} (h : HE X XP e m) : HS X XP (.Return (some e) pos) (sRet m) := by
  obtain ⟨t, a1, a2⟩ := h.ex
  exact ⟨_, ps_ret a1, fun ρ E G σ H D er sr q => a2 ρ E G σ H _ er sr (OutS.lift er q fun w G1 ρ1 H1 v e1 s1 r1 k1 => k1 ρ1 H1 v .refl s1 r1)⟩
def sRetN : MS := fun _ G => .rt .non G
theorem hs_retN : HS X XP (.Return none pos) sRetN := ⟨_, ps_retN, fun ρ E G σ H D er sr q => q ρ H _ .refl sr .non⟩
def sIf (c : MT) (a b : MS) : MS := fun E G => liftS (c E G) E fun k G' => if k = true then a E G' else b E G'
theorem hs_if {c : Expr} {as bs : List Stmt} {mc : MT} {a b : MS} (hc : HT X XP c mc) (ha : HB X XP as a) (hb : HB X XP bs b) : HS X XP (.If c as bs pos) (sIf mc a b) := by
  obtain ⟨tc, c1, c2⟩ := hc.ex
  obtain ⟨ta, a1, a2⟩ := ha.ex
  obtain ⟨tb, b1, b2⟩ := hb.ex
  refine ⟨_, ps_if c1 a1 b1, fun ρ E G σ H D er sr q => c2 ρ E G σ H _ er sr (OutS.lift er q fun w G1 ρ1 H1 v e1 s1 r1 k1 => ?_)⟩
  cases r1
  cases w with
  | true => rw [if_pos rfl]; exact a2 ρ1 E G1 σ H1 D (er.mono e1) s1 (by simpa using k1)
  | false => rw [if_neg Bool.false_ne_true]; exact b2 ρ1 E G1 σ H1 D (er.mono e1) s1 (by simpa using k1)
def sAsg (m : ME) (g : MG) : MS := fun E G => liftS (m E G) E fun w G1 => liftS (g w E G1) E fun E' G2 => .nx E' G2
theorem asg_run {te : TE} {tg : TG} {m : ME} {g : MG} {sl : List Nat}
    (a2 : ∀ ρ E G σ H Q, ER X.K ρ H E σ → SR X.K ρ G H → Out X.K XP (VR X.K) σ ρ H (m E G) Q → te σ H Q)
    (b2 : ∀ ρ w E G v σ H Q, VR X.K ρ H w v → ER X.K ρ H E σ → SR X.K ρ G H → Out X.K XP (GR X.K sl σ) σ ρ H (g w E G) Q → tg v σ H Q) :
    ∀ ρ E G σ H D, ER X.K ρ H E σ → SR X.K ρ G H → OutS X.K XP ρ H (sAsg m g E G) D → tAsg te tg D σ H := fun ρ E G σ H D er sr q =>
  a2 ρ E G σ H _ er sr (OutS.lift er q fun w G1 ρ1 H1 v e1 s1 r1 k1 =>
    b2 ρ1 w E G1 v σ H1 _ r1 (er.mono e1) s1 (OutS.lift (er.mono e1) k1 fun E' G2 ρ2 H2 σ2 e2 s2 r2 k2 => k2 ρ2 H2 σ2 .refl s2 r2.1))
theorem hs_asg {tg e : Expr} {m : ME} {g : MG} {sl : List Nat} (he : HE X XP e m) (hg : HG X XP tg sl g) (hs : swapsWithSole [tg] e pos.line X.env = pure false := by rfl) (hw : swappedStores [tg] e X.env = pure none := by rfl)
    (h1 : (assignEach [tg] X.env).map (·.2) = [assign tg X.env] := by rfl) : HS X XP (.Assign [tg] e pos) (sAsg m g) := by
  obtain ⟨te, a1, a2⟩ := he.ex
  obtain ⟨g, b1, b2⟩ := hg.ex
  exact ⟨_, ps_asg a1 b1 hs hw h1, asg_run a2 b2⟩
theorem hs_set {i : Nat} {x : Str} {e : Expr} {m : ME} {pos' : Pos} (hN : X.N.Nodup) (hi : X.N[i]? = some x) (hx : Loc X.env.scope x) (he : HE X XP e m) (hs : swapsWith e (some (.Name x pos')) pos.line X.env = pure false := by rfl)
    (hf : X.fn x = true ∨ X.env.scope.names.lookup x = some .local := by first | exact .inl rfl | exact .inr rfl | assumption) : HS X XP (.Assign [.Name x pos'] e pos) (sAsg m (gSet i)) := by
  obtain ⟨te, a1, a2⟩ := he.ex
  exact ⟨_, ps_set hN hi hx a1 hs hf, asg_run (sl := [i]) a2 fun ρ w E G v σ H Q r er sr q => q.ok sr ⟨er.set r i, List.length_set, fun j hj => set_other (by simpa using hj)⟩⟩

/-! ### for -/
def forL (pit : PIt) (g : MG) (b : MS) : Nat → Nat → PEnv → Cells → So
  | fuel, i, E, G => match pit.at G i with
    | none => .no
    | some none => .nx E G
    | some (some w) => match fuel with
      | 0 => .no
      | k + 1 => liftS (g w E G) E fun E1 G1 => match b E1 G1 with
        | .nx E2 G2 => forL pit g b k (i + 1) E2 G2
        | .ct E2 G2 => forL pit g b k (i + 1) E2 G2
        | .bk E2 G2 => .nx E2 G2
        | r => r
def sFor (mi : MI) (g : MG) (b : MS) : MS := fun E G => liftS (mi E G) E fun pit G1 => forL pit g b (pit.len G1) 0 E G1
theorem hs_for {tg iter : Expr} {body : List Stmt} {mi : MI} {g : MG} {b : MS} {sl : List Nat} (hp : PassesOwn (model X.prog X.w) X.A X.env X.xe) (hc : X.calm = true) (hi : HI X XP tg iter mi) (hg : HG X XP tg sl g) (hb : HB X XP body b)
    (hs : ∀ x, foldedSetIterable iter X.env x = pure x := by intro _; rfl) : HS X XP (.For tg iter body [] pos) (sFor mi g b) := by
  obtain ⟨wi, i1, i2⟩ := hi.ex
  obtain ⟨tg', g1, g2⟩ := hg.ex
  obtain ⟨tb, b1, b2⟩ := hb.ex
  refine ⟨_, ps_for hp hc i1 g1 b1 hs, fun ρ E G σ H D er sr q => i2 ρ E G σ H _ er sr (OutS.lift er q fun pit G1 ρ1 H1 J e1 s1 r1 k1 => ?_)⟩
  refine ⟨fun i m σ' H' => ∃ ρ' E' G', Ext X.K ρ1 H1 ρ' H' ∧ ER X.K ρ' H' E' σ' ∧ SR X.K ρ' G' H' ∧ OutS X.K XP ρ' H' (forL pit g b m i E' G') D, ⟨_, ρ1, E, G1, .refl, er.mono e1, s1, k1⟩, ?_⟩
  rintro i m σ' H' ⟨ρ', E', G', ex, er', s', o⟩
  obtain ⟨hstop, hgo⟩ := r1 ρ' G' H' ex s' i
  unfold forL at o
  split at o
  · exact o.elim
  · rename_i ha
    exact .inl ⟨hstop ha, o ρ' H' σ' .refl s' er'⟩
  · rename_i w ha
    obtain ⟨go, hy⟩ := hgo w ha
    split at o
    · exact o.elim
    · rename_i k
      refine .inr ⟨go, fun σ2 H2 => ∃ ρ2 E2 G2, Ext X.K ρ1 H1 ρ2 H2 ∧ ER X.K ρ2 H2 E2 σ2 ∧ SR X.K ρ2 G2 H2 ∧ OutS X.K XP ρ2 H2 (forL pit g b k (i + 1) E2 G2) D, fun σ2 H2 h => ⟨k, Nat.lt_succ_self _, h⟩, fun x H2 y => ?_⟩
      obtain ⟨y1, y2, y3⟩ := hy x H2 y
      refine g2 ρ' w E' G' x σ' H2 _ y3 (er'.mono y1) y2 (OutS.lift (er'.mono y1) (OutS.mono o y1) fun E3 G3 ρ3 H3 σ3 e3 s3 r3 k3 => ?_)
      refine b2 ρ3 E3 G3 σ3 H3 _ r3.1 s3 ?_
      have ext := ex.trans (y1.trans e3)
      cases hr : b E3 G3 with
      | nx E4 G4 => rw [hr] at k3; exact fun ρ4 H4 σ4 e4 s4 r4 => ⟨ρ4, E4, G4, ext.trans e4, r4, s4, OutS.mono k3 e4⟩
      | ct E4 G4 => rw [hr] at k3; exact fun ρ4 H4 σ4 e4 s4 r4 => ⟨ρ4, E4, G4, ext.trans e4, r4, s4, OutS.mono k3 e4⟩
      | bk E4 G4 => rw [hr] at k3; exact k3
      | rt w4 G4 => rw [hr] at k3; exact k3
      | ex x4 E4 G4 => rw [hr] at k3; exact k3
      | no => rw [hr] at k3; exact k3
end
end PL
/- part PLh -/
set_option maxHeartbeats 4000000
namespace PL
open PySem PySem.Spec PyProof.Rows L2
/-! ### one reading for all contexts -/
section
variable {X : Cx} {XP : Wish} {pos : Pos}
def rdE (K : Fg) (XP : Wish) (m : ME) : TE := fun σ H Q => ∃ ρ E G, ER K ρ H E σ ∧ SR K ρ G H ∧ Out K XP (VR K) σ ρ H (m E G) Q
def rdT (K : Fg) (XP : Wish) (m : MT) : TT := fun σ H Q => ∃ ρ E G, ER K ρ H E σ ∧ SR K ρ G H ∧ Out K XP BR σ ρ H (m E G) Q
def rdG (K : Fg) (XP : Wish) (sl : List Nat) (m : MG) : TG := fun v σ H Q => ∃ ρ w E G, VR K ρ H w v ∧ ER K ρ H E σ ∧ SR K ρ G H ∧ Out K XP (GR K sl σ) σ ρ H (m w E G) Q
theorem HE.rd {e : Expr} {m : ME} (h : HE X XP e m) : PE X e (rdE X.K XP m) := by
  obtain ⟨t, h1, h2⟩ := h.ex
  exact ⟨fun pins s σ H Q I ⟨ρ, E, G, er, sr, q⟩ => h1.run pins s σ H Q I (h2 ρ E G σ H Q er sr q)⟩
theorem HT.rd {e : Expr} {m : MT} (h : HT X XP e m) : PT X e (rdT X.K XP m) := by
  obtain ⟨t, h1, h2⟩ := h.ex
  exact ⟨fun pins s σ H Q I ⟨ρ, E, G, er, sr, q⟩ => h1.run pins s σ H Q I (h2 ρ E G σ H Q er sr q)⟩
theorem HG.rd {e : Expr} {sl : List Nat} {m : MG} (h : HG X XP e sl m) : PG X e (rdG X.K XP sl m) := by
  obtain ⟨t, h1, h2⟩ := h.ex
  exact ⟨fun pins s σ H v u Q I r ⟨ρ, w, E, G, vr, er, sr, q⟩ => h1.run pins s σ H v u Q I r (h2 ρ w E G v σ H Q vr er sr q)⟩

/-! ### list comprehensions -/
def wipeE (E : PEnv) : List Nat → PEnv
  | [] => E
  | v :: vs => (wipeE E vs).set v none
theorem ER.wipe {K : Fg} {ρ : List Addr} {H : Hp} {E : PEnv} {σ : St} (h : ER K ρ H E σ) : ∀ vs : List Nat, ER K ρ H (wipeE E vs) (L2.wipe σ vs)
  | [] => h
  | v :: vs => ER.unset v Option.none (ER.wipe h vs)
theorem wipe_at {σ : St} {j : Nat} : ∀ {vs : List Nat}, (L2.wipe σ vs)[j]? = if j ∈ vs then (if j < σ.length then some none else none) else σ[j]?
  | [] => by simp [L2.wipe]
  | v :: vs => by
    unfold L2.wipe
    by_cases e : v = j
    · subst e
      rw [List.getElem?_set]
      simp [L2.wipe_length]
    · rw [List.getElem?_set_ne e, wipe_at]
      have : (j ∈ v :: vs) ↔ j ∈ vs := by simp [List.mem_cons, Ne.symm e]
      simp only [this]
theorem wipe_again {σ σ2 : St} {vs sl : List Nat} (hl : σ2.length = σ.length) (hk : ∀ i, i ∉ sl → σ2[i]? = (L2.wipe σ vs)[i]?) (hs : ∀ i ∈ sl, i ∈ vs) : L2.wipe σ2 vs = L2.wipe σ vs := by
  refine List.ext_getElem? fun j => ?_
  rw [wipe_at, wipe_at]
  by_cases hj : j ∈ vs
  · rw [if_pos hj, if_pos hj, hl]
  · rw [if_neg hj, if_neg hj, hk j fun h => hj (hs j h), wipe_at, if_neg hj]
abbrev noX : Wish := fun _ _ _ _ => False
structure HTs (X : Cx) (XP : Wish) (ifs : List Expr) (m : MT) : Prop where
  ex : ∃ t, PTs X ifs t ∧ ∀ ρ E G σ H Q, ER X.K ρ H E σ → SR X.K ρ G H → Out X.K XP BR σ ρ H (m E G) Q → t σ H Q
def mYes : MT := fun _ G => .ok true G
theorem hts_nil : HTs X XP [] mYes := ⟨_, pts_nil, fun ρ E G σ H Q er sr q => q.ok sr rfl⟩
theorem hts_one {e : Expr} {m : MT} (h : HT X XP e m) : HTs X XP [e] m := by
  obtain ⟨t, h1, h2⟩ := h.ex
  exact ⟨t, pts_one h1, h2⟩
theorem HTs.rd {e : List Expr} {m : MT} (h : HTs X XP e m) : PTs X e (rdT X.K XP m) := by
  obtain ⟨t, h1, h2⟩ := h.ex
  exact ⟨fun pins s σ H Q I ⟨ρ, E, G, er, sr, q⟩ => h1.run pins s σ H Q I (h2 ρ E G σ H Q er sr q)⟩
/-- the list at the cell n is filled -/
def lcL (pit : PIt) (g : MG) (t : MT) (m : ME) (n : Nat) (E : PEnv) : Nat → Nat → Cells → Option Cells
  | fuel, i, G => match pit.at G i with
    | none => none
    | some none => some G
    | some (some w) => match fuel with
      | 0 => none
      | k + 1 => match g w E G with
        | .ok E1 G1 => (match t E1 G1 with
          | .ok true G2 => (match m E1 G2 with
            | .ok y G3 => (match G3[n]? with
              | some (.lst acc) => if acc.length < sizeLine then lcL pit g t m n E k (i + 1) (G3.set n (.lst (acc ++ [y]))) else none
              | _ => none)
            | _ => none)
          | .ok false G2 => lcL pit g t m n E k (i + 1) G2
          | _ => none)
        | _ => none
def mLc (mi : MI) (g : MG) (t : MT) (m : ME) (vs : List Nat) : ME := fun E G => (mi E G).bind fun pit G1 =>
  match lcL pit g t m G1.length (wipeE E vs) (pit.len G1) 0 (G1 ++ [.lst []]) with
  | some G2 => .ok (.ref G1.length) G2
  | none => .no
theorem lc_runA (A : List Addr → PEnv → Cells → St → Hp → Prop) {wi : TI} {mi : MI} {g : MG} {t : MT} {m : ME} {vs sl : List Nat} (hsl : ∀ i ∈ sl, i ∈ vs)
    (i2 : ∀ ρ E G σ H R, A ρ E G σ H → ER X.K ρ H E σ → SR X.K ρ G H → Out X.K XP (ItR X.K) σ ρ H (mi E G) R → wi σ H R) :
    ∀ ρ E G σ H Q, A ρ E G σ H → ER X.K ρ H E σ → SR X.K ρ G H → Out X.K XP (VR X.K) σ ρ H (mLc mi g t m vs E G) Q → tLc wi (rdG X.K noX sl g) (rdT X.K noX t) (rdE X.K noX m) vs σ H Q := by
  intro ρ E G σ H Q ha0 er sr q
  refine i2 ρ E G σ H _ ha0 er sr (q.bind fun pit G1 ρ1 H1 J e1 s1 r1 k1 => ?_)
  intro D hD
  have hcell : CR X.K (ρ1 ++ [D]) (upd H1 D (.lst [])) (.lst []) D := ⟨[], upd_same, .nil⟩
  have sA := s1.alloc hD hcell
  have eA : Ext X.K ρ1 H1 (ρ1 ++ [D]) (upd H1 D (.lst [])) := ext_alloc hD
  have hn : (ρ1 ++ [D])[G1.length]? = some D := by rw [← s1.len]; exact last_get _ _
  refine ⟨fun i k H' => ∃ ρ' G', Ext X.K (ρ1 ++ [D]) (upd H1 D (.lst [])) ρ' H' ∧ SR X.K ρ' G' H' ∧ ∃ G2, lcL pit g t m G1.length (wipeE E vs) k i G' = some G2 ∧ Out X.K XP (VR X.K) σ ρ' H' (.ok (.ref G1.length) G2) Q, ?_, ?_⟩
  · cases hr : lcL pit g t m G1.length (wipeE E vs) (pit.len G1) 0 (G1 ++ [.lst []]) with
    | none => rw [hr] at k1; exact k1.elim
    | some G2 => rw [hr] at k1; exact ⟨_, ρ1 ++ [D], G1 ++ [.lst []], .refl, sA, G2, hr, Out.mono k1 eA⟩
  · rintro i k H' ⟨ρ', G', ex, s', G2, hl, o⟩
    obtain ⟨hstop, hgo⟩ := r1 ρ' G' H' (eA.trans ex) s' i
    have hn' := ex.rho _ _ hn
    unfold lcL at hl
    split at hl
    · cases hl
    · rename_i ha
      cases hl
      exact .inl ⟨hstop ha, o.ok s' (.ref hn')⟩
    · rename_i w ha
      obtain ⟨go, hy⟩ := hgo w ha
      split at hl
      · cases hl
      · rename_i k0
        refine .inr ⟨go, fun H2 => ∃ ρ2 G3, Ext X.K (ρ1 ++ [D]) (upd H1 D (.lst [])) ρ2 H2 ∧ SR X.K ρ2 G3 H2 ∧ ∃ G2, lcL pit g t m G1.length (wipeE E vs) k0 (i + 1) G3 = some G2 ∧ Out X.K XP (VR X.K) σ ρ2 H2 (.ok (.ref G1.length) G2) Q, fun H2 h => ⟨k0, Nat.lt_succ_self _, h⟩, fun x H2 y => ?_⟩
        obtain ⟨y1, y2, y3⟩ := hy x H2 y
        have erw : ER X.K ρ' H2 (wipeE E vs) (L2.wipe σ vs) := ((er.mono (e1.trans (eA.trans (ex.trans y1)))).wipe vs)
        refine ⟨ρ', w, wipeE E vs, G', y3, erw, y2, ?_⟩
        split at hl
        · rename_i E1 G3 hg
          rw [hg]
          intro ρ3 H3 σ3 e3 s3 r3
          refine ⟨wipe_again ?_ r3.2.2 hsl, ρ3, E1, G3, r3.1, s3, ?_⟩
          · rw [r3.2.1, L2.wipe_length]
          · split at hl
            · rename_i G4 ht
              rw [ht]
              intro ρ4 H4 b e4 s4 hb
              cases hb
              rw [if_pos rfl]
              refine ⟨ρ4, E1, G4, r3.1.mono e4, s4, ?_⟩
              split at hl
              · rename_i yw G5 hm
                rw [hm]
                intro ρ5 H5 v e5 s5 r5
                have ext5 : Ext X.K ρ' H' ρ5 H5 := y1.trans (e3.trans (e4.trans e5))
                have hn5 := ext5.rho _ _ hn'
                split at hl
                · rename_i acc hc
                  split at hl
                  · rename_i hz
                    obtain ⟨us, q1, q2⟩ := cell_lst s5 hn5 hc
                    have exw : Ext X.K ρ5 H5 ρ5 (upd H5 D (.lst (us ++ [v]))) := s5.ext_write hc hn5 rfl
                    refine ⟨us, q1, by rw [← q2.length]; exact hz, ρ5, _, (ex.trans ext5).trans exw, s5.write (c' := .lst (acc ++ [yw])) hc hn5 rfl rfl ⟨us ++ [v], upd_same, (q2.mono exw).append (.cons (r5.mono exw) .nil)⟩, G2, hl, Out.mono o (ext5.trans exw)⟩
                  · cases hl
                · cases hl
              · cases hl
            · rename_i G4 ht
              rw [ht]
              intro ρ4 H4 b e4 s4 hb
              cases hb
              rw [if_neg Bool.false_ne_true]
              have ext4 : Ext X.K ρ' H' ρ4 H4 := y1.trans (e3.trans e4)
              exact ⟨ρ4, G4, ex.trans ext4, s4, G2, hl, Out.mono o ext4⟩
            · cases hl
        · cases hl
theorem lc_run {wi : TI} {mi : MI} {g : MG} {t : MT} {m : ME} {vs sl : List Nat} (hsl : ∀ i ∈ sl, i ∈ vs)
    (i2 : ∀ ρ E G σ H R, ER X.K ρ H E σ → SR X.K ρ G H → Out X.K XP (ItR X.K) σ ρ H (mi E G) R → wi σ H R) :
    ∀ ρ E G σ H Q, ER X.K ρ H E σ → SR X.K ρ G H → Out X.K XP (VR X.K) σ ρ H (mLc mi g t m vs E G) Q → tLc wi (rdG X.K noX sl g) (rdT X.K noX t) (rdE X.K noX m) vs σ H Q :=
  fun ρ E G σ H Q => lc_runA (fun _ _ _ _ _ => True) hsl (fun ρ E G σ H R _ => i2 ρ E G σ H R) ρ E G σ H Q trivial
end
end PL
/- part PLi -/
set_option maxHeartbeats 4000000
namespace PL
open PySem PySem.Spec PyProof.Rows L2
/-! ### contexts -/
structure RoomG (k : Nat) (A : Around) : Prop where
  room : Room k A
  grd : A.guards = some []
theorem RoomG.mono {j k : Nat} {A : Around} (r : RoomG k A) (h : j ≤ k) : RoomG j A := ⟨r.room.mono h, r.grd⟩
/-- how an exception lies -/
def xr (mg : Str → Option Value) (K : Fg) (e : Exn) (ρ : List Addr) (H : Hp) (cls : Value) (d : Option Addr) : Prop :=
  mg e.cls = some cls ∧ match e.arg with
    | none => True
    | some (f, w) => ∃ dd v, d = some dd ∧ H dd = some (.xd [(f, v)]) ∧ VR K ρ H w v
/-- the table of modules stands in the base -/
def SysD (h : Heap) : Prop := ∃ o es n, h.get? sysModules = some o ∧ o.data = .dict es n
structure GC (X : Cx) (XP : Wish) (k : Nat) : Prop where
  sys : SysD X.base
  room : RoomG k X.A
  calm : X.calm = true
  nd : X.N.Nodup
  po : PassesOwn (model X.prog X.w) X.A X.env X.xe
  tk : ∃ W : WX, Takes X W ∧ ∀ e σ ρ H cls d, XP e σ ρ H → xr X.mg X.K e ρ H cls d → W cls d σ H
section
variable {X : Cx} {XP : Wish} {k : Nat}
theorem GC.hu (c : GC X XP k) : X.A.units + 1 < cLine := by have := c.room.room.units; omega
theorem GC.blk (c : GC X XP k) (s : Shared) (H : Hp) (scope : Scope) (cenv : Env) (fp : List Addr) : GC (X.blk s H scope cenv fp) noX k :=
  ⟨c.sys, c.room, c.calm, c.nd, PassesOwn.never, ⟨fun _ _ _ _ => False, takes0, fun _ _ _ _ _ _ h _ => h⟩⟩
end

/-! ### what a def is worth -/
abbrev PF := List W → Cells → Rs W
def OutF (K : Fg) (mg : Str → Option Value) (ρ : List Addr) (H : Hp) (r : Rs W) (Q : VK) (E : XK) : Prop :=
  match r with
  | .ok w G => ∀ ρ' H' v, Ext K ρ H ρ' H' → SR K ρ' G H' → VR K ρ' H' w v → Q v H'
  | .ex e G => ∀ ρ' H' cls d, Ext K ρ H ρ' H' → SR K ρ' G H' → xr mg K e ρ' H' cls d → E cls d H'
  | .no => False
def spP (K : Fg) (mg : Str → Option Value) (F : PF) : Sp := fun vs H Q E => ∃ ρ G ws, VRs K ρ H ws vs ∧ SR K ρ G H ∧ OutF K mg ρ H (F ws G) Q E
structure FnG (P : Program) (w : World) (K : Fg) (mg : Str → Option Value) (base : Heap) (k : Nat) (f : Addr) (fd : FuncData) (ps : List Str) (F : PF) : Prop where
  len : ∀ ws G, ws.length ≠ ps.length → F ws G = .no
  run : ∀ (A : Around) (outer : List Env) (s : Shared) (H : Hp) (args : Args) (us : List Value) (vs : List V) (Q : VK) (E : XK), RoomG k A → Env0 P w K mg base A outer s H → BindsTo s fd args (ps.zip us) → Vals vs us → spP K mg F vs H Q E →
    codeAny (model P w) A (.call (.ref f) args) (L2.CR (L2.CX P w) outer P w H s Q E) s
theorem FnG.mono {P : Program} {w : World} {K : Fg} {mg : Str → Option Value} {base : Heap} {j k : Nat} {f : Addr} {fd : FuncData} {ps : List Str} {F : PF} (h : FnG P w K mg base j f fd ps F) (l : j ≤ k) : FnG P w K mg base k f fd ps F :=
  ⟨h.len, fun A outer s H args us vs Q E hr => h.run A outer s H args us vs Q E (hr.mono l)⟩
theorem FnG.lenV {P : Program} {w : World} {K : Fg} {mg : Str → Option Value} {base : Heap} {k : Nat} {f : Addr} {fd : FuncData} {ps : List Str} {F : PF} (h : FnG P w K mg base k f fd ps F) {vs : List V} {H : Hp} {Q : VK} {E : XK} (s : spP K mg F vs H Q E) : vs.length = ps.length := by
  obtain ⟨ρ, G, ws, r, _, o⟩ := s
  rw [← r.length]
  apply Decidable.byContradiction
  intro hne
  rw [h.len ws G hne] at o
  exact o
/-- the defaults dws are put in behind -/
theorem FnG.runC {X : Cx} {XP : Wish} {k : Nat} {f : Addr} {fd : FuncData} {ps : List Str} {F : PF} (h : FnG X.prog X.w X.K X.mg X.base k f fd ps F) (c : GC X XP k) {pins : List (Addr × Obj)} {σ : St} {s : Shared} {ρ : List Addr} {G : Cells} {H : Hp} {Q : VK}
    {args : Args} {us : List Value} {vs : List V} {ws : List W} (I : Inv X pins σ H s) (hb : us.length = ps.length → BindsTo s fd args (ps.zip us)) (r : Vals vs us) (rw' : VRs X.K ρ H ws vs) (sr : SR X.K ρ G H) (o : Out X.K XP (VR X.K) σ ρ H (F ws G) Q) :
    wpAny (model X.prog X.w) X.A (call (.ref f) args.pos args.kw) (EP X pins σ Q) X.xe s := by
  obtain ⟨W, tk, lk⟩ := c.tk
  have sp : spP X.K X.mg F vs H Q (fun cls d H' => W cls d σ H') := by
    refine ⟨ρ, G, ws, rw', sr, ?_⟩
    cases hr : F ws G with
    | ok w' G' => rw [hr] at o; exact o
    | ex e G' => rw [hr] at o; exact fun ρ' H' cls d e1 s1 x1 => lk e σ ρ' H' cls d (o ρ' H' e1 s1) x1
    | no => rw [hr] at o; exact o
  have hl : us.length = ps.length := by rw [← r.length]; exact h.lenV sp
  refine wpAny_call (codeAny_mono (h.run X.A X.stack s H args us vs Q _ c.room I.env0 (hb hl) r sp) fun res s' hq => ?_)
  cases res with
  | error e => exact passAt tk σ pins H s e s' I hq
  | ok fl =>
    cases fl with
    | ret u => exact I.after hq
    | next => exact hq.elim
    | brk => exact hq.elim
    | cont => exact hq.elim

/-! ### calls of defs -/
section
variable {X : Cx} {XP : Wish} {k : Nat} {f : Addr} {fd : FuncData} {ps : List Str} {F : PF} {x : Str} {p pos : Pos}
def mDef (F : PF) (m : MA) : ME := fun E G => (m E G).bind fun ws G' => F ws G'
/-- f(e, ..), all by place; dws the defaults that fill up -/
theorem he_call {e : Expr} {es : List Expr} {m : MA} (h : FnG X.prog X.w X.K X.mg X.base k f fd ps F) (c : GC X XP k) (hg : Gl X x) (hm : X.mg x = some (.ref f)) (hk : PySem.W.keepIn X.K (.ref f) = true) (hb : Binds X.K fd ps []) (ha : HA X XP (e :: es) m)
    (hdb : (x == ("__debug__" : Str)) = false := by decide) (he : starEach (e :: es) X.env = (false, eval e X.env) :: starEach es X.env := by rfl) (hpl : (backTo pos (starEach es X.env)).any (·.1) = false := by rfl) : HE X XP (.Call (.Name x p) (e :: es) [] pos) (mDef F m) := by
  obtain ⟨t, a1, a2⟩ := ha.ex
  refine ⟨fun σ H Q => t σ H fun vs H1 => ∃ ρ G ws, VRs X.K ρ H1 ws vs ∧ SR X.K ρ G H1 ∧ Out X.K XP (VR X.K) σ ρ H1 (F ws G) Q, ⟨fun pins s σ H Q I q => ?_⟩, fun ρ E G σ H Q er sr q => a2 ρ E G σ H _ er sr (q.bind fun ws G1 ρ1 H1 vs e1 s1 q1 k1 => ⟨ρ1, G1, ws, q1, s1, k1⟩)⟩
  refine wpAny_Call_Name_kw (ld_glob I hg hm (PySem.W.callWith_K (h₀ := X.base) I.ok.mod.kin hk (thn (a1.run pos pins s σ H _ I q) fun us s1 ⟨vs, H1, I1, r, ρ, G, ws, q1, q2, q3⟩ => ⟨I1.kIn, ?_⟩) he hpl) hdb)
  exact h.runC c (args := ⟨us, []⟩) I1 (fun hl => by have := hb s1 us I1.kIn (by rw [List.append_nil]; exact hl); rwa [List.append_nil] at this) r q1 q2 q3
theorem he_call0 (h : FnG X.prog X.w X.K X.mg X.base k f fd ps F) (c : GC X XP k) (hg : Gl X x) (hm : X.mg x = some (.ref f)) (hk : PySem.W.keepIn X.K (.ref f) = true) (hb : Binds X.K fd ps [])
    (hdb : (x == ("__debug__" : Str)) = false := by decide) : HE X XP (.Call (.Name x p) [] [] pos) (mDef F mNil) := by
  refine ⟨fun σ H Q => ∃ ρ G, SR X.K ρ G H ∧ Out X.K XP (VR X.K) σ ρ H (F [] G) Q, ⟨fun pins s σ H Q I q => ?_⟩, fun ρ E G σ H Q er sr q => ⟨ρ, G, sr, q⟩⟩
  obtain ⟨ρ, G, q2, q3⟩ := q
  refine wpAny_Call_Name_kw (ld_glob I hg hm (PySem.W.callWith_K0 I.kIn hk ?_) hdb)
  exact h.runC c (args := ⟨[], []⟩) I (fun hl => by have := hb s [] I.kIn (by rw [List.append_nil]; exact hl); rwa [List.append_nil] at this) .nil .nil q2 q3
/-- keywords' values, from the left -/
structure HK (X : Cx) (XP : Wish) (kws : List Keyword) (m : MA) : Prop where
  ex : ∃ t, PK X kws t ∧ ∀ ρ E G σ H Q, ER X.K ρ H E σ → SR X.K ρ G H → Out X.K XP (VRs X.K) σ ρ H (m E G) Q → t σ H Q
theorem hk_nil : HK X XP [] mNil := ⟨_, pk_nil, fun ρ E G σ H Q er sr q => q.ok sr .nil⟩
theorem hk_cons {nm : Option Str} {e : Expr} {kpos : Pos} {kws : List Keyword} {ma : ME} {mr : MA} (ha : HE X XP e ma) (hr : HK X XP kws mr) : HK X XP (⟨nm, e, kpos⟩ :: kws) (mCons ma mr) := by
  obtain ⟨ta, a1, a2⟩ := ha.ex
  obtain ⟨tr, r1, r2⟩ := hr.ex
  refine ⟨_, pk_cons a1 r1, fun ρ E G σ H Q er sr q => a2 ρ E G σ H _ er sr (q.bind fun w G1 ρ1 H1 v e1 s1 q1 h1 => ?_)⟩
  exact r2 ρ1 E G1 σ H1 _ (er.mono e1) s1 (h1.bind fun ws G2 ρ2 H2 vs e2 s2 q2 h2 => h2.ok s2 (.cons (q1.mono e2) q2))
/-- how a call with keywords is bound: perm tells for each parameter the place of its value in the values by place, then by keyword -/
def pick {α : Type} (perm : List Nat) (xs : List α) : List α := perm.filterMap fun i => xs[i]?
def pickW (perm : List Nat) (xs : List W) : Option (List W) := if perm.all (fun i => decide (i < xs.length)) then some (pick perm xs) else none
theorem pick_vals : ∀ {perm : List Nat} {vs : List V} {us : List Value}, Vals vs us → Vals (pick perm vs) (pick perm us)
  | [], _, _, _ => .nil
  | i :: perm, vs, us, r => by
    have ih := pick_vals (perm := perm) r
    cases h : vs[i]? with
    | none =>
      have h2 := r.none_of h
      simpa [pick, List.filterMap_cons, h, h2] using ih
    | some v =>
      obtain ⟨u, hu, ru⟩ := r.get h
      simpa [pick, List.filterMap_cons, h, hu] using Paired.cons ru ih
theorem pick_vrs {K : Fg} {ρ : List Addr} {H : Hp} : ∀ {perm : List Nat} {ws : List W} {vs : List V}, VRs K ρ H ws vs → VRs K ρ H (pick perm ws) (pick perm vs)
  | [], _, _, _ => .nil
  | i :: perm, ws, vs, r => by
    have ih := pick_vrs (perm := perm) r
    cases h : ws[i]? with
    | none =>
      have h2 := r.get_none h
      simpa [pick, List.filterMap_cons, h, h2] using ih
    | some v =>
      obtain ⟨u, hu, ru⟩ := r.get h
      simpa [pick, List.filterMap_cons, h, hu] using VRs.cons ru ih
def KwB (K : Fg) (fd : FuncData) (ps ks : List Str) (np : Nat) (perm : List Nat) : Prop :=
  ∀ (s : Shared) (us zs : List Value), K.In s.heap → us.length = np → zs.length = ks.length → BindsTo s fd ⟨us, ks.zip zs⟩ (ps.zip (pick perm (us ++ zs)))
def mDefK (F : PF) (perm : List Nat) (np nk : Nat) (m mk : MA) : ME := fun E G => (m E G).bind fun ws G1 => (mk E G1).bind fun zs G2 => if ws.length = np ∧ zs.length = nk then F (pick perm (ws ++ zs)) G2 else .no
theorem he_callK {e : Expr} {es : List Expr} {kws : List Keyword} {ks : List Str} {nk : Nat} {np : Nat} {perm : List Nat} {m mk : MA} (h : FnG X.prog X.w X.K X.mg X.base k f fd ps F) (c : GC X XP k) (hg : Gl X x) (hm : X.mg x = some (.ref f)) (hk : PySem.W.keepIn X.K (.ref f) = true)
    (hb : KwB X.K fd ps ks np perm) (ha : HA X XP (e :: es) m) (hkw : HK X XP kws mk)
    (hall : (backToKw pos (keywordEach kws X.env)).all (·.1.isSome) = true := by rfl) (hks : (backToKw pos (keywordEach kws X.env)).filterMap (·.1) = ks := by rfl)
    (hdb : (x == ("__debug__" : Str)) = false := by decide) (he : starEach (e :: es) X.env = (false, eval e X.env) :: starEach es X.env := by rfl)
    (hpl : ((backTo pos (starEach (e :: es) X.env)).any (·.1) || (backToKw pos (keywordEach kws X.env)).any (·.1.isNone)) = false := by rfl) (hnk : ks.length = nk := by rfl) : HE X XP (.Call (.Name x p) (e :: es) kws pos) (mDefK F perm np nk m mk) := by
  subst hnk
  obtain ⟨t, a1, a2⟩ := ha.ex
  obtain ⟨tk, b1, b2⟩ := hkw.ex
  refine ⟨fun σ H Q => t σ H fun vs H1 => tk σ H1 fun zs H2 => ∃ ρ G ws ys, VRs X.K ρ H2 ws vs ∧ VRs X.K ρ H2 ys zs ∧ ws.length = np ∧ ys.length = ks.length ∧ SR X.K ρ G H2 ∧ Out X.K XP (VR X.K) σ ρ H2 (F (pick perm (ws ++ ys)) G) Q, ⟨fun pins s σ H Q I q => ?_⟩, fun ρ E G σ H Q er sr q => ?_⟩
  · refine wpAny_Call_Name_kw (ld_glob I hg hm (PySem.W.callWith_KW (h₀ := X.base) I.ok.mod.kin hk hall (thn (a1.run pos pins s σ H _ I q) fun us s1 ⟨vs, H1, I1, r, q1⟩ => ?_) hpl he) hdb)
    refine thn (b1.run pos pins s1 σ H1 _ I1 q1) fun zs s2 ⟨ys, H2, I2, r2, ρ, G, ws, yw, k1, k2, l1, l2, k3, k4⟩ => ⟨I2.kIn, ?_⟩
    rw [hks]
    have hl1 : us.length = np := by rw [← r.length, ← k1.length]; exact l1
    have hl2 : zs.length = ks.length := by rw [← r2.length, ← k2.length]; exact l2
    exact h.runC c (args := ⟨us, ks.zip zs⟩) (us := pick perm (us ++ zs)) I2 (fun _ => hb s2 us zs I2.kIn hl1 hl2) (pick_vals (r.append r2)) (pick_vrs (k1.append k2)) k3 k4
  · refine a2 ρ E G σ H _ er sr (q.bind fun ws G1 ρ1 H1 vs e1 s1 q1 k1 => ?_)
    refine b2 ρ1 E G1 σ H1 _ (er.mono e1) s1 (k1.bind fun ys G2 ρ2 H2 zs e2 s2 q2 k2 => ?_)
    split at k2
    · rename_i hl; exact ⟨ρ2, G2, ws, ys, q1.mono e2, q2, hl.1, hl.2, s2, k2⟩
    · exact k2.elim
theorem he_callK0 {kws : List Keyword} {ks : List Str} {nk : Nat} {perm : List Nat} {mk : MA} (h : FnG X.prog X.w X.K X.mg X.base k f fd ps F) (c : GC X XP k) (hg : Gl X x) (hm : X.mg x = some (.ref f)) (hk : PySem.W.keepIn X.K (.ref f) = true)
    (hb : KwB X.K fd ps ks 0 perm) (hkw : HK X XP kws mk)
    (hall : (backToKw pos (keywordEach kws X.env)).all (·.1.isSome) = true := by rfl) (hks : (backToKw pos (keywordEach kws X.env)).filterMap (·.1) = ks := by rfl)
    (hdb : (x == ("__debug__" : Str)) = false := by decide)
    (hpl : ((backTo pos (starEach [] X.env)).any (·.1) || (backToKw pos (keywordEach kws X.env)).any (·.1.isNone)) = false := by rfl) (hnk : ks.length = nk := by rfl) : HE X XP (.Call (.Name x p) [] kws pos) (mDefK F perm 0 nk mNil mk) := by
  subst hnk
  obtain ⟨tk, b1, b2⟩ := hkw.ex
  refine ⟨fun σ H Q => tk σ H fun zs H2 => ∃ ρ G ys, VRs X.K ρ H2 ys zs ∧ ys.length = ks.length ∧ SR X.K ρ G H2 ∧ Out X.K XP (VR X.K) σ ρ H2 (F (pick perm ([] ++ ys)) G) Q, ⟨fun pins s σ H Q I q => ?_⟩, fun ρ E G σ H Q er sr q => ?_⟩
  · refine wpAny_Call_Name_kw (ld_glob I hg hm (PySem.W.callWith_KW0 (h₀ := X.base) I.ok.mod.kin hk hall ?_ hpl) hdb)
    refine thn (b1.run pos pins s σ H _ I q) fun zs s2 ⟨ys, H2, I2, r2, ρ, G, yw, k2, l2, k3, k4⟩ => ⟨I2.kIn, ?_⟩
    rw [hks]
    have hl2 : zs.length = ks.length := by rw [← r2.length, ← k2.length]; exact l2
    exact h.runC c (args := ⟨[], ks.zip zs⟩) (us := pick perm ([] ++ zs)) I2 (fun _ => hb s2 [] zs I2.kIn rfl hl2) (pick_vals r2) (pick_vrs k2) k3 k4
  · refine b2 ρ E G σ H _ er sr (Out.bind (k := fun zs G2 => if ([] : List W).length = 0 ∧ zs.length = ks.length then F (pick perm ([] ++ zs)) G2 else .no) q fun ys G2 ρ2 H2 zs e2 s2 q2 k2 => ?_)
    split at k2
    · rename_i hl; exact ⟨ρ2, G2, ys, q2, hl.2, s2, k2⟩
    · exact k2.elim
end

/-! ### a def by its body -/
def mFun (np nn : Nat) (b : MS) : PF := fun ws G => if ws.length = np then
    match b (ws.map some ++ List.replicate (nn - np) none) G with
    | .nx _ G' => .ok .non G'
    | .rt w G' => .ok w G'
    | .ex e _ G' => .ex e G'
    | _ => .no
  else .no
def wishOf (mg : Str → Option Value) (K : Fg) (E : XK) : Wish := fun e _ ρ H => ∀ cls d, xr mg K e ρ H cls d → E cls d H
theorem fnG_of {P : Program} {w : World} {K : Fg} {mg : Str → Option Value} {base : Heap} {k : Nat} {f : Addr} {name qual : Str} {params : Arguments} {body : List Stmt} {scope : Scope} {dV kV doc pm cdv ct oc : Value} {an od : Option Addr} {osl : Array (Option Value)} {N ps : List Str} {b : MS}
    (lk : K.lookup f = some ⟨oc, od, .func (PySem.W.fnOf name qual params body scope dV kV doc pm an cdv ct), osl⟩) (hcd : PySem.W.codeIn K cdv qual = true) (S : FnScope N ps scope) (hsys : SysD base)
    (hbody : ∀ (A : Around) (outer : List Env) (s : Shared) (H : Hp) (E : XK), GC (cxOf (L2.CX P w) P w K mg base N qual scope f cdv A outer s H E) (wishOf mg K E) k →
      HB (cxOf (L2.CX P w) P w K mg base N qual scope f cdv A outer s H E) (wishOf mg K E) body b) :
    FnG P w K mg base (k + 1) f (PySem.W.fnOf name qual params body scope dV kV doc pm an cdv ct) ps (mFun ps.length N.length b) := by
  have hlen : ∀ ws G, ws.length ≠ ps.length → mFun ps.length N.length b ws G = .no := fun ws G h => by unfold mFun; rw [if_neg h]
  refine ⟨hlen, fun A outer s H args us vs Q E hr e0 hb r hsp => ?_⟩
  obtain ⟨ρ, G, ws, rw0, sr, o⟩ := hsp
  have wl : ws.length = ps.length := by
    apply Decidable.byContradiction
    intro hne
    rw [hlen ws G hne] at o
    exact o
  have vl : vs.length = ps.length := by rw [← rw0.length]; exact wl
  have KX : K.In s.heap := e0.mod.kin.keeps fun b o e => (e0.bs b o e).1
  have lim : s.heap.NoLimit := e0.mod.nolimit.keeps fun b o e => (e0.bs b o e).1
  have pk : ∀ y ∈ ps.zip us, scope.names.lookup y.1 = some .local ∨ (scope.names.lookup y.1 = some .cell ∧ ((cellsFrom (s.heap.objs.size + 1) scope.names []).lookup y.1).isSome = true) := by
    rintro ⟨n, v⟩ hy
    rcases S.par n (List.of_mem_zip hy).1 with q | q
    · exact Or.inl q
    · exact Or.inr ⟨q, PySem.W.cellsFrom_some _ _ _ (Or.inl q)⟩
  refine codeAny_call_function hr.room.depth (KX _ _ lk) rfl S.co S.gen rfl (PySem.W.codeRec_of KX hcd) (hb _ _ _ _ (wpAny_newFunctionEnv_cells S.kind pk fun env hen s1 inC => ?_))
  subst hen
  refine ⟨lim.keeps inC.toInCall.keep, codeAny_func ?_⟩
  have gc : GC (cxOf (L2.CX P w) P w K mg base N qual scope f cdv A outer s H E) (wishOf mg K E) k :=
    ⟨hsys, ⟨hr.room.deeper _, hr.grd⟩, rfl, S.nd, passes_of rfl, ⟨_, takes_of rfl rfl rfl rfl, fun e σ ρ H cls d h x => h cls d x⟩⟩
  obtain ⟨t, ht, hq⟩ := (hbody A outer s H E gc).ex
  have I : Inv (cxOf (L2.CX P w) P w K mg base N qual scope f cdv A outer s H E) [] (L2.start N vs) H s1 := inv_start S hr.room.hd e0 vl r inC
  have er : ER K ρ H (ws.map some ++ List.replicate (N.length - ps.length) none) (L2.start N vs) := by
    unfold L2.start
    rw [vl]
    exact ER.args rw0 (ER.replicate _)
  have q : t { nx := fun _ H' => Q .non H', rt := Q } (L2.start N vs) H := by
    refine hq ρ _ G (L2.start N vs) H _ er sr ?_
    unfold mFun at o
    rw [if_pos wl] at o
    cases hres : b (ws.map some ++ List.replicate (N.length - ps.length) none) G with
    | nx E' G' => rw [hres] at o; exact fun ρ1 H1 σ1 e1 s1 r1 => o ρ1 H1 .non e1 s1 .non
    | rt w' G' => rw [hres] at o; exact o
    | ex e E' G' => rw [hres] at o; exact fun ρ1 H1 σ1 e1 s1 r1 cls d x => o ρ1 H1 cls d e1 s1 x
    | bk E' G' => rw [hres] at o; exact o.elim
    | ct E' G' => rw [hres] at o; exact o.elim
    | no => rw [hres] at o; exact o.elim
  have fin : ∀ {σ' : St} {H' : Hp} {v : V} {u : Value} {s' : Shared}, Inv (cxOf (L2.CX P w) P w K mg base N qual scope f cdv A outer s H E) [] σ' H' s' → RelV v u → Q v H' → CE outer P w H s Q u s' :=
    fun {σ' H' v u s'} J rv qv => ⟨v, H', J.os, J.bare, J.base, J.hok, rv, qv⟩
  refine wpAny_mono (ht.run [] s1 (L2.start N vs) H _ I q) (fun fl s' hs => ?_) fun e s' hs => hs
  cases fl with
  | ret u => obtain ⟨v, σ', H', J, rv, qv⟩ := hs; exact fin J rv qv
  | next => obtain ⟨σ', H', J, qv⟩ := hs; exact fin (v := V.non) (u := Value.none) J rfl qv
  | brk => obtain ⟨_, _, _, z⟩ := hs; exact False.elim z
  | cont => obtain ⟨_, _, _, z⟩ := hs; exact False.elim z
end PL
/- part PLj -/
set_option maxHeartbeats 4000000
namespace PL
open PySem PySem.Spec PyProof.Rows L2
section
variable {X : Cx} {XP : Wish} {pos : Pos}
theorem he_lc {elt tg iter : Expr} {ifs : List Expr} {scope : Scope} {own : List (Str × Nat)} {mi : MI} {g : MG} {t : MT} {m : ME} {sl : List Nat} {k : Nat} (c : GC X XP k) (hi : HI X XP tg iter mi) (ok : blkC X.N X.env.scope scope own = true)
    (hg : ∀ (s : Shared) (H : Hp) (C : Addr) (cl : List (Str × Addr)) (fp : List Addr), HG (X.blk s H scope (compEnvC scope cl C X.env) fp) noX tg sl g)
    (ht : ∀ (s : Shared) (H : Hp) (C : Addr) (cl : List (Str × Addr)) (fp : List Addr), HTs (X.blk s H scope (compEnvC scope cl C X.env) fp) noX ifs t)
    (he : ∀ (s : Shared) (H : Hp) (C : Addr) (cl : List (Str × Addr)) (fp : List Addr), HE (X.blk s H scope (compEnvC scope cl C X.env) fp) noX elt m)
    (hsl : (sl.all fun i => (own.map (·.2)).contains i) = true := by rfl) (hs : ∀ x, foldedSetIterable iter X.env x = pure x := by intro _; rfl) : HE X XP (.ListComp elt [⟨tg, iter, ifs, 0⟩] scope pos) (mLc mi g t m (own.map (·.2))) := by
  obtain ⟨wi, i1, i2⟩ := hi.ex
  have hsl' : ∀ i ∈ sl, i ∈ own.map (·.2) := fun i h => by simpa using List.all_eq_true.mp hsl i h
  exact ⟨_, pe_lc c.calm c.nd i1 (blkOk_by ok) (fun s H C cl fp => (hg s H C cl fp).rd) (fun s H C cl fp => (ht s H C cl fp).rd) (fun s H C cl fp => (he s H C cl fp).rd) hs, lc_run hsl' i2⟩
theorem hs_setLc {i : Nat} {y : Str} {py spos : Pos} {elt tg iter : Expr} {ifs : List Expr} {scope : Scope} {own : List (Str × Nat)} {mi : MI} {g : MG} {t : MT} {m : ME} {sl : List Nat} {k : Nat} (c : GC X XP k) (hy : X.N[i]? = some y) (hyl : X.env.scope.names.lookup y = some .local)
    (hsw : swapsWith (.ListComp elt [⟨tg, iter, ifs, 0⟩] scope pos) (some (.Name y py)) spos.line X.env = pure true) (hi : HI X XP tg iter mi) (ok : blkC X.N X.env.scope scope own = true)
    (hg : ∀ (s : Shared) (H : Hp) (C : Addr) (cl : List (Str × Addr)) (fp : List Addr), HG (X.blk s H scope (compEnvC scope cl C X.env) fp) noX tg sl g)
    (ht : ∀ (s : Shared) (H : Hp) (C : Addr) (cl : List (Str × Addr)) (fp : List Addr), HTs (X.blk s H scope (compEnvC scope cl C X.env) fp) noX ifs t)
    (he : ∀ (s : Shared) (H : Hp) (C : Addr) (cl : List (Str × Addr)) (fp : List Addr), HE (X.blk s H scope (compEnvC scope cl C X.env) fp) noX elt m)
    (hsl : (sl.all fun i => (own.map (·.2)).contains i) = true := by rfl) (hs : ∀ x, foldedSetIterable iter X.env x = pure x := by intro _; rfl) : HS X XP (.Assign [.Name y py] (.ListComp elt [⟨tg, iter, ifs, 0⟩] scope pos) spos) (sAsg (mLc mi g t m (own.map (·.2))) (gSet i)) := by
  obtain ⟨wi, i1, i2⟩ := hi.ex
  have hsl' : ∀ i ∈ sl, i ∈ own.map (·.2) := fun i h => by simpa using List.all_eq_true.mp hsl i h
  exact ⟨_, ps_setLc c.calm c.nd hy hyl hsw i1 (blkOk_by ok) (fun s H C cl fp => (hg s H C cl fp).rd) (fun s H C cl fp => (ht s H C cl fp).rd) (fun s H C cl fp => (he s H C cl fp).rd) hs,
    asg_run (sl := [i]) (lc_run hsl' i2) fun ρ w E G v σ H Q r er sr q => q.ok sr ⟨er.set r i, List.length_set, fun j hj => set_other (by simpa using hj)⟩⟩

/-! ### while -/
def whL (c : MT) (b : MS) : Nat → PEnv → Cells → So
  | 0, _, _ => .no
  | n + 1, E, G => liftS (c E G) E fun k G1 => if k = true then
      match b E G1 with
      | .nx E2 G2 => whL c b n E2 G2
      | .ct E2 G2 => whL c b n E2 G2
      | .bk E2 G2 => .nx E2 G2
      | r => r
    else .nx E G1
open Classical in
noncomputable def sWhile (c : MT) (b : MS) : MS := fun E G => if h : ∃ n, whL c b n E G ≠ .no then whL c b h.choose E G else .no
theorem whL_more {c : MT} {b : MS} : ∀ {n : Nat} {E : PEnv} {G : Cells}, whL c b n E G ≠ .no → ∀ m, n ≤ m → whL c b m E G = whL c b n E G
  | 0, _, _, h, _, _ => absurd rfl h
  | n + 1, E, G, h, m, hm => by
    obtain ⟨m', rfl⟩ : ∃ m', m = m' + 1 := ⟨m - 1, by omega⟩
    unfold whL at h ⊢
    unfold liftS at h ⊢
    cases hc : c E G with
    | no => rfl
    | ex e G1 => rfl
    | ok k G1 =>
      simp only [hc] at h ⊢
      cases k with
      | false => rfl
      | true =>
        simp only [if_true] at h ⊢
        cases hb : b E G1 with
        | nx E2 G2 => simp only [hb] at h ⊢; exact whL_more h m' (by omega)
        | ct E2 G2 => simp only [hb] at h ⊢; exact whL_more h m' (by omega)
        | bk E2 G2 => rfl
        | rt w2 G2 => rfl
        | ex e2 E2 G2 => rfl
        | no => rfl
theorem sWhile_of {c : MT} {b : MS} {n : Nat} {E : PEnv} {G : Cells} {r : So} (h : whL c b n E G = r) (hr : r ≠ .no) : sWhile c b E G = r := by
  have hx : ∃ n, whL c b n E G ≠ .no := ⟨n, by rw [h]; exact hr⟩
  unfold sWhile
  rw [dif_pos hx]
  rcases Nat.le_total n hx.choose with l | l
  · rw [whL_more (by rw [h]; exact hr) _ l, h]
  · rw [← whL_more hx.choose_spec _ l, h]
theorem hs_while {c : Expr} {body : List Stmt} {mc : MT} {b : MS} (hp : PassesOwn (model X.prog X.w) X.A X.env X.xe) (hc : HT X XP c mc) (hb : HB X XP body b) : HS X XP (.While c body [] pos) (sWhile mc b) := by
  obtain ⟨tc, c1, c2⟩ := hc.ex
  obtain ⟨tb, b1, b2⟩ := hb.ex
  refine ⟨_, ps_while hp c1 b1, fun ρ E G σ H D er sr q => ?_⟩
  unfold sWhile at q
  split at q
  · rename_i hx
    refine ⟨fun m σ' H' => ∃ ρ' E' G', Ext X.K ρ H ρ' H' ∧ ER X.K ρ' H' E' σ' ∧ SR X.K ρ' G' H' ∧ OutS X.K XP ρ' H' (whL mc b m E' G') D, ⟨_, ρ, E, G, .refl, er, sr, q⟩, ?_⟩
    rintro m σ' H' ⟨ρ', E', G', ex, er', s', o⟩
    cases m with
    | zero => exact o.elim
    | succ n =>
      unfold whL at o
      refine c2 ρ' E' G' σ' H' _ er' s' (OutS.lift er' o fun k G1 ρ1 H1 v e1 s1 r1 k1 => ?_)
      cases r1
      cases k with
      | false =>
        rw [if_neg Bool.false_ne_true]
        have k2 : OutS X.K XP ρ1 H1 (.nx E' G1) D := by simpa using k1
        exact k2 ρ1 H1 σ' .refl s1 (er'.mono e1)
      | true =>
        rw [if_pos rfl]
        refine ⟨fun σ2 H2 => ∃ ρ2 E2 G2, Ext X.K ρ H ρ2 H2 ∧ ER X.K ρ2 H2 E2 σ2 ∧ SR X.K ρ2 G2 H2 ∧ OutS X.K XP ρ2 H2 (whL mc b n E2 G2) D, fun σ2 H2 h => ⟨n, Nat.lt_succ_self _, h⟩, ?_⟩
        refine b2 ρ1 E' G1 σ' H1 _ (er'.mono e1) s1 ?_
        simp only [if_true] at k1
        have ext := ex.trans e1
        cases hr : b E' G1 with
        | nx E4 G4 => rw [hr] at k1; exact fun ρ4 H4 σ4 e4 s4 r4 => ⟨ρ4, E4, G4, ext.trans e4, r4, s4, OutS.mono k1 e4⟩
        | ct E4 G4 => rw [hr] at k1; exact fun ρ4 H4 σ4 e4 s4 r4 => ⟨ρ4, E4, G4, ext.trans e4, r4, s4, OutS.mono k1 e4⟩
        | bk E4 G4 => rw [hr] at k1; exact k1
        | rt w4 G4 => rw [hr] at k1; exact k1
        | ex x4 E4 G4 => rw [hr] at k1; exact k1
        | no => rw [hr] at k1; exact k1
  · exact q.elim

/-! ### dict displays -/
abbrev MPs := PEnv → Cells → Rs (List (Key × W))
structure HP (X : Cx) (XP : Wish) (pos : Pos) (keys : List (Option Expr)) (values : List Expr) (m : MPs) : Prop where
  ex : ∃ trs, PPs X pos keys values trs ∧ ∀ ρ E G σ H (Q : List (V × V) → Hp → Prop), ER X.K ρ H E σ → SR X.K ρ G H →
    Out X.K XP (fun ρ H r (q : List (V × V)) => ∃ kv, q = kv.map (fun p => (kV p.1, p.2)) ∧ KVR X.K ρ H r kv) σ ρ H (m E G) Q → tPairs trs σ H Q
def mpNil : MPs := fun _ G => .ok [] G
def mpCons (mk mv : ME) (r : MPs) : MPs := fun E G => (mk E G).bind fun x G1 => (mv E G1).bind fun y G2 => (r E G2).bind fun ps G3 => match keyW x with | some k => .ok ((k, y) :: ps) G3 | none => .no
theorem hp_nil : HP X XP pos [] [] mpNil := ⟨_, pps_nil, fun ρ E G σ H Q er sr q => q.ok sr ⟨[], rfl, .nil⟩⟩
theorem hp_cons {k v : Expr} {ks : List (Option Expr)} {vs : List Expr} {mk mv : ME} {r : MPs} (hk : HE X XP k mk) (hv : HE X XP v mv) (hr : HP X XP pos ks vs r) : HP X XP pos (some k :: ks) (v :: vs) (mpCons mk mv r) := by
  obtain ⟨tk, a1, a2⟩ := hk.ex
  obtain ⟨tv, b1, b2⟩ := hv.ex
  obtain ⟨tr, r1, r2⟩ := hr.ex
  refine ⟨_, pps_cons a1 b1 r1, fun ρ E G σ H Q er sr q => ?_⟩
  refine a2 ρ E G σ H _ er sr (q.bind fun x G1 ρ1 H1 xv e1 s1 q1 k1 => ?_)
  refine b2 ρ1 E G1 σ H1 _ (er.mono e1) s1 (k1.bind fun y G2 ρ2 H2 yv e2 s2 q2 k2 => ?_)
  refine r2 ρ2 E G2 σ H2 _ (er.mono (e1.trans e2)) s2 (k2.bind fun ps G3 ρ3 H3 pv e3 s3 q3 k3 => ?_)
  obtain ⟨kv, rfl, q4⟩ := q3
  split at k3
  · rename_i k0 hk0
    have := keyW_ok (q1.mono (e2.trans e3)) hk0
    subst this
    exact k3.ok s3 ⟨(k0, yv) :: kv, rfl, .cons (q2.mono e3) q4⟩
  · exact k3.elim
def mergeW (kvs more : List (Key × W)) : List (Key × W) := more.foldl (fun acc kv => putW acc kv.1 kv.2) kvs
theorem KVR.merge {K : Fg} {ρ : List Addr} {H : Hp} : ∀ {more : List (Key × W)} {mq : List (Key × V)} {r : List (Key × W)} {q : List (Key × V)}, KVR K ρ H more mq → KVR K ρ H r q → KVR K ρ H (mergeW r more) (mergeK q mq)
  | _, _, _, _, .nil, s => s
  | _, _, r, q, .cons (k := k) (w := w) (v := v) (r := r1) (q := q1) h t, s => by
    show KVR K ρ H (mergeW (putW r k w) r1) (mergeK (putK q k v) q1)
    exact KVR.merge t (s.put h)
def mDisp (m : MPs) : ME := fun E G => (m E (G ++ [.dct []])).bind fun ps G' => match G'[G.length]? with
  | some (.dct []) => if ps.length ≤ 15 then .ok (.ref G.length) (G'.set G.length (.dct (mergeW [] ps))) else .no
  | _ => .no
theorem he_disp {keys : List (Option Expr)} {values : List Expr} {m : MPs} (h : HP X XP pos keys values m) (hall : keys.all (·.isSome) = true := by rfl) (hl : keys.length = values.length := by rfl) (h0 : keys ≠ [] := by simp) (h15 : keys.length ≤ 15 := by decide) : HE X XP (.Dict keys values pos) (mDisp m) := by
  obtain ⟨trs, a1, a2⟩ := h.ex
  refine ⟨_, pe_disp a1 hall hl h0 h15, fun ρ E G σ H Q er sr q => ?_⟩
  intro p hp
  have hcell : PL.CR X.K (ρ ++ [p]) (upd H p (.dK [])) (.dct []) p := ⟨[], upd_same, .nil⟩
  have sA := sr.alloc hp hcell
  have eA : Ext X.K ρ H (ρ ++ [p]) (upd H p (.dK [])) := ext_alloc hp
  have hn : (ρ ++ [p])[G.length]? = some p := by rw [← sr.len]; exact last_get _ _
  refine a2 (ρ ++ [p]) E (G ++ [.dct []]) σ _ _ (er.mono eA) sA ((Out.mono q eA).bind fun ps G1 ρ1 H1 pv e1 s1 q1 k1 => ?_)
  obtain ⟨kv, rfl, q4⟩ := q1
  have hn1 := e1.rho _ _ hn
  split at k1
  · rename_i hc
    obtain ⟨z, z1, z2⟩ := cell_dct s1 hn1 hc
    cases z2
    split at k1
    · rename_i h15'
      have ex : Ext X.K ρ1 H1 ρ1 (upd H1 p (.dK (mergeK [] kv))) := s1.ext_write hc hn1 rfl
      exact ⟨z1, kv, rfl, by rw [← q4.length]; exact h15', k1 ρ1 _ _ ex (s1.write (c' := .dct (mergeW [] ps)) hc hn1 rfl rfl ⟨_, upd_same, KVR.merge (q4.mono ex) .nil⟩) (.ref hn1)⟩
    · exact k1.elim
  · exact k1.elim
/-- {} -/
def mDict0 : ME := fun _ G => .ok (.ref G.length) (G ++ [.dct []])
theorem he_dict0 : HE X XP (.Dict [] [] pos) mDict0 := by
  refine ⟨_, pe_dnewK, fun ρ E G σ H Q er sr q => ?_⟩
  intro p hp
  have hcell : PL.CR X.K (ρ ++ [p]) (upd H p (.dK [])) (.dct []) p := ⟨[], upd_same, .nil⟩
  exact q (ρ ++ [p]) _ _ (ext_alloc hp) (sr.alloc hp hcell) (.ref (by rw [← sr.len]; exact last_get _ _))

/-! ### methods of built-in types -/
structure MtG (X : Cx) (XP : Wish) (T : String) (id : String) (g : Cells → W → List W → Rs W) : Prop where
  ex : ∃ r, MtR X id r ∧ ∀ ρ G σ H w v ws vs Q, SR X.K ρ G H → VR X.K ρ H w v → VRs X.K ρ H ws vs → Out X.K XP (VR X.K) σ ρ H (g G w ws) Q → r v vs H Q
/-- the receiver's type by its value -/
def isTy (T : String) (G : Cells) : W → Bool
  | .str _ => T == "str"
  | .int _ => T == "int"
  | .ref n => match G[n]? with
    | some (.lst _) => T == "list"
    | some (.rol _) => T == "list"
    | some (.dct _) => T == "dict"
    | _ => false
  | _ => false
theorem isTy_ok {K : Fg} {ρ : List Addr} {G : Cells} {H : Hp} {T : String} {w : W} {v : V} (s : SR K ρ G H) (r : VR K ρ H w v) (h : isTy T G w = true) : tyV K T v H := by
  cases r with
  | str x => show T = "str"; simpa [isTy] using h
  | int i => show T = "int"; simpa [isTy] using h
  | @ref n a hn =>
    obtain ⟨c, hc⟩ := s.at hn
    simp only [isTy, hc] at h
    have k := s.cell n c a hc hn
    cases c with
    | lst ws => obtain ⟨vs, q1, _⟩ := k; exact .inl ⟨by simpa using h, vs, .of q1⟩
    | rol ws =>
      obtain ⟨vs, q1, _⟩ := k
      refine .inl ⟨by simpa using h, vs, ?_⟩
      rcases q1 with ⟨o, q1⟩ | q1
      · exact .inl (.inr ⟨o, q1⟩)
      · exact .inr q1
    | dct kvs => obtain ⟨vs, q1, _⟩ := k; exact .inr (.inr (.inl ⟨by simpa using h, .inl ⟨vs, q1⟩⟩))
    | tct kvs => cases h
    | lkd kvs => cases h
  | _ => cases h
def mMeth (T : String) (g : Cells → W → List W → Rs W) (mo : ME) (m : MA) : ME := fun E G => (mo E G).bind fun w G1 => if isTy T G1 w = true then (m E G1).bind fun ws G2 => g G2 w ws else .no
variable {T id : String} {name : Str} {o e : Expr} {es : List Expr} {apos cpos : Pos} {g : Cells → W → List W → Rs W}
theorem he_meth0 {mo : ME} (pa : PlainAttrs T) (slot : Slot T name id) (hty : typeOf (.builtin id) = pure (.type "method_descriptor")) (hm : MtG X XP T id g) (ho : HE X XP o mo)
    (hbase : attributeBase o name X.env (eval o X.env) = eval o X.env := by rfl) (hline : (apos.endLine == cpos.line) = true := by rfl) : HE X XP (.Call (.Attribute o name apos) [] [] cpos) (mMeth T g mo mNil) := by
  obtain ⟨r, h1, h2⟩ := hm.ex
  obtain ⟨t, a1, a2⟩ := ho.ex
  refine ⟨_, pe_bm0 pa slot hty h1 a1 hbase hline, fun ρ E G σ H Q er sr q => a2 ρ E G σ H _ er sr (q.bind fun w G1 ρ1 H1 v e1 s1 q1 k1 => ?_)⟩
  split at k1
  · rename_i ht; exact ⟨isTy_ok s1 q1 ht, h2 ρ1 G1 σ H1 w v [] [] Q s1 q1 .nil k1⟩
  · exact k1.elim
theorem he_meth {mo : ME} {m : MA} (pa : PlainAttrs T) (slot : Slot T name id) (hty : typeOf (.builtin id) = pure (.type "method_descriptor")) (hm : MtG X XP T id g) (ho : HE X XP o mo) (ha : HA X XP (e :: es) m)
    (hbase : attributeBase o name X.env (eval o X.env) = eval o X.env := by rfl)
    (hfew : ((backTo cpos (starEach (e :: es) X.env)).all (fun x => !x.1) && (backToKw cpos (keywordEach [] X.env)).all (fun x => x.1.isSome)
      && decide ((e :: es).length + ([] : List Keyword).length + (if ([] : List Keyword).isEmpty then 0 else 1) < 30)) = true := by rfl)
    (hline : (apos.endLine == cpos.line) = true := by rfl) (hs : starEach (e :: es) X.env = (false, eval e X.env) :: starEach es X.env := by rfl) (hplain : (backTo cpos (starEach es X.env)).any (·.1) = false := by rfl) : HE X XP (.Call (.Attribute o name apos) (e :: es) [] cpos) (mMeth T g mo m) := by
  obtain ⟨r, h1, h2⟩ := hm.ex
  obtain ⟨t, a1, a2⟩ := ho.ex
  obtain ⟨u, b1, b2⟩ := ha.ex
  refine ⟨_, pe_bm pa slot hty h1 a1 b1 hbase hfew hline hs hplain, fun ρ E G σ H Q er sr q => a2 ρ E G σ H _ er sr (q.bind fun w G1 ρ1 H1 v e1 s1 q1 k1 => ?_)⟩
  split at k1
  · rename_i ht
    exact ⟨isTy_ok s1 q1 ht, b2 ρ1 E G1 σ H1 _ (er.mono e1) s1 (k1.bind fun ws G2 ρ2 H2 vs e2 s2 q2 k2 => h2 ρ2 G2 σ H2 w v ws vs Q s2 (q1.mono e2) q2 k2)⟩
  · exact k1.elim
def appendW : Cells → W → List W → Rs W := fun G w ws => match w, ws with
  | .ref n, [y] => (match G[n]? with | some (.lst xs) => if xs.length < sizeLine then .ok .non (G.set n (.lst (xs ++ [y]))) else .no | _ => .no)
  | _, _ => .no
theorem mg_append : MtG X XP "list" "list.append" appendW := by
  refine ⟨_, mt_append, fun ρ G σ H w v ws vs Q s r rs h => ?_⟩
  unfold appendW at h
  split at h
  · cases r with
    | ref hn =>
      cases rs with
      | @cons y yv _ _ r1 r2 =>
        cases r2
        split at h
        · rename_i xs hc
          split at h
          · rename_i hz
            obtain ⟨us, q1, q2⟩ := cell_lst s hn hc
            have ex : Ext X.K ρ H ρ (upd H _ (.lst (us ++ [yv]))) := s.ext_write hc hn rfl
            exact ⟨_, us, _, rfl, rfl, q1, by rw [← q2.length]; exact hz, h ρ _ _ ex (s.write (c' := .lst (xs ++ [_])) hc hn rfl rfl ⟨_, upd_same, (q2.mono ex).append (.cons (r1.mono ex) .nil)⟩) .non⟩
          · exact h.elim
        · exact h.elim
  · exact h.elim
def popW : Cells → W → List W → Rs W := fun G w ws => match w, ws with
  | .ref n, [] => (match G[n]? with | some (.lst xs) => (match xs[xs.length - 1]? with | some y => .ok y (G.set n (.lst xs.dropLast)) | none => .no) | _ => .no)
  | .ref n, [.int i] => (match G[n]? with
    | some (.lst xs) => if -(2 ^ 63) ≤ i ∧ i < 2 ^ 63 then (match seqIndex? i xs.length with
      | some k => (match xs[k]? with | some y => .ok y (G.set n (.lst (xs.eraseIdx k))) | none => .no)
      | none => .no) else .no
    | _ => .no)
  | _, _ => .no
theorem VRs.dropLast {K : Fg} {ρ : List Addr} {H : Hp} {ws : List W} {vs : List V} (h : VRs K ρ H ws vs) : VRs K ρ H ws.dropLast vs.dropLast := by
  rw [List.dropLast_eq_take, List.dropLast_eq_take, h.length]
  exact h.take _
theorem VRs.erase {K : Fg} {ρ : List Addr} {H : Hp} {ws : List W} {vs : List V} (h : VRs K ρ H ws vs) (k : Nat) : VRs K ρ H (ws.eraseIdx k) (vs.eraseIdx k) := by
  rw [List.eraseIdx_eq_take_drop_succ, List.eraseIdx_eq_take_drop_succ]
  exact (h.take _).append (h.drop _)
theorem mg_pop : MtG X XP "list" "list.pop" popW := by
  refine ⟨_, MtR.or mt_pop mt_popAt, fun ρ G σ H w v ws vs Q s r rs h => ?_⟩
  unfold popW at h
  split at h
  · cases r with
    | ref hn =>
      cases rs
      split at h
      · rename_i xs hc
        split at h
        · rename_i y hy
          obtain ⟨us, q1, q2⟩ := cell_lst s hn hc
          obtain ⟨u, f1, f2⟩ := q2.get hy
          have ex : Ext X.K ρ H ρ (upd H _ (.lst us.dropLast)) := s.ext_write hc hn rfl
          exact .inl ⟨_, us, u, rfl, rfl, q1, by rw [← q2.length]; exact f1, h ρ _ _ ex (s.write (c' := .lst xs.dropLast) hc hn rfl rfl ⟨_, upd_same, (q2.mono ex).dropLast⟩) (f2.mono ex)⟩
        · exact h.elim
      · exact h.elim
  · cases r with
    | ref hn =>
      cases rs with
      | cons r1 r2 =>
        cases r2
        cases r1
        split at h
        · rename_i xs hc
          split at h
          · rename_i hb
            split at h
            · rename_i k hk
              split at h
              · rename_i y hy
                obtain ⟨us, q1, q2⟩ := cell_lst s hn hc
                obtain ⟨u, f1, f2⟩ := q2.get hy
                have ex : Ext X.K ρ H ρ (upd H _ (.lst (us.eraseIdx k))) := s.ext_write hc hn rfl
                exact .inr ⟨_, us, _, k, u, rfl, rfl, q1, hb.1, hb.2, by rw [← q2.length]; exact hk, f1, h ρ _ _ ex (s.write (c' := .lst (xs.eraseIdx k)) hc hn rfl rfl ⟨_, upd_same, (q2.mono ex).erase k⟩) (f2.mono ex)⟩
              · exact h.elim
            · exact h.elim
          · exact h.elim
        · exact h.elim
  · exact h.elim
end
end PL
/- part PLk -/
set_option maxHeartbeats 4000000
namespace PL
open PySem PySem.Spec PyProof.Rows L2
/-! ### data -/
def mapO {α β : Type} (f : α → Option β) : List α → Option (List β)
  | [] => some []
  | x :: xs => match f x, mapO f xs with
    | some y, some ys => some (y :: ys)
    | _, _ => none
def keyD : Key → PyData
  | .inl i => .int i
  | .inr x => .str x
def dat (G : Cells) : Nat → W → Option PyData
  | 0, _ => none
  | k + 1, w => match w with
    | .non => some .none
    | .bl b => some (.bool b)
    | .int i => some (.int i)
    | .str x => some (.str x)
    | .ty _ => none
    | .fn _ => none
    | .tup ws => (mapO (dat G k) ws).map .tuple
    | .ref n => match G[n]? with
      | some (.lst ws) => (mapO (dat G k) ws).map .list
      | some (.rol ws) => (mapO (dat G k) ws).map .list
      | some (.dct kvs) => (mapO (fun p => (dat G k p.2).map fun d => (keyD p.1, d)) kvs).map .dict
      | _ => none
section
variable {X : Cx} {pins : List (Addr × Obj)} {σ : St} {H : Hp} {s : Shared} {ρ : List Addr} {G : Cells}
/-- what is told of a value -/
def DR (k : Nat) (h : Heap) (u : Value) (d : PyData) : Prop := ∃ as, Reads h u d as ∧ sysModules ∉ as ∧ d.depth ≤ k
def DRs (k : Nat) (h : Heap) (us : List Value) (ds : List PyData) : Prop := ∃ as, ReadsAll h us ds as ∧ sysModules ∉ as ∧ PyData.depthAll ds ≤ k
theorem mapO_cons {α β : Type} {f : α → Option β} {x : α} {xs : List α} {zs : List β} (h : mapO f (x :: xs) = some zs) : ∃ y ys, f x = some y ∧ mapO f xs = some ys ∧ zs = y :: ys := by
  unfold mapO at h
  split at h
  · rename_i y ys h1 h2; cases h; exact ⟨y, ys, h1, h2, rfl⟩
  · cases h
theorem drs_of {k : Nat} (ih : ∀ w v u d, VR X.K ρ H w v → RelV v u → dat G k w = some d → DR k s.heap u d) : ∀ (ws : List W) (vs : List V) (us : List Value) (ds : List PyData), VRs X.K ρ H ws vs → Vals vs us → mapO (dat G k) ws = some ds → DRs k s.heap us ds
  | _, _, _, _, .nil, .nil, h => by cases h; exact ⟨[], .nil, by simp, by simp [PyData.depthAll]⟩
  | _, _, _, _, .cons r rr, .cons v vv, h => by
    obtain ⟨y, ys, h1, h2, rfl⟩ := mapO_cons h
    obtain ⟨as, a1, a2, a3⟩ := ih _ _ _ _ r v h1
    obtain ⟨bs, b1, b2, b3⟩ := drs_of ih _ _ _ _ rr vv h2
    refine ⟨as ++ bs, .cons a1 b1, ?_, by simp only [PyData.depthAll]; omega⟩
    simp only [List.mem_append, not_or]
    exact ⟨a2, b2⟩
theorem key_reads {h : Heap} {k : Key} {u : Value} (hk : keyIs k u = true) : Reads h u (keyD k) [] := by
  rcases keyIs_shape hk with ⟨i, t, rfl, rfl⟩ | ⟨x, t, rfl, rfl⟩
  · exact .int i t
  · exact .str x t
theorem drk_of {P : Program} {w : World} {k : Nat} (ih : ∀ w v u d, VR X.K ρ H w v → RelV v u → dat G k w = some d → DR k s.heap u d) : ∀ (kvs : List (Key × W)) (q : List (Key × V)) (qs : List (Key × Value)) (es : List DictEntry) (ds : List (PyData × PyData)),
    KVR X.K ρ H kvs q → KV q qs → Pairs (mixKind P w) es qs → mapO (fun p => (dat G k p.2).map fun d => (keyD p.1, d)) kvs = some ds →
    ∃ as, ReadsAll s.heap (es.map (·.key)) (ds.map (·.1)) [] ∧ ReadsAll s.heap (es.map (·.val)) (ds.map (·.2)) as ∧ sysModules ∉ as ∧ PyData.depthKv ds ≤ k
  | _, _, _, _, _, .nil, .nil, .nil, h => by cases h; exact ⟨[], .nil, .nil, by simp, by simp [PyData.depthKv]⟩
  | _, _, _, _, _, .cons (k := k0) r rr, .cons v vv, .cons (e := en) e1 e2 e3, h => by
    obtain ⟨y, ys, h1, h2, rfl⟩ := mapO_cons h
    simp only [Option.map_eq_some_iff] at h1
    obtain ⟨d, h1, rfl⟩ := h1
    obtain ⟨as, a1, a2, a3⟩ := ih _ _ _ _ r v.2 h1
    obtain ⟨bs, b0, b1, b2, b3⟩ := drk_of ih _ _ _ _ _ rr vv e3 h2
    have hd : (keyD k0).depth = 0 := by cases k0 <;> simp [keyD, PyData.depth]
    have hk1 : keyIs k0 en.key = true := by have e := e1; rw [mixKind_is, ← v.1] at e; exact e
    refine ⟨as ++ bs, ?_, ?_, ?_, ?_⟩
    · exact ReadsAll.cons (as := []) (bs := []) (key_reads hk1) b0
    · rw [List.map_cons, List.map_cons, e2]
      exact ReadsAll.cons a1 b1
    · simp only [List.mem_append, not_or]
      exact ⟨a2, b2⟩
    · simp only [PyData.depthKv]
      omega

theorem dat_reads (hsys : SysD X.base) (I : Inv X pins σ H s) (sr : SR X.K ρ G H) : ∀ (k : Nat) (w : W) (v : V) (u : Value) (d : PyData), VR X.K ρ H w v → RelV v u → dat G k w = some d → DR k s.heap u d
  | 0, _, _, _, _, _, _, h => by cases h
  | k + 1, _, _, _, _, .non, r, h => by cases h; cases r; exact ⟨[], .none, by simp, by simp [PyData.depth]⟩
  | k + 1, _, _, _, _, .bl b, r, h => by cases h; cases r; exact ⟨[], .bool b, by simp, by simp [PyData.depth]⟩
  | k + 1, _, _, _, _, .int i, r, h => by cases h; obtain ⟨t, rfl⟩ := r; exact ⟨[], .int i t, by simp, by simp [PyData.depth]⟩
  | k + 1, _, _, _, _, .str x, r, h => by cases h; obtain ⟨t, rfl⟩ := r; exact ⟨[], .str x t, by simp, by simp [PyData.depth]⟩
  | k + 1, _, _, _, _, .ty _, r, h => by cases h
  | k + 1, _, _, _, _, .fn _, r, h => by cases h
  | k + 1, _, _, _, _, .tup (ws := ws) (vs := vs) h1 h2, r, h => by
    cases r
    simp only [dat, Option.map_eq_some_iff] at h
    obtain ⟨ds, hd, rfl⟩ := h
    obtain ⟨its, rv, ⟨o, ho, hc, n, hdt⟩, _⟩ := I.tuple (.of h1)
    obtain ⟨as, a1, a2, a3⟩ := drs_of (dat_reads hsys I sr k) ws vs its ds h2 rv hd
    exact ⟨as, .tuple ho hc hdt a1, a2, by simp only [PyData.depth]; omega⟩
  | k + 1, _, _, _, _, .ref (n := n) hn, r, h => by
    cases r
    obtain ⟨c, hcell⟩ := sr.at hn
    simp only [dat, hcell] at h
    have lst : ∀ {ws : List W} {d : PyData}, rdL G n = some ws → (mapO (dat G k) ws).map PyData.list = some d → DR (k + 1) s.heap (.ref _) d := fun {ws d} hr h => by
      simp only [Option.map_eq_some_iff] at h
      obtain ⟨ds, hd, rfl⟩ := h
      obtain ⟨vs, h1, h2⟩ := rdL_ok sr hn hr
      obtain ⟨its, rv, ⟨o, m, ho, hc, _, hdt⟩, _⟩ := I.list h1
      obtain ⟨as, a1, a2, a3⟩ := drs_of (dat_reads hsys I sr k) ws vs its ds h2 rv hd
      refine ⟨_, .list ho hc hdt a1, fun hm => ?_, by simp only [PyData.depth]; omega⟩
      rcases List.mem_cons.mp hm with e | hm
      · obtain ⟨od, es, en, g1, g2⟩ := hsys
        have g3 := I.bk _ _ g1
        rw [e, ho] at g3
        cases g3
        rw [hdt] at g2
        cases g2
      · exact a2 hm
    cases c with
    | lst ws => exact lst (by unfold rdL; rw [hcell]) h
    | rol ws => exact lst (by unfold rdL; rw [hcell]) h
    | dct kvs =>
      simp only [Option.map_eq_some_iff] at h
      obtain ⟨ds, hd, rfl⟩ := h
      obtain ⟨q, h1, h2⟩ := cell_dct sr hn hcell
      obtain ⟨_, hs1, qs, hkv, o, es, ep, ho, hex, hdt, _, hp, _⟩ := I.hok _ _ h1
      have hne := (beq_eq_false_iff_ne.mp hs1).symm
      obtain ⟨as, a0, a1, a2, a3⟩ := drk_of (dat_reads hsys I sr k) kvs q qs es.toList ds h2 hkv hp hd
      refine ⟨_, .dict ho hex.1 hdt a0 a1, ?_, by simp only [PyData.depth]; omega⟩
      simp only [List.append_nil, List.cons_append, List.nil_append, List.mem_cons, not_or]
      exact ⟨hne, a2⟩
    | tct kvs => cases h
    | lkd kvs => cases h

/-! ### repr -/
def showOk (d : PyData) : Bool := d.showable && decide (d.shown.length ≤ sizeLine)
def reprW : GCall := fun G ws => match ws with
  | [w] => (match dat G 60 w with | some d => if showOk d = true then .ok (.str d.shown) G else .no | none => .no)
  | _ => .no
end
section
variable {X : Cx} {XP : Wish} {k : Nat}
theorem same_of_keep {pins : List (Addr × Obj)} {σ : St} {H : Hp} {s : Shared} {h' : Heap} {tk : Nat} (I : Inv X pins σ H s) (hk : ∀ b o, s.heap.get? b = some o → h'.get? b = some o) : Inv X pins σ H { s with heap := h', toks := tk } := I.kept hk
theorem cg_repr (c : GC X XP k) : CaG X XP (.builtin "repr") reprW := by
  refine ⟨fun vs H Q => ∃ ρ G σ ws, SR X.K ρ G H ∧ VRs X.K ρ H ws vs ∧ Out X.K XP (VR X.K) σ ρ H (reprW G ws) Q, fun pins s σ H xs us Q I r h => ?_, fun ρ G σ H ws vs Q sr r o => ⟨ρ, G, σ, ws, sr, r, o⟩⟩
  obtain ⟨ρ, G, σ', ws, sr, rw', o⟩ := h
  unfold reprW at o
  split at o
  · rename_i w
    split at o
    · rename_i d hd
      split at o
      · rename_i hs
        cases rw' with
        | cons r1 r2 =>
          cases r2
          obtain ⟨u, rfl, ru⟩ := vals1 r
          obtain ⟨as, a1, a2, a3⟩ := dat_reads c.sys I sr 60 _ _ _ _ r1 ru hd
          simp only [showOk, Bool.and_eq_true, decide_eq_true_eq] at hs
          obtain ⟨h1, h3⟩ := hs
          have fin : ∀ {h' : Heap} {tk : Nat} {t : Tok}, (∀ b o, s.heap.get? b = some o → h'.get? b = some o) → EP X pins σ Q (.str d.shown t) { s with heap := h', toks := tk } := fun hk => ⟨.str d.shown, H, I.kept hk, ⟨_, rfl⟩, o.ok sr (.str _)⟩
          have hu := c.room.room.units
          cases a1 with
          | none => simp only [PyData.shown] at fin; exact PySem.P.repr_of_none (fin (h' := s.heap) fun _ _ e => e)
          | bool b => simp only [PyData.shown] at fin; exact PySem.P.repr_of_bool (fin (h' := s.heap) fun _ _ e => e)
          | int i t => simp only [PyData.shown] at fin; exact PySem.P.repr_of_int (by simpa [PyData.showable] using h1) (fin (h' := s.heap) fun _ _ e => e)
          | str x t => simp only [PyData.shown] at fin h3; exact PySem.P.repr_of_str (fin (h' := s.heap) fun _ _ e => e) h3
          | list b1 b2 b3 b4 => exact repr_of_reads' (.list b1 b2 b3 b4) h1 (fun _ => a2) c.room.grd (by omega) (fun _ _ e => e) (fun h' u tk hk => fin hk) h3
          | tuple b1 b2 b3 b4 => exact repr_of_reads' (.tuple b1 b2 b3 b4) h1 (fun _ => a2) c.room.grd (by omega) (fun _ _ e => e) (fun h' u tk hk => fin hk) h3
          | dict b1 b2 b3 b4 b5 => exact repr_of_reads' (.dict b1 b2 b3 b4 b5) h1 (fun _ => a2) c.room.grd (by omega) (fun _ _ e => e) (fun h' u tk hk => fin hk) h3
      · exact o.elim
    · exact o.elim
  · exact o.elim
end
end PL
/- part PLl -/
set_option maxHeartbeats 4000000
namespace PL
open PySem PySem.Spec PyProof.Rows L2
/-! ### a dict beside a text -/
section
variable {A : Around} {s : Shared}
theorem dict_declines_str (l : Addr) (cs : Value) (dd : Option Addr) (es : Array DictEntry) (ep : Nat) (sl : Array (Option Value)) (b : Str) (u : Tok) :
    Meets (Builtin.«dict.__eq__» ⟨[.ref l, .str b u], []⟩) (fun _ R st => st.heap.get? l = some ⟨cs, dd, .dict es ep, sl⟩ ∧ R (.ok (.ret Value.notImplemented)) st) :=
  .of_wp fun prog w A R st h => by
    obtain ⟨hp1, gn, dr, tks, osx⟩ := st
    obtain ⟨hl, h⟩ := h
    have q1 := F.sub_str_dict
    wp_walk using AutoSeq1.wpAny_loadPart' hl
    all_goals exact ⟨_, rfl, h⟩
theorem str_declines_dict (b : Str) (u : Tok) (l : Addr) (cs : Value) (dd : Option Addr) (es : Array DictEntry) (ep : Nat) (sl : Array (Option Value)) :
    Meets (Builtin.«str.__eq__» ⟨[.str b u, .ref l], []⟩) (fun _ R st => st.heap.get? l = some ⟨cs, dd, .dict es ep, sl⟩ ∧ R (.ok (.ret Value.notImplemented)) st) :=
  .of_wp fun prog w A R st h => by
    obtain ⟨hp1, gn, dr, tks, osx⟩ := st
    obtain ⟨hl, h⟩ := h
    wp_walk using AutoSeq1.wpAny_loadPart' hl
    all_goals exact ⟨_, rfl, h⟩
theorem rc_dict_str {l : Addr} {o : Obj} {es : Array DictEntry} {ep : Nat} (b : Str) (u : Tok) (ho : s.heap.get? l = some o) (hc : o.cls = .type "dict") (hd : o.data = .dict es ep) (hu : A.units < cLine) : SeqAt.RcAt A s (.ref l) (.str b u) false := fun prog w E Q h => by
  obtain ⟨cls, dd, data, sl⟩ := o
  simp only at hc hd
  subst hc hd
  exact SeqAt.rc_eq_decline_or (k := false) ⟨_, ho, rfl⟩ (typeIs_str s b u) (by decide) F.sub_str_dict F.slot_dict_eq F.slot_str_eq_refl
    (fun _ hq => call_meets F.slot_dict_eq ⟨_, ho, rfl⟩ F.entry_dict_eq (F.args_dict_eq_2 _ _) (dict_declines_str l _ dd es ep sl b u) ⟨ho, hq⟩)
    (fun _ hq => call_meets F.slot_str_eq_refl (typeIs_str s b u) F.entry_str_eq (F.args_str_eq_2 _ _) (str_declines_dict b u l _ dd es ep sl) ⟨ho, hq⟩)
    (fun _ hq => wpAny_of_eq (rfl : isSame (.ref l) (.str b u) = pure false) hq) (.inr hu) h
theorem rc_str_dict {l : Addr} {o : Obj} {es : Array DictEntry} {ep : Nat} (b : Str) (u : Tok) (ho : s.heap.get? l = some o) (hc : o.cls = .type "dict") (hd : o.data = .dict es ep) (hu : A.units < cLine) : SeqAt.RcAt A s (.str b u) (.ref l) false := fun prog w E Q h => by
  obtain ⟨cls, dd, data, sl⟩ := o
  simp only at hc hd
  subst hc hd
  exact SeqAt.rc_eq_decline_or (k := false) (typeIs_str s b u) ⟨_, ho, rfl⟩ (by decide) F.sub_dict_str F.slot_str_eq F.slot_dict_eq_refl
    (fun _ hq => call_meets F.slot_str_eq (typeIs_str s b u) F.entry_str_eq (F.args_str_eq_2 _ _) (str_declines_dict b u l _ dd es ep sl) ⟨ho, hq⟩)
    (fun _ hq => call_meets F.slot_dict_eq_refl ⟨_, ho, rfl⟩ F.entry_dict_eq (F.args_dict_eq_2 _ _) (dict_declines_str l _ dd es ep sl b u) ⟨ho, hq⟩)
    (fun _ hq => wpAny_of_eq (rfl : isSame (.str b u) (.ref l) = pure false) hq) (.inr hu) h
end
/-! ### == -/
def eqK (G : Cells) (x y : W) : Option Bool := match x, y with
  | .tup xs, .tup ys => if xs.isEmpty || ys.isEmpty then some (xs.isEmpty && ys.isEmpty) else none
  | .tup _, .str _ => some false
  | .str _, .tup _ => some false
  | .ref n, .str _ => (match G[n]? with | some (.dct _) => some false | some (.lst _) => some false | _ => none)
  | .str _, .ref n => (match G[n]? with | some (.dct _) => some false | some (.lst _) => some false | _ => none)
  | _, _ => none
def eqW (G : Cells) (x y : W) : Option Bool := match dat G 60 x, dat G 60 y with
  | some d, some e => if SeqAt.shaped d && SeqAt.shaped e then some (PyData.eqv d e) else eqK G x y
  | _, _ => eqK G x y
def scW : W → Option V
  | .non => some .non
  | .bl b => some (.bl b)
  | .int i => some (.int i)
  | .str x => some (.str x)
  | _ => none
def eqS (x y : W) : Option Bool := match scW x, scW y with
  | some v, some u => if scal v u = true then some (decide (v = u)) else none
  | _, _ => none
def eqOp : GOp := fun G x y => match eqS x y with
  | some b => .ok (.bl b) G
  | none => (match eqW G x y with | some b => .ok (.bl b) G | none => .no)
def neOp : GOp := fun G x y => match eqS x y with
  | some b => .ok (.bl (!b)) G
  | none => (match dat G 60 x, dat G 60 y with
    | some d, some e => if SeqAt.shaped d && SeqAt.shaped e then .ok (.bl (!PyData.eqv d e)) G else .no
    | _, _ => .no)
section
variable {X : Cx} {XP : Wish} {k : Nat}
theorem eqK_rc {pins : List (Addr × Obj)} {σ : St} {H : Hp} {s : Shared} {ρ : List Addr} {G : Cells} {x y : W} {v u : V} {a b : Value} {r : Bool} (I : Inv X pins σ H s) (sr : SR X.K ρ G H) (hu : X.A.units < cLine)
    (r1 : VR X.K ρ H x v) (r2 : VR X.K ρ H y u) (ra : RelV v a) (rb : RelV u b) (h : eqK G x y = some r) : SeqAt.RcAt X.A s a b r := by
  unfold eqK at h
  split at h
  · cases r1 with
    | tup h1 h2 =>
      cases r2 with
      | tup g1 g2 =>
        cases ra; cases rb
        obtain ⟨its, rv, p, _⟩ := I.tuple (.of h1)
        obtain ⟨its2, rv2, p2, _⟩ := I.tuple (.of g1)
        have l1 := rv.length
        have l2 := h2.length
        have l3 := rv2.length
        have l4 := g2.length
        split at h
        · rename_i hc
          have hm : min its.toArray.size its2.toArray.size = 0 := by
            simp only [Bool.or_eq_true, List.isEmpty_iff] at hc
            simp only [List.size_toArray]
            rcases hc with e | e <;> (subst e; simp only [List.length_nil] at l2 l4; omega)
          have q := SeqAt.RcAt.tuples (A := X.A) (s := s) (e := fun _ => true) p p2 hu fun j h1 h2 => by
            simp only [List.size_toArray] at hm h1 h2
            omega
          have e : r = ((List.range (min its.toArray.size its2.toArray.size)).all (fun _ => true) && its.toArray.size == its2.toArray.size) := by
            rw [hm]
            rw [← Option.some.inj h]
            simp only [List.size_toArray, List.range_zero, List.all_nil, Bool.true_and]
            simp only [List.size_toArray] at hm
            rw [Bool.eq_iff_iff]
            simp only [Bool.and_eq_true, List.isEmpty_iff, beq_iff_eq]
            constructor
            · rintro ⟨rfl, rfl⟩; simp only [List.length_nil] at l2 l4; omega
            · intro he
              exact ⟨List.eq_nil_of_length_eq_zero (by omega), List.eq_nil_of_length_eq_zero (by omega)⟩
          rw [e]; exact q
        · cases h
  · cases h
    cases r1 with
    | tup h1 h2 =>
      cases r2; cases ra
      obtain ⟨t, rfl⟩ := rb
      obtain ⟨its, rv, p, _⟩ := I.tuple (.of h1)
      exact SeqAt.RcAt.tuple_str _ t p hu
  · cases h
    cases r2 with
    | tup h1 h2 =>
      cases r1; cases rb
      obtain ⟨t, rfl⟩ := ra
      obtain ⟨its, rv, p, _⟩ := I.tuple (.of h1)
      exact SeqAt.RcAt.str_tuple _ t p hu
  · cases r1 with
    | ref hn =>
      cases r2; cases ra
      obtain ⟨t, rfl⟩ := rb
      split at h
      · rename_i hc
        cases h
        obtain ⟨q, h1, h2⟩ := cell_dct sr hn hc
        obtain ⟨_, _, _, _, o, es, ep, ho, hex, hdt, _⟩ := I.hok _ _ h1
        exact rc_dict_str _ t ho hex.1 hdt hu
      · rename_i hc
        cases h
        obtain ⟨vs, h1, h2⟩ := cell_lst sr hn hc
        obtain ⟨its, rv, p, _⟩ := I.list (.of h1)
        exact SeqAt.RcAt.list_str _ t p.isList hu
      · cases h
  · cases r2 with
    | ref hn =>
      cases r1; cases rb
      obtain ⟨t, rfl⟩ := ra
      split at h
      · rename_i hc
        cases h
        obtain ⟨q, h1, h2⟩ := cell_dct sr hn hc
        obtain ⟨_, _, _, _, o, es, ep, ho, hex, hdt, _⟩ := I.hok _ _ h1
        exact rc_str_dict _ t ho hex.1 hdt hu
      · rename_i hc
        cases h
        obtain ⟨vs, h1, h2⟩ := cell_lst sr hn hc
        obtain ⟨its, rv, p, _⟩ := I.list (.of h1)
        exact SeqAt.RcAt.str_list _ t p.isList hu
      · cases h
  · cases h
/-- an operation that changes nothing, by what it answers -/
theorem og_of {f : Value → Value → Sem Value} {g : GOp} (h : ∀ (pins : List (Addr × Obj)) (s : Shared) (σ : St) (H : Hp) (ρ : List Addr) (G : Cells) (x y : W) (v u : V) (a b : Value) (Q : VK) (σ' : St), Inv X pins σ H s → SR X.K ρ G H → VR X.K ρ H x v → VR X.K ρ H y u → RelV v a → RelV u b → Out X.K XP (VR X.K) σ' ρ H (g G x y) Q →
    wpAny (model X.prog X.w) X.A (f a b) (EP X pins σ Q) X.xe s) : OpG X XP f g := by
  refine ⟨fun v u H Q => ∃ ρ G σ x y, SR X.K ρ G H ∧ VR X.K ρ H x v ∧ VR X.K ρ H y u ∧ Out X.K XP (VR X.K) σ ρ H (g G x y) Q, fun pins s σ H v u a b Q I ra rb q => ?_, fun ρ G σ H x y v u Q sr r1 r2 o => ⟨ρ, G, σ, x, y, sr, r1, r2, o⟩⟩
  obtain ⟨ρ, G, σ', x, y, sr, r1, r2, o⟩ := q
  exact h pins s σ H ρ G x y v u a b Q σ' I sr r1 r2 ra rb o
theorem scW_vr {ρ : List Addr} {K : Fg} {H : Hp} {x : W} {v u : V} (r : VR K ρ H x v) (h : scW x = some u) : v = u := by
  unfold scW at h
  split at h
  · cases r; exact Option.some.inj h
  · cases r; exact Option.some.inj h
  · cases r; exact Option.some.inj h
  · cases r; exact Option.some.inj h
  · cases h
theorem eqS_sc {ρ : List Addr} {K : Fg} {H : Hp} {x y : W} {v u : V} {b : Bool} (r1 : VR K ρ H x v) (r2 : VR K ρ H y u) (h : eqS x y = some b) : scal v u = true ∧ b = decide (v = u) := by
  unfold eqS at h
  split at h
  · rename_i v1 u1 h1 h2
    obtain rfl := scW_vr r1 h1
    obtain rfl := scW_vr r2 h2
    split at h
    · rename_i hs
      exact ⟨hs, (Option.some.inj h).symm⟩
    · cases h
  · cases h
theorem og_eq (c : GC X XP k) : OpG X XP (compareOp .Eq) eqOp := og_of fun pins s σ H ρ G x y v u a b Q σ' I sr r1 r2 ra rb o => by
  have hu := c.room.room.units
  unfold eqOp at o
  split at o
  · rename_i r hr
    obtain ⟨h1, rfl⟩ := eqS_sc r1 r2 hr
    exact op_eq pins s σ H v u a b Q I ra rb ⟨h1, o.ok sr (.bl _)⟩
  split at o
  · rename_i r hr
    have fin : EP X pins σ Q (.bool r) s := ⟨.bl r, H, I, rfl, o.ok sr (.bl _)⟩
    have viaK : eqK G x y = some r → wpAny (model X.prog X.w) X.A (compareOp .Eq a b) (EP X pins σ Q) X.xe s := fun h => eqK_rc I sr (by omega) r1 r2 ra rb h _ _ _ _ fin
    unfold eqW at hr
    split at hr
    · rename_i d e hd he
      split at hr
      · rename_i hs
        cases hr
        simp only [Bool.and_eq_true] at hs
        obtain ⟨as, a1, _, _⟩ := dat_reads c.sys I sr 60 x v a d r1 ra hd
        obtain ⟨bs, b1, _, _⟩ := dat_reads c.sys I sr 60 y u b e r2 rb he
        exact SeqAt.compareEq_shaped a1 b1 hs.1 hs.2 hu fin
      · exact viaK hr
    · exact viaK hr
  · exact o.elim
theorem og_ne (c : GC X XP k) : OpG X XP (compareOp .NotEq) neOp := og_of fun pins s σ H ρ G x y v u a b Q σ' I sr r1 r2 ra rb o => by
  have hu := c.room.room.units
  unfold neOp at o
  split at o
  · rename_i r hr
    obtain ⟨h1, rfl⟩ := eqS_sc r1 r2 hr
    exact op_ne pins s σ H v u a b Q I ra rb ⟨h1, o.ok sr (.bl _)⟩
  split at o
  · rename_i d e hd he
    split at o
    · rename_i hs
      simp only [Bool.and_eq_true] at hs
      obtain ⟨as, a1, _, _⟩ := dat_reads c.sys I sr 60 x v a d r1 ra hd
      obtain ⟨bs, b1, _, _⟩ := dat_reads c.sys I sr 60 y u b e r2 rb he
      exact SeqAt.compareNe_shaped a1 b1 hs.1 hs.2 hu ⟨.bl _, H, I, rfl, o.ok sr (.bl _)⟩
    · exact o.elim
  · exact o.elim
/-! ### in -/
def itemsD : PyData → Option (List PyData)
  | .list xs => some xs
  | .tuple xs => some xs
  | _ => none
def inW (neg : Bool) : GOp := fun G x y => match dat G 60 x, dat G 60 y with
  | some d, some e => (match itemsD e with
    | some xs => if SeqAt.shaped d && SeqAt.shaped e then .ok (.bl (if neg then !xs.any fun z => PyData.eqv z d else xs.any fun z => PyData.eqv z d)) G else .no
    | none => .no)
  | _, _ => .no
theorem shapedAll {xs : List PyData} {e : PyData} (h : itemsD e = some xs) (hs : SeqAt.shaped e = true) : PyData.canLayAll0 xs = true ∧ PyData.depthAll xs ≤ 63 := by
  have h1 := SeqAt.canLay_of_shaped hs
  have h2 := SeqAt.depth_of_shaped hs
  cases e <;> cases h
  · exact ⟨by simpa [PyData.canLay0] using h1, by simp only [PyData.depth] at h2; omega⟩
  · exact ⟨by simpa [PyData.canLay0] using h1, by simp only [PyData.depth] at h2; omega⟩
theorem in_run (neg : Bool) (c : GC X XP k) : OpG X XP (compareOp (if neg then .NotIn else .In)) (inW neg) := og_of fun pins s σ H ρ G x y v u a b Q σ' I sr r1 r2 ra rb o => by
  have hu := c.room.room.units
  unfold inW at o
  split at o
  · rename_i d e hd he
    split at o
    · rename_i xs hx
      split at o
      · rename_i hs
        simp only [Bool.and_eq_true] at hs
        obtain ⟨as, a1, _, _⟩ := dat_reads c.sys I sr 60 x v a d r1 ra hd
        obtain ⟨bs, b1, _, _⟩ := dat_reads c.sys I sr 60 y u b e r2 rb he
        obtain ⟨h1, h2⟩ := shapedAll hx hs.2
        have h3 := SeqAt.canLay_of_shaped hs.1
        have fin : EP X pins σ Q (.bool (if neg then !xs.any fun z => PyData.eqv z d else xs.any fun z => PyData.eqv z d)) s := ⟨.bl _, H, I, rfl, o.ok sr (.bl _)⟩
        have hr : X.A.units + 1 + min (PyData.depthAll xs) d.depth < cLine := by have := Nat.min_le_left (PyData.depthAll xs) d.depth; omega
        cases e <;> cases hx
        · cases neg
          · exact SeqAt.in_list_reads b1 a1 h1 h3 hr fin
          · exact SeqAt.notIn_list_reads b1 a1 h1 h3 hr fin
        · cases neg
          · exact SeqAt.in_tuple_reads b1 a1 h1 h3 hr fin
          · exact SeqAt.notIn_tuple_reads b1 a1 h1 h3 hr fin
      · exact o.elim
    · exact o.elim
  · exact o.elim
theorem og_in (c : GC X XP k) : OpG X XP (compareOp .In) (inW false) := in_run false c
theorem og_notin (c : GC X XP k) : OpG X XP (compareOp .NotIn) (inW true) := in_run true c

/-! ### len, isinstance, int, str, tuple, list -/
def lenW : GCall := fun G ws => match ws with
  | [.str x] => if x.length ≤ sizeLine then .ok (.int x.length) G else .no
  | [.tup xs] => .ok (.int xs.length) G
  | [.ref n] => (match G[n]? with
    | some (.lst xs) => .ok (.int xs.length) G
    | some (.rol xs) => .ok (.int xs.length) G
    | some (.dct kvs) => .ok (.int kvs.length) G
    | _ => .no)
  | _ => .no
theorem CallR.or {f : Value} {r r' : List V → Hp → VK → Prop} (h : CallR X f r) (h' : CallR X f r') : CallR X f (fun xs H Q => r xs H Q ∨ r' xs H Q) := fun pins s σ H xs us Q I rv q =>
  q.elim (h pins s σ H xs us Q I rv) (h' pins s σ H xs us Q I rv)
theorem cg_len : CaG X XP (.builtin "len") lenW := by
  refine ⟨_, CallR.or call_len call_lenD, fun ρ G σ H ws vs Q s r o => ?_⟩
  unfold lenW at o
  split at o
  · cases r with
    | cons r rr =>
      cases rr; cases r
      split at o
      · rename_i hl; exact .inl ⟨_, _, rfl, ⟨hl, rfl⟩, o.ok s (.int _)⟩
      · exact o.elim
  · cases r with
    | cons r rr =>
      cases rr
      cases r with
      | tup h1 h2 => exact .inl ⟨_, _, rfl, .inr ⟨_, .of h1, h2.length⟩, o.ok s (.int _)⟩
  · cases r with
    | cons r rr =>
      cases rr
      cases r with
      | ref hn =>
        split at o
        · rename_i xs hc
          obtain ⟨vs, h1, h2⟩ := rdL_ok s hn (show rdL G _ = some xs by unfold rdL; rw [hc])
          exact .inl ⟨_, _, rfl, .inl ⟨_, h1, h2.length⟩, o.ok s (.int _)⟩
        · rename_i xs hc
          obtain ⟨vs, h1, h2⟩ := rdL_ok s hn (show rdL G _ = some xs by unfold rdL; rw [hc])
          exact .inl ⟨_, _, rfl, .inl ⟨_, h1, h2.length⟩, o.ok s (.int _)⟩
        · rename_i kvs hc
          obtain ⟨q, h1, h2⟩ := cell_dct s hn hc
          exact .inr ⟨_, _, rfl, h1, by rw [← h2.length]; exact o.ok s (.int _)⟩
        · exact o.elim
  · exact o.elim
def tyN (G : Cells) : W → Option String
  | .non => some "NoneType"
  | .bl _ => some "bool"
  | .int _ => some "int"
  | .str _ => some "str"
  | .tup _ => some "tuple"
  | .ref n => (match G[n]? with
    | some (.lst _) => some "list"
    | some (.rol _) => some "list"
    | some (.dct _) => some "dict"
    | _ => none)
  | .ty _ => none
  | .fn _ => none
theorem tyN_ok {K : Fg} {ρ : List Addr} {G : Cells} {H : Hp} {w : W} {v : V} {t : String} (s : SR K ρ G H) (r : VR K ρ H w v) (h : tyN G w = some t) : TyX K H v (.type t) := by
  cases r with
  | non => cases h; exact .base .non
  | bl b => cases h; exact .base (.bl b)
  | int i => cases h; exact .base (.int i)
  | str x => cases h; exact .base (.str x)
  | ty _ => cases h
  | fn _ => cases h
  | tup h1 h2 =>
    cases h
    exact .base (.tup h1)
  | @ref n a hn =>
    obtain ⟨c, hc⟩ := s.at hn
    simp only [tyN, hc] at h
    have k := s.cell n c a hc hn
    cases c with
    | lst ws => cases h; obtain ⟨vs, q1, _⟩ := k; exact .base (.lst q1)
    | rol ws =>
      cases h
      obtain ⟨vs, q1, _⟩ := k
      rcases q1 with ⟨o, q1⟩ | ⟨o, its, n, q1, q2, _⟩
      · exact .base (.frz q1)
      · exact .kList q1 q2
    | dct kvs => cases h; obtain ⟨vs, q1, _⟩ := k; exact .base (.dK q1)
    | tct kvs => cases h
    | lkd kvs => cases h
def isiB (t T : String) : Bool := t == T || (t == "bool" && T == "int")
def knownTy (T : String) : Bool := T == "int" || T == "bool" || T == "str" || T == "tuple" || T == "list" || T == "dict"
theorem isiB_kit {G : Cells} {w : W} {t T : String} (h : tyN G w = some t) (hT : knownTy T = true) : kitB t T = some (isiB t T) := by
  have ht : t = "NoneType" ∨ t = "bool" ∨ t = "int" ∨ t = "str" ∨ t = "tuple" ∨ t = "list" ∨ t = "dict" := by
    cases w with
    | ref n =>
      simp only [tyN] at h
      split at h <;> first | (cases h; simp; done) | cases h
    | ty _ => cases h
    | fn _ => cases h
    | _ => (cases h; simp)
  simp only [knownTy, Bool.or_eq_true, beq_iff_eq] at hT
  rcases ht with rfl | rfl | rfl | rfl | rfl | rfl | rfl <;> rcases hT with ((((rfl | rfl) | rfl) | rfl) | rfl) | rfl <;> decide +kernel
def isiW : GCall := fun G ws => match ws with
  | [w, .ty T] => (match tyN G w with | some t => if knownTy T = true then .ok (.bl (isiB t T)) G else .no | none => .no)
  | _ => .no
theorem cg_isi : CaG X XP (.builtin "isinstance") isiW := by
  refine ⟨_, call_isi, fun ρ G σ H ws vs Q s r o => ?_⟩
  unfold isiW at o
  split at o
  · cases r with
    | cons r rr =>
      cases rr with
      | cons r' rr =>
        cases rr; cases r'
        split at o
        · rename_i t ht
          split at o
          · rename_i hT
            exact ⟨_, _, _, _, _, rfl, .ty _, tyN_ok s r ht, kit_ty (isiB_kit ht hT), o.ok s (.bl _)⟩
          · exact o.elim
        · exact o.elim
  · exact o.elim
def intW : GCall := fun G ws => match ws with
  | [.int i] => .ok (.int i) G
  | [.bl b] => .ok (.int (if b then 1 else 0)) G
  | _ => .no
theorem cg_int : CaG X XP (.type "int") intW := by
  refine ⟨_, call_int1, fun ρ G σ H ws vs Q s r o => ?_⟩
  unfold intW at o
  split at o
  · cases r with
    | cons r rr => cases rr; cases r; exact .inl ⟨_, rfl, o.ok s (.int _)⟩
  · cases r with
    | cons r rr => cases rr; cases r; exact .inr ⟨_, rfl, o.ok s (.int _)⟩
  · exact o.elim
def strW : GCall := fun G ws => match ws with
  | [.int i] => if i.natAbs.log2 < 1920 then .ok (.str (toString i)) G else .no
  | [.str x] => .ok (.str x) G
  | _ => .no
theorem cg_str : CaG X XP (.type "str") strW := by
  refine ⟨_, CallR.or call_str_int SkE.call_str_str, fun ρ G σ H ws vs Q s r o => ?_⟩
  unfold strW at o
  split at o
  · cases r with
    | cons r rr =>
      cases rr; cases r
      split at o
      · rename_i hl; exact .inl ⟨_, rfl, hl, o.ok s (.str _)⟩
      · exact o.elim
  · cases r with
    | cons r rr => cases rr; cases r; exact .inr ⟨_, rfl, o.ok s (.str _)⟩
  · exact o.elim
def tupleW : GCall := fun G ws => match ws with
  | [.tup xs] => .ok (.tup xs) G
  | [.ref n] => (match rdL G n with | some xs => .ok (.tup xs) G | none => .no)
  | _ => .no
theorem cg_tuple : CaG X XP (.type "tuple") tupleW := by
  refine ⟨_, call_tuple_of, fun ρ G σ H ws vs Q s r o => ?_⟩
  unfold tupleW at o
  split at o
  · cases r with
    | cons r rr =>
      cases rr
      cases r with
      | tup h1 h2 => exact ⟨_, _, rfl, .inr ⟨.of h1, o.ok s (.tup h1 h2)⟩⟩
  · cases r with
    | cons r rr =>
      cases rr
      cases r with
      | ref hn =>
        split at o
        · rename_i xs hx
          obtain ⟨vs, h1, h2⟩ := rdL_ok s hn hx
          exact ⟨_, vs, rfl, .inl ⟨h1, fun l hl => out_tup o s h2 hl⟩⟩
        · exact o.elim
  · exact o.elim
def listW : GCall := fun G ws => match ws with
  | [w] => (match rdS G w with | some xs => .ok (.ref G.length) (G ++ [.lst xs]) | none => .no)
  | _ => .no
theorem cg_list : CaG X XP (.type "list") listW := by
  refine ⟨_, call_list_of, fun ρ G σ H ws vs Q s r o => ?_⟩
  unfold listW at o
  split at o
  · cases r with
    | cons r rr =>
      cases rr
      split at o
      · rename_i xs hx
        obtain ⟨a, vs, rfl, h1, h2⟩ := rdS_ok s r hx
        exact ⟨_, vs, rfl, h1, fun l hl => out_lst o s h2 hl⟩
      · exact o.elim
  · exact o.elim
end
end PL
/- part PLm -/
set_option maxHeartbeats 4000000
namespace PL
open PySem PySem.Spec PyProof.Rows L2
/-! ### the law's end -/
theorem scr_vrs {K : Fg} {ρ : List Addr} {H : Hp} : ∀ ns : List Int, VRs K ρ H (ns.map W.int) (ns.map V.int)
  | [] => .nil
  | n :: ns => .cons (.int n) (scr_vrs ns)
theorem law_run {P : Program} {w : World} {K : Fg} {mg mb : Str → Option Value} {k : Nat} {fa a : Addr} {fd : FuncData} {x : Str} {F : PF} {s₁ : Shared} {vs : List Value} {ns : List Int}
    (KX : K.In s₁.heap) (hns : s₁.heap.Ns mainGlobals mg) (hb : s₁.heap.Ns builtinsNs mb) (hbb : ∀ x : Str, x ≠ "__name__" → mb x = bootBuiltins x) (hlim : s₁.heap.NoLimit) (hg : s₁.gens = #[])
    (ha : s₁.heap.get? a = some { cls := .type "list", data := .seq vs.toArray }) (hi : IntsAre vs ns) (hl : ns.length ≤ sizeLine) (hr : Room k callerA)
    (hsd : SysD s₁.heap) (hF : ∀ base : Heap, K.In base → base.Ns mainGlobals mg → SysD base → FnG P w K mg base k fa fd [x] F) (hbind : ∀ (s : Shared) (u : Value), BindsTo s fd ⟨[u], []⟩ [(x, u)])
    (hlaw : ∃ G, F [.ref 0] [.rol (ns.map W.int)] = .ok (.bl true) G) :
    codeAny (model P w) callerA (.call (.ref fa) ⟨[.ref a], []⟩) (fun r s' => r = .ok (.ret (.bool true)) ∧ OldK s₁.heap s'.heap ∧ s'.os = s₁.os ∧ AllBare s'.gens) s₁ := by
  have rv := vals_ints hi
  have lenV := hi.length
  obtain ⟨Gl, hlaw⟩ := hlaw
  have core : ∀ H : Hp, Only H → ((∃ o, H a = some (.frz o (.lst (ns.map V.int)))) ∨ KList K a (ns.map V.int)) → HOk P w H s₁.heap → (∀ b, H b ≠ none → b = a) → (H a ≠ none → K.lookup a = none) →
      codeAny (model P w) callerA (.call (.ref fa) ⟨[.ref a], []⟩) (fun r s' => r = .ok (.ret (.bool true)) ∧ OldK s₁.heap s'.heap ∧ s'.os = s₁.os ∧ AllBare s'.gens) s₁ := by
    intro H hO hS hok hA hK
    have atA : ∀ {b : Addr} {u : HO}, H b = some u → b = a := fun q => hA _ (by rw [q]; simp)
    have dictFree : ∀ {b : Addr} {o : Obj} {es : Array DictEntry} {ep : Nat}, s₁.heap.get? b = some o → o.data = .dict es ep → H b = none := fun {b o es ep} e d => by
      cases q : H b with
      | none => rfl
      | some u =>
        cases atA q
        rw [ha] at e
        cases e
        exact absurd (show Data.seq vs.toArray _ = Data.dict es ep from d) (fun z => nomatch z)
    have nsIn : ∀ {b : Addr} {m : Str → Option Value}, s₁.heap.Ns b m → (hidT s₁.heap H).Ns b m := fun {b m} ⟨o, es, ep, e, d, r⟩ => ⟨o, es, ep, hidT_get e (dictFree e d), d, r⟩
    have kIn : K.In (hidT s₁.heap H) := fun b o e => hidT_get (KX b o e) (by
      cases q : H b with
      | none => rfl
      | some u =>
        cases atA q
        rw [hK (by rw [q]; simp)] at e
        cases e)
    have md : Mod K mg (hidT s₁.heap H) := ⟨kIn, nsIn hns, ⟨mb, nsIn hb, hbb⟩, let ⟨mc, h1, h2⟩ := hlim; ⟨mc, nsIn h1, h2⟩⟩
    have e0 : Env0 P w K mg (hidT s₁.heap H) callerA [] s₁ H := ⟨rfl, md, fun b o e => of_hidT e, Nat.le_of_eq (hidT_size _ _), trivial, fun b z => absurd (show b ∈ ([] : List Addr) from z) (by simp), hok, .of_eq hg⟩
    have sr : SR K [a] [.rol (ns.map W.int)] H := by
      refine ⟨rfl, fun n c b h1 h2 => ?_, fun n m b c d h1 h2 h3 h4 h5 h6 => ?_⟩
      · cases n with
        | zero => cases h1; cases h2; exact ⟨ns.map V.int, hS, scr_vrs ns⟩
        | succ n => simp at h1
      · cases n with
        | zero => cases h3; cases h4
        | succ n => simp at h3
    have sp : spP K mg F [.ref a] H (fun v _ => v = .bl true) (fun _ _ _ => False) := by
      refine ⟨[a], [.rol (ns.map W.int)], [.ref 0], .cons (.ref rfl) .nil, sr, ?_⟩
      rw [hlaw]
      intro ρ' H' v _ _ r
      cases r
      rfl
    refine codeAny_mono ((hF _ kIn (nsIn hns) (let ⟨o, es, n, g1, g2⟩ := hsd; ⟨o, es, n, hidT_get g1 (dictFree g1 g2), g2⟩)).run callerA [] s₁ H ⟨[.ref a], []⟩ [.ref a] [.ref a] _ _ ⟨hr, rfl⟩ e0 (hbind s₁ (.ref a)) (.cons rfl .nil) sp) fun r s' h => ?_
    cases r with
    | error e =>
      obtain ⟨_, _, _, _, _, _, _, _, _, _, _, _, z⟩ := h
      exact (show False from z).elim
    | ok fl =>
      cases fl with
      | ret u =>
        obtain ⟨v, H', os, bare, un, hok', r', q⟩ := h
        cases (show v = .bl true from q)
        cases (show u = Value.bool true from r')
        refine ⟨rfl, OldK.of_keep fun b o e => ?_, os, bare⟩
        cases q : H b with
        | none => exact un.keep b o e q (by intro z; exact absurd (show b ∈ ([] : List Addr) from z) (by simp)) (by simp)
        | some u =>
          rcases hO b with z | ⟨ob, xs, z⟩
          · rw [q] at z; cases z
          · obtain ⟨e1, _⟩ := hok b _ z
            obtain ⟨e2, _⟩ := hok' b _ (un.frzs b ob _ z)
            rw [e] at e1
            cases e1
            exact e2
      | next => exact h.elim
      | brk => exact h.elim
      | cont => exact h.elim
  cases hk : K.lookup a with
  | some o =>
    have e := KX a o hk
    rw [ha] at e
    cases e
    exact core (fun _ => none) (fun _ => .inl rfl) (.inr ⟨_, vs.toArray, _, hk, rfl, rfl, rfl, by rw [List.size_toArray, lenV]; exact hl, by simpa using rv⟩) (fun b u z => nomatch (show (none : Option HO) = some u from z)) (fun b z => absurd rfl z) fun z => absurd rfl z
  | none =>
    have here : ∀ b, (fun b => if b = a then some (HO.frz { cls := .type "list", data := .seq vs.toArray } (.lst (ns.map V.int))) else none : Hp) b ≠ none → b = a := fun b z => by
      by_cases hb : b = a
      · exact hb
      · exact absurd (if_neg hb) z
    refine core (fun b => if b = a then some (.frz { cls := .type "list", data := .seq vs.toArray } (.lst (ns.map V.int))) else none) (fun b => ?_) (.inl ⟨_, if_pos rfl⟩) (fun b u z => ?_) here fun _ => hk
    · by_cases hb : b = a
      · exact .inr ⟨_, _, if_pos hb⟩
      · exact .inl (if_neg hb)
    · have hb : b = a := here b (by rw [z]; simp)
      subst hb
      cases (if_pos rfl).symm.trans z
      exact ⟨ha, by rw [List.length_map]; exact hl, vs, _, rv, ha⟩
theorem sys_of {h : Heap} (x : h.NoSeer) : SysD h := by
  obtain ⟨mm, ⟨o, es, ep, h1, h2, _⟩, _⟩ := x.mods
  exact ⟨o, es, ep, h1, h2⟩
theorem law_walk {l : PySem.W.OpenLaw} {n k : Nat} {q : Program} {loose : List Str} {XP : (Str → Option Value) → Heap → Prop} {YP : World → Heap → Prop} {d : DefRec} {K : Params → Fg} {x : Str} {F : PF}
    (hn : l.most = some n) (hn2 : n ≤ sizeLine) (hdf : d.params.defaults = []) (himp : importsNone q = true) (hr : Room k callerA) (hY : ∀ (w : World) (h : Heap), YP w h → (K w.params).In h)
    (hF : ∀ (w : World) (mg : Str → Option Value) (fa : Addr) (h : Heap), (K w.params).In h → h.Ns mainGlobals mg → mg d.name = some (.ref fa) →
      ∃ fd : FuncData, (∀ (s : Shared) (u : Value), BindsTo s fd ⟨[u], []⟩ [(x, u)]) ∧ ∀ base : Heap, (K w.params).In base → base.Ns mainGlobals mg → SysD base → FnG l.prog w (K w.params) mg base k fa fd [x] F)
    (hlaw : ∀ ns : List Int, ns.length ≤ n → ∃ G, F [.ref 0] [.rol (ns.map W.int)] = .ok (.bl true) G) :
    PySem.W.WalkO q loose XP YP l.row.toRowW d [] (fun f vs => PySem.call f vs) := by
  refine Att.attach_call hn hdf fun w s₀ s₁ mg mb fa o pm cd doc a vs ns G Y ho hd hcd hmg hobj hints hlen hg => ?_
  obtain ⟨fd, hb, hf⟩ := hF w mg fa _ (hY w _ Y) G.T.g hmg
  exact law_run (hY w _ Y) G.T.g G.T.b G.T.builtins G.T.nolimit hg hobj hints (Nat.le_trans hlen hn2) hr (sys_of (G.T.seer himp)) hf hb (hlaw ns hlen)
end PL
/- part PLn -/
set_option maxHeartbeats 4000000
namespace PL
open PySem PySem.Spec PyProof.Rows L2
section
variable {X : Cx} {XP : Wish} {pos : Pos}
/-- a, b = e, f (two local names) -/
def sPar (i j : Nat) (m : MA) : MS := fun E G => liftS (m E G) E fun ws G1 => match ws with
  | [x, y] => .nx ((E.set i (some x)).set j (some y)) G1
  | _ => .no
theorem hs_par {i j : Nat} {x y : Str} {a b : Expr} {m : MA} {px py pt : Pos} {kt k2 pt2} {k : Nat} (c : GC X XP k) (hi : X.N[i]? = some x) (hj : X.N[j]? = some y) (hij : i ≠ j)
    (hx : X.env.scope.names.lookup x = some .local) (hy : X.env.scope.names.lookup y = some .local) (ha : HA X XP [a, b] m)
    (hw : swappedStores [.Tuple [.Name x px, .Name y py] kt pt] (.Tuple [a, b] k2 pt2) X.env = pure (some [x, y]))
    (hs : swapsWithSole [.Tuple [.Name x px, .Name y py] kt pt] (.Tuple [a, b] k2 pt2) pos.line X.env = pure false := by rfl) :
    HS X XP (.Assign [.Tuple [.Name x px, .Name y py] kt pt] (.Tuple [a, b] k2 pt2) pos) (sPar i j m) := by
  obtain ⟨t, a1, a2⟩ := ha.ex
  refine ⟨_, ps_par c.calm c.nd hi hj hij hx hy a1 hw hs, fun ρ E G σ H D er sr q => a2 ρ E G σ H _ er sr (OutS.lift er q fun ws G1 ρ1 H1 vs e1 s1 r1 k1 => ?_)⟩
  split at k1
  · cases r1 with
    | cons r1 rr =>
      cases rr with
      | cons r2 rr =>
        cases rr
        exact ⟨_, _, rfl, k1 ρ1 H1 _ .refl s1 (((er.mono e1).set r1 i).set r2 j)⟩
  · exact k1.elim
/-- a op b op' c op'' d -/
def mChain3 (g g' g'' : GOp) (ma mb mc md : ME) : ME := fun E G => (ma E G).bind fun x G1 => (mb E G1).bind fun y G2 => (g G2 x y).bind fun z G3 =>
  match z with
  | .bl true => (mc E G3).bind fun w G4 => (g' G4 y w).bind fun z2 G5 => (match z2 with
    | .bl true => (md E G5).bind fun u G6 => g'' G6 w u
    | .bl false => .ok (.bl false) G5
    | _ => .no)
  | .bl false => .ok (.bl false) G3
  | _ => .no
def tChain3 (r r' r'' : R2) (ta tb tc td : TE) : TE := fun σ H Q => ta σ H fun x H1 => tb σ H1 fun y H2 => r x y H2 fun z H3 => ∃ k, z = .bl k ∧
  (if k = true then tc σ H3 fun w H4 => r' y w H4 fun z2 H5 => ∃ k2, z2 = .bl k2 ∧ (if k2 = true then td σ H5 fun u H6 => r'' w u H6 Q else Q (.bl false) H5) else Q (.bl false) H3)
theorem pe_chain3 {o1 o2 o3 : CmpOp} {a b c d : Expr} {r r' r'' : R2} {ta tb tc td : TE} (ho : OpR X (compareOp o1) r) (ho' : OpR X (compareOp o2) r') (ho'' : OpR X (compareOp o3) r'') (ha : PE X a ta) (hb : PE X b tb) (hc : PE X c tc) (hd : PE X d td)
    (hm : lastMarks [o1, o2, o3] [b, c, d] = false) : PE X (.Compare a [o1, o2, o3] [b, c, d] pos) (tChain3 r r' r'' ta tb tc td) := by
  refine ⟨fun pins s σ H Q I h => ?_⟩
  refine Compare_chain (thn (ha.run pins s σ H _ I h) fun v s1 ⟨x, H1, I1, r1, q1⟩ => chain_link (thn (hb.run pins s1 σ H1 _ I1 q1) fun u s2 ⟨y, H2, I2, r2, q2⟩ => thn (ho pins s2 σ H2 x y v u _ I2 r1 r2 q2) fun b3 s3 ⟨z, H3, I3, r3, k, e, q3⟩ => ?_)) hm
  subst e
  cases r3
  refine wpAny_truthy_bool ?_
  cases k with
  | false => exact ite_ff ⟨.bl false, H3, I3, rfl, q3⟩
  | true =>
    refine ite_tt (chain_link (thn (hc.run pins s3 σ H3 _ I3 q3) fun w' s4 ⟨z', H4, I4, r4, q4⟩ => thn (ho' pins s4 σ H4 y z' u w' _ I4 r2 r4 q4) fun b5 s5 ⟨z5, H5, I5, r5, k2, e2, q5⟩ => ?_))
    subst e2
    cases r5
    refine wpAny_truthy_bool ?_
    cases k2 with
    | false => exact ite_ff ⟨.bl false, H5, I5, rfl, q5⟩
    | true => exact ite_tt (chain_last (thn (hd.run pins s5 σ H5 _ I5 q5) fun u6 s6 ⟨z6, H6, I6, r6, q6⟩ => ho'' pins s6 σ H6 z' z6 w' u6 Q I6 r4 r6 q6))
theorem he_chain3 {o1 o2 o3 : CmpOp} {a b c d : Expr} {ma mb mc md : ME} {g g' g'' : GOp} (ho : OpG X XP (compareOp o1) g) (ho' : OpG X XP (compareOp o2) g') (ho'' : OpG X XP (compareOp o3) g'') (ha : HE X XP a ma) (hb : HE X XP b mb) (hc : HE X XP c mc) (hd : HE X XP d md)
    (hm : lastMarks [o1, o2, o3] [b, c, d] = false := by with_unfolding_all rfl) : HE X XP (.Compare a [o1, o2, o3] [b, c, d] pos) (mChain3 g g' g'' ma mb mc md) := by
  obtain ⟨r, h1, h2_⟩ := ho.ex
  obtain ⟨r', h1', h2'⟩ := ho'.ex
  obtain ⟨r'', h1'', h2''⟩ := ho''.ex
  obtain ⟨ta, a1, a2⟩ := ha.ex
  obtain ⟨tb, b1, b2⟩ := hb.ex
  obtain ⟨tc, c1, c2⟩ := hc.ex
  obtain ⟨td, d1, d2⟩ := hd.ex
  refine ⟨_, pe_chain3 h1 h1' h1'' a1 b1 c1 d1 hm, fun ρ E G σ H Q er sr h => ?_⟩
  refine a2 ρ E G σ H _ er sr (h.bind fun x G1 ρ1 H1 v e1 s1 r1 h1 => ?_)
  refine b2 ρ1 E G1 σ H1 _ (er.mono e1) s1 (h1.bind fun y G2 ρ2 H2 u e2 s2 r2 h2 => ?_)
  refine h2_ ρ2 G2 σ H2 x y v u _ s2 (r1.mono e2) r2 (h2.bind fun z G3 ρ3 H3 zv e3 s3 r3 h3 => ?_)
  cases r3 with
  | bl b =>
    cases b with
    | false => exact ⟨false, rfl, by rw [if_neg Bool.false_ne_true]; exact h3.ok s3 (.bl false)⟩
    | true =>
      refine ⟨true, rfl, ?_⟩
      rw [if_pos rfl]
      refine c2 ρ3 E G3 σ H3 _ (er.mono (e1.trans (e2.trans e3))) s3 (h3.bind fun w' G4 ρ4 H4 wv e4 s4 r4 h4 => ?_)
      refine h2' ρ4 G4 σ H4 y w' u wv _ s4 (r2.mono (e3.trans e4)) r4 (h4.bind fun z2 G5 ρ5 H5 z2v e5 s5 r5 h5 => ?_)
      cases r5 with
      | bl b2 =>
        cases b2 with
        | false => exact ⟨false, rfl, by rw [if_neg Bool.false_ne_true]; exact h5.ok s5 (.bl false)⟩
        | true =>
          refine ⟨true, rfl, ?_⟩
          rw [if_pos rfl]
          refine d2 ρ5 E G5 σ H5 _ (er.mono (e1.trans (e2.trans (e3.trans (e4.trans e5))))) s5 (h5.bind fun u' G6 ρ6 H6 uv e6 s6 r6 h6 => ?_)
          exact h2'' ρ6 G6 σ H6 w' u' wv uv Q s6 (r4.mono (e5.trans e6)) r6 h6
      | _ => exact h5.elim
  | _ => exact h3.elim
end

/-! ### defs of the text -/
def OkF (P : Program) (w : World) (K : Fg) (mg : Str → Option Value) (base : Heap) (x : Str) (st : Stmt) (ps : List Str) (k : Nat) (F : PF) : Prop :=
  ∃ (a : Addr) (fd : FuncData), Fun K x x st a fd ∧ mg x = some (.ref a) ∧ PySem.W.keepIn K (.ref a) = true ∧ Binds K fd ps [] ∧ FnG P w K mg base k a fd ps F
theorem fnG_fun {P : Program} {w : World} {K : Fg} {mg : Str → Option Value} {base : Heap} {k : Nat} {f : Addr} {fd : FuncData} {x qual : Str} {st : Stmt} {N ps : List Str} {b : MS} (F : Fun K x qual st f fd) (S : FnScope N ps (defScope st)) (hsys : SysD base)
    (hbody : ∀ (cdv : Value) (A : Around) (outer : List Env) (s : Shared) (H : Hp) (E : XK), GC (cxOf (L2.CX P w) P w K mg base N qual (defScope st) f cdv A outer s H E) (wishOf mg K E) k →
      HB (cxOf (L2.CX P w) P w K mg base N qual (defScope st) f cdv A outer s H E) (wishOf mg K E) (defBody st) b) : FnG P w K mg base (k + 1) f fd ps (mFun ps.length N.length b) := by
  obtain ⟨oc, od, kV, doc, pm, an, cdv, ct, osl, rfl, lk, hcd⟩ := F.ex
  exact fnG_of lk hcd S hsys fun A outer s H E c => hbody cdv A outer s H E c
theorem kwB_of {K : Fg} {x qual : Str} {st : Stmt} {f : Addr} {fd : FuncData} {ps ks : List Str} {np : Nat} {perm : List Nat} (F : Fun K x qual st f fd)
    (h : ∀ (kV doc pm : Value) (an : Option Addr) (cdv ct : Value) (us zs : List Value), us.length = np → zs.length = ks.length → bindArgs (PySem.W.fnOf x qual (defArgs st) (defBody st) (defScope st) .none kV doc pm an cdv ct) ⟨us, ks.zip zs⟩ = pure (ps.zip (pick perm (us ++ zs)))) : KwB K fd ps ks np perm := by
  obtain ⟨oc, od, kV, doc, pm, an, cdv, ct, osl, rfl, lk, hcd⟩ := F.ex
  exact fun s us zs _ h1 h2 => .of_eq (h kV doc pm an cdv ct us zs h1 h2)
theorem fun_same {K : Fg} {x qual : Str} {st : Stmt} {f : Addr} {fd fd' : FuncData} (F : Fun K x qual st f fd) (F' : Fun K x qual st f fd') : fd = fd' := by
  obtain ⟨oc, od, kV, doc, pm, an, cdv, ct, osl, e1, lk, _⟩ := F.ex
  obtain ⟨oc', od', kV', doc', pm', an', cdv', ct', osl', e2, lk', _⟩ := F'.ex
  rw [lk] at lk'
  cases lk'
  rfl
end PL
/- part PLo -/
set_option maxHeartbeats 1000000
namespace PL
open PySem PySem.Spec PyProof.Rows L2
/-! ### what a pure run ends with -/
def Rs.sat {α : Type} (r : Rs α) (Q : α → Cells → Prop) : Prop := match r with | .ok a G => Q a G | _ => False
def So.sat (r : So) (N : PEnv → Cells → Prop) (R : W → Cells → Prop) : Prop := match r with | .nx E G => N E G | .rt w G => R w G | _ => False
section
variable {α β : Type}
@[simp] theorem sat_ok (a : α) (G : Cells) (Q : α → Cells → Prop) : (Rs.ok a G).sat Q = Q a G := rfl
@[simp] theorem sat_no (Q : α → Cells → Prop) : (Rs.no : Rs α).sat Q = False := rfl
theorem sat_bind (r : Rs α) (k : α → Cells → Rs β) (Q : β → Cells → Prop) : (r.bind k).sat Q = r.sat fun a G => (k a G).sat Q := by cases r <;> rfl
theorem Rs.sat.mono {r : Rs α} {P Q : α → Cells → Prop} (h : r.sat P) (k : ∀ a G, P a G → Q a G) : r.sat Q := by
  cases r with
  | ok a G => exact k a G h
  | _ => exact h.elim
theorem Rs.sat.bind {r : Rs α} {f : α → Cells → Rs β} {P : α → Cells → Prop} {Q : β → Cells → Prop} (h : r.sat P) (k : ∀ a G, P a G → (f a G).sat Q) : (r.bind f).sat Q := by
  rw [sat_bind]; exact h.mono k
theorem Rs.sat.get {r : Rs α} {Q : α → Cells → Prop} (h : r.sat Q) : ∃ a G, r = .ok a G ∧ Q a G := by
  cases r with
  | ok a G => exact ⟨a, G, rfl, h⟩
  | _ => exact h.elim
theorem so_lift {r : Rs α} {E : PEnv} {k : α → Cells → So} {N : PEnv → Cells → Prop} {R : W → Cells → Prop} : (liftS r E k).sat N R = r.sat fun a G => (k a G).sat N R := by cases r <;> rfl
theorem So.sat.mono {r : So} {N N' : PEnv → Cells → Prop} {R R' : W → Cells → Prop} (h : r.sat N R) (k : ∀ E G, N E G → N' E G) (k' : ∀ w G, R w G → R' w G) : r.sat N' R' := by
  cases r with
  | nx E G => exact k E G h
  | rt w G => exact k' w G h
  | _ => exact h.elim
theorem so_seq {a b : MS} {E : PEnv} {G : Cells} {N : PEnv → Cells → Prop} {R : W → Cells → Prop} (h : (a E G).sat (fun E1 G1 => (b E1 G1).sat N R) R) : (sSeq a b E G).sat N R := by
  unfold sSeq seqS
  cases hm : a E G <;> rw [hm] at h <;> exact h
theorem so_asg {m : ME} {g : MG} {E : PEnv} {G : Cells} {N : PEnv → Cells → Prop} {R : W → Cells → Prop} (h : (m E G).sat fun w G1 => (g w E G1).sat N) : (sAsg m g E G).sat N R := by
  unfold sAsg; rw [so_lift]; refine h.mono fun a G1 q => ?_; rw [so_lift]; exact q
theorem so_set {m : ME} {i : Nat} {E : PEnv} {G : Cells} {N : PEnv → Cells → Prop} {R : W → Cells → Prop} (h : (m E G).sat fun w G1 => N (E.set i (some w)) G1) : (sAsg m (gSet i) E G).sat N R := so_asg h
theorem so_expr {m : ME} {E : PEnv} {G : Cells} {N : PEnv → Cells → Prop} {R : W → Cells → Prop} (h : (m E G).sat fun _ G1 => N E G1) : (sExpr m E G).sat N R := by
  unfold sExpr; rw [so_lift]; exact h
theorem so_ret {m : ME} {E : PEnv} {G : Cells} {N : PEnv → Cells → Prop} {R : W → Cells → Prop} (h : (m E G).sat R) : (sRet m E G).sat N R := by
  unfold sRet; rw [so_lift]; exact h
theorem so_if {c : MT} {a b : MS} {E : PEnv} {G : Cells} {N : PEnv → Cells → Prop} {R : W → Cells → Prop} (h : (c E G).sat fun k G1 => if k = true then (a E G1).sat N R else (b E G1).sat N R) : (sIf c a b E G).sat N R := by
  unfold sIf; rw [so_lift]; refine h.mono fun k G1 q => ?_
  cases k <;> exact q
theorem so_nx {E : PEnv} {G : Cells} {N : PEnv → Cells → Prop} {R : W → Cells → Prop} (h : N E G) : (sNext E G).sat N R := h
theorem so_par {i j : Nat} {m : MA} {E : PEnv} {G : Cells} {N : PEnv → Cells → Prop} {R : W → Cells → Prop} (h : (m E G).sat fun ws G1 => ∃ x y, ws = [x, y] ∧ N ((E.set i (some x)).set j (some y)) G1) : (sPar i j m E G).sat N R := by
  unfold sPar; rw [so_lift]; refine h.mono fun k G1 q => ?_
  obtain ⟨x, y, rfl, q⟩ := q
  exact q
theorem fun_sat {np nn : Nat} {b : MS} {ws : List W} {G : Cells} {Q : W → Cells → Prop} (hl : ws.length = np) (h : (b (ws.map some ++ List.replicate (nn - np) none) G).sat (fun _ G' => Q .non G') Q) : (mFun np nn b ws G).sat Q := by
  unfold mFun
  rw [if_pos hl]
  cases hm : b (ws.map some ++ List.replicate (nn - np) none) G <;> rw [hm] at h <;> exact h
/-! ### loops -/
theorem forL_sat {pit : PIt} {g : MG} {b : MS} {xs : List W} {I : Nat → PEnv → Cells → Prop} {N : PEnv → Cells → Prop} {R : W → Cells → Prop}
    (hat : ∀ i E G, I i E G → pit.at G i = some xs[i]?)
    (hstep : ∀ i w E G, xs[i]? = some w → I i E G → (g w E G).sat fun E1 G1 => (b E1 G1).sat (I (i + 1)) R)
    (hend : ∀ E G, I xs.length E G → N E G) : ∀ n i E G, I i E G → i + n = xs.length → (forL pit g b n i E G).sat N R := by
  intro n
  induction n with
  | zero =>
    intro i E G h e
    have q := hat i E G h
    have hx : xs[i]? = none := List.getElem?_eq_none_iff.mpr (by omega)
    rw [hx] at q
    unfold forL
    rw [q]
    have : i = xs.length := by omega
    subst this
    exact hend E G h
  | succ n ih =>
    intro i E G h e
    have q := hat i E G h
    have hi : i < xs.length := by omega
    have hx : xs[i]? = some xs[i] := List.getElem?_eq_getElem hi
    rw [hx] at q
    unfold forL
    rw [q]
    simp only
    rw [so_lift]
    refine (hstep i _ E G hx h).mono fun E1 G1 h1 => ?_
    cases hb : b E1 G1 with
    | nx E2 G2 => rw [hb] at h1; exact ih (i + 1) E2 G2 h1 (by omega)
    | rt w G2 => rw [hb] at h1; exact h1
    | _ => rw [hb] at h1; exact h1.elim
theorem so_for {mi : MI} {g : MG} {b : MS} {E : PEnv} {G : Cells} {N : PEnv → Cells → Prop} {R : W → Cells → Prop} (xs : List W) (I : Nat → PEnv → Cells → Prop)
    (h : (mi E G).sat fun pit G1 => pit.len G1 = xs.length ∧ I 0 E G1 ∧ ∀ i E' G', I i E' G' → pit.at G' i = some xs[i]?)
    (hstep : ∀ i w E G, xs[i]? = some w → I i E G → (g w E G).sat fun E1 G1 => (b E1 G1).sat (I (i + 1)) R)
    (hend : ∀ E G, I xs.length E G → N E G) : (sFor mi g b E G).sat N R := by
  unfold sFor; rw [so_lift]
  refine h.mono fun pit G1 q => ?_
  obtain ⟨h1, h2, h3⟩ := q
  rw [h1]
  exact forL_sat h3 hstep hend _ 0 E G1 h2 (by omega)
theorem lcL_sat {pit : PIt} {g : MG} {t : MT} {m : ME} {n : Nat} {E : PEnv} {xs : List W} {J : Nat → List W → Cells → Prop}
    (hat : ∀ i acc G, J i acc G → G[n]? = some (.lst acc) → pit.at G i = some xs[i]?)
    (hstep : ∀ i w acc G, xs[i]? = some w → J i acc G → G[n]? = some (.lst acc) → (g w E G).sat fun E1 G1 => (t E1 G1).sat fun k G2 => if k = true then (m E1 G2).sat fun y G3 => G3[n]? = some (.lst acc) ∧ acc.length < sizeLine ∧ J (i + 1) (acc ++ [y]) (G3.set n (.lst (acc ++ [y]))) else G2[n]? = some (.lst acc) ∧ J (i + 1) acc G2) :
    ∀ k i acc G, J i acc G → G[n]? = some (.lst acc) → i + k = xs.length → ∃ G' acc', lcL pit g t m n E k i G = some G' ∧ G'[n]? = some (.lst acc') ∧ J xs.length acc' G' := by
  intro k
  induction k with
  | zero =>
    intro i acc G h hn e
    have q := hat i acc G h hn
    have hx : xs[i]? = none := List.getElem?_eq_none_iff.mpr (by omega)
    rw [hx] at q
    unfold lcL
    rw [q]
    have : i = xs.length := by omega
    subst this
    exact ⟨G, acc, rfl, hn, h⟩
  | succ k ih =>
    intro i acc G h hn e
    have q := hat i acc G h hn
    have hi : i < xs.length := by omega
    have hx : xs[i]? = some xs[i] := List.getElem?_eq_getElem hi
    rw [hx] at q
    unfold lcL
    rw [q]
    simp only
    obtain ⟨E1, G1, e1, h1⟩ := (hstep i _ acc G hx h hn).get
    rw [e1]
    obtain ⟨b, G2, e2, h2⟩ := h1.get
    simp only [e2]
    cases b with
    | true =>
      rw [if_pos rfl] at h2
      obtain ⟨y, G3, e3, h3, h4, h5⟩ := h2.get
      simp only [e3, h3, if_pos h4]
      exact ih (i + 1) _ _ h5 (by
        have hl : n < G3.length := by
          rcases Nat.lt_or_ge n G3.length with h | h
          · exact h
          · rw [List.getElem?_eq_none_iff.mpr h] at h3; cases h3
        rw [List.getElem?_set]; simp [hl]) (by omega)
    | false =>
      simp only [Bool.false_eq_true, if_false] at h2
      exact ih (i + 1) _ _ h2.2 h2.1 (by omega)
theorem lc_sat {mi : MI} {g : MG} {t : MT} {m : ME} {vs : List Nat} {E : PEnv} {G : Cells} {Q : W → Cells → Prop} (xs : List W) (J : Cells → Nat → List W → Cells → Prop)
    (h : (mi E G).sat fun pit G1 => pit.len G1 = xs.length ∧ J G1 0 [] (G1 ++ [.lst []]) ∧ (∀ i acc G', J G1 i acc G' → G'[G1.length]? = some (.lst acc) → pit.at G' i = some xs[i]?) ∧
      (∀ i w acc G', xs[i]? = some w → J G1 i acc G' → G'[G1.length]? = some (.lst acc) → (g w (wipeE E vs) G').sat fun E1 G2 => (t E1 G2).sat fun k G3 => if k = true then (m E1 G3).sat fun y G4 => G4[G1.length]? = some (.lst acc) ∧ acc.length < sizeLine ∧ J G1 (i + 1) (acc ++ [y]) (G4.set G1.length (.lst (acc ++ [y]))) else G3[G1.length]? = some (.lst acc) ∧ J G1 (i + 1) acc G3) ∧
      (∀ acc G', G'[G1.length]? = some (.lst acc) → J G1 xs.length acc G' → Q (.ref G1.length) G')) : (mLc mi g t m vs E G).sat Q := by
  unfold mLc
  refine h.bind fun pit G1 q => ?_
  obtain ⟨h1, h2, h3, h4, h5⟩ := q
  obtain ⟨G', acc', e1, e2, e3⟩ := lcL_sat h3 h4 (pit.len G1) 0 [] (G1 ++ [.lst []]) h2 (by simp) (by omega)
  rw [e1]
  exact h5 acc' G' e2 e3
end
end PL
/- part PLp -/
set_option maxHeartbeats 1000000
namespace PL
open PySem PySem.Spec PyProof.Rows L2
/-! ### frames -/
def Fr (S : List Nat) (G G' : Cells) : Prop := G.length ≤ G'.length ∧ ∀ n, n < G.length → n ∉ S → G'[n]? = G[n]?
theorem Fr.refl {S : List Nat} {G : Cells} : Fr S G G := ⟨Nat.le_refl _, fun _ _ _ => rfl⟩
theorem Fr.trans {S : List Nat} {G G1 G2 : Cells} (a : Fr S G G1) (b : Fr S G1 G2) : Fr S G G2 := ⟨Nat.le_trans a.1 b.1, fun n h h' => (b.2 n (Nat.lt_of_lt_of_le h a.1) h').trans (a.2 n h h')⟩
theorem Fr.of_nil {S : List Nat} {G G' : Cells} (h : Fr [] G G') : Fr S G G' := ⟨h.1, fun n a _ => h.2 n a (by simp)⟩
theorem Fr.sub {S T : List Nat} {G G' : Cells} (h : Fr S G G') (k : ∀ n ∈ S, n ∈ T) : Fr T G G' := ⟨h.1, fun n a b => h.2 n a fun c => b (k n c)⟩
theorem Fr.push {S : List Nat} {G : Cells} {c : Cell} : Fr S G (G ++ [c]) := ⟨by simp, fun n h _ => List.getElem?_append_left h⟩
theorem Fr.set {S : List Nat} {G : Cells} {n : Nat} {c : Cell} (h : n ∈ S) : Fr S G (G.set n c) := ⟨by simp, fun m _ h' => by rw [List.getElem?_set_ne]; rintro rfl; exact h' h⟩
theorem lt_of_get {G : Cells} {n : Nat} {c : Cell} (h : G[n]? = some c) : n < G.length := by
  rcases Nat.lt_or_ge n G.length with q | q
  · exact q
  · rw [List.getElem?_eq_none_iff.mpr q] at h; cases h
theorem Fr.get {S : List Nat} {G G' : Cells} {n : Nat} {c : Cell} (f : Fr S G G') (h : G[n]? = some c) (hn : n ∉ S) : G'[n]? = some c := (f.2 n (lt_of_get h) hn).trans h
/-- a fresh cell n is written: to the old cells nothing happens -/
theorem Fr.fresh {S : List Nat} {G G1 G2 : Cells} {n : Nat} (a : Fr S G G1) (hn : G.length ≤ n) (b : Fr (n :: S) G1 G2) : Fr S G G2 :=
  ⟨Nat.le_trans a.1 b.1, fun m h h' => (b.2 m (Nat.lt_of_lt_of_le h a.1) (by simp only [List.mem_cons, not_or]; exact ⟨by omega, h'⟩)).trans (a.2 m h h')⟩
/-! ### values that may be shown -/
def smallI (i : Int) : Bool := (decide (-1000 ≤ i) && decide (i ≤ 1000)) || i == 10 ^ 30 || i == -10 ^ 30
def gv (S : List Nat) (G : Cells) : List Nat → W → Prop
  | [], w => match w with
    | .non => True
    | .bl _ => True
    | .int i => smallI i = true
    | .str x => (reprText x).length ≤ 40 ∧ x.length ≤ 40
    | _ => False
  | n :: ns, w => match w with
    | .non => True
    | .bl _ => True
    | .int i => smallI i = true
    | .str x => (reprText x).length ≤ 40 ∧ x.length ≤ 40
    | .ty _ => False
    | .fn _ => False
    | .tup ws => ws.length ≤ n ∧ ∀ w ∈ ws, gv S G ns w
    | .ref m => m ∉ S ∧ (G[m]? = some (.dct []) ∨ ∃ ws, G[m]? = some (.lst ws) ∧ ws.length ≤ n ∧ ∀ w ∈ ws, gv S G ns w)
theorem gv.mono {S : List Nat} {G G' : Cells} (f : Fr S G G') : ∀ {ns : List Nat} {w : W}, gv S G ns w → gv S G' ns w
  | [], w, h => by cases w <;> exact h
  | n :: ns, w, h => by
    cases w with
    | tup ws => exact ⟨h.1, fun w hw => gv.mono f (h.2 w hw)⟩
    | ref m =>
      obtain ⟨hs, h⟩ := h
      refine ⟨hs, h.elim (fun q => .inl (f.get q hs)) fun ⟨ws, q, h1, h2⟩ => .inr ⟨ws, f.get q hs, h1, fun w hw => gv.mono f (h2 w hw)⟩⟩
    | _ => exact h
theorem gv.int {S : List Nat} {G : Cells} {ns : List Nat} {i : Int} (h : smallI i = true) : gv S G ns (.int i) := by cases ns <;> exact h
theorem gv.int' {S : List Nat} {G : Cells} {ns : List Nat} {i : Int} (h : -1000 ≤ i ∧ i ≤ 1000) : gv S G ns (.int i) := gv.int (by unfold smallI; simp [h.1, h.2])
theorem gv.str {S : List Nat} {G : Cells} {ns : List Nat} {x : Str} (h : (reprText x).length ≤ 40 ∧ x.length ≤ 40) : gv S G ns (.str x) := by cases ns <;> exact h
theorem gv.non {S : List Nat} {G : Cells} {ns : List Nat} : gv S G ns .non := by cases ns <;> trivial
theorem gv.bl {S : List Nat} {G : Cells} {ns : List Nat} {b : Bool} : gv S G ns (.bl b) := by cases ns <;> trivial
theorem gv.int_inv {S : List Nat} {G : Cells} {ns : List Nat} {i : Int} (h : gv S G ns (.int i)) : smallI i = true := by cases ns <;> exact h
/-- more room -/
inductive Les : List Nat → List Nat → Prop
  | nil (ms : List Nat) : Les [] ms
  | cons {n m : Nat} {ns ms : List Nat} : n ≤ m → Les ns ms → Les (n :: ns) (m :: ms)
theorem gv.wide {S : List Nat} {G : Cells} : ∀ {ns ms : List Nat} {w : W}, Les ns ms → gv S G ns w → gv S G ms w
  | _, ms, w, .nil _, h => by cases w <;> cases ms <;> first | exact h | exact h.elim
  | n :: ns, m :: ms, w, .cons a b, h => by
    cases w with
    | tup ws => exact ⟨Nat.le_trans h.1 a, fun w hw => gv.wide b (h.2 w hw)⟩
    | ref m =>
      obtain ⟨hs, h⟩ := h
      exact ⟨hs, h.elim .inl fun ⟨ws, q, h1, h2⟩ => .inr ⟨ws, q, Nat.le_trans h1 a, fun w hw => gv.wide b (h2 w hw)⟩⟩
    | _ => exact h
def Bd : List Nat → Nat
  | [] => 44
  | n :: ns => n * (Bd ns + 2) + 44
theorem smallI_show : ∀ i : Int, smallI i = true → i.natAbs.log2 < 1920 ∧ (Str.ofString (toString i)).length ≤ 40 := by
  intro i h
  unfold smallI at h
  simp only [Bool.or_eq_true, Bool.and_eq_true, decide_eq_true_eq, beq_iff_eq] at h
  rcases h with (⟨h1, h2⟩ | rfl) | rfl
  · have q : ∀ k : Fin 2001, ((k.val : Int) - 1000).natAbs.log2 < 1920 ∧ (Str.ofString (toString ((k.val : Int) - 1000))).length ≤ 40 := by decide +kernel
    have := q ⟨(i + 1000).toNat, by omega⟩
    have e : (((i + 1000).toNat : Nat) : Int) - 1000 = i := by omega
    simpa only [e] using this
  · decide +kernel
  · decide +kernel
end PL
/- part PLq -/
set_option maxHeartbeats 200000
namespace PL
open PySem PySem.Spec PyProof.Rows L2
theorem str_append_length (a b : Str) : (a ++ b).length = a.length + b.length := by
  show (a.cps ++ b.cps).size = _
  rw [Array.size_append]; rfl
theorem textFrom_length {B : Nat} : ∀ (ts : List Str) (k : Nat) (a : Str), (∀ t ∈ ts, t.length ≤ B) → (textFrom k a ts).length ≤ a.length + ts.length * (B + 2)
  | [], k, a, _ => by rw [textFrom.eq_1]; simp
  | t :: ts, k, a, h => by
    rw [textFrom.eq_2]
    have h1 := textFrom_length ts (k + 1) (a ++ Str.ofString (if k > 0 then ", " else "") ++ t) fun x hx => h x (List.mem_cons_of_mem _ hx)
    have h2 := h t List.mem_cons_self
    have h3 : (Str.ofString (if k > 0 then ", " else "")).length ≤ 2 := by split <;> decide +kernel
    simp only [str_append_length] at h1
    simp only [List.length_cons, Nat.succ_mul, Nat.add_mul, Nat.one_mul]
    omega
theorem join_length {B : Nat} : ∀ (ts : List Str), (∀ t ∈ ts, t.length ≤ B) → ((Str.ofString ", ").join ts).length ≤ ts.length * (B + 2)
  | [], _ => Nat.zero_le _
  | [t], h => by
    have := h t List.mem_cons_self
    show t.length ≤ _
    simp only [List.length_cons, List.length_nil]; omega
  | t :: u :: ts, h => by
    have h1 := join_length (u :: ts) fun x hx => h x (List.mem_cons_of_mem _ hx)
    have h2 := h t List.mem_cons_self
    show (t ++ Str.ofString ", " ++ (Str.ofString ", ").join (u :: ts)).length ≤ _
    have h3 : (Str.ofString ", ").length = 2 := by decide +kernel
    simp only [str_append_length, h3]
    simp only [List.length_cons, Nat.succ_mul, Nat.add_mul, Nat.one_mul] at h1 ⊢
    omega
theorem shownAll_len : ∀ ds : List PyData, (PyData.shownAll ds).length = ds.length
  | [] => rfl
  | d :: ds => by rw [PyData.shownAll.eq_2, List.length_cons, List.length_cons, shownAll_len ds]
theorem shownAll_mem {B : Nat} : ∀ ds : List PyData, (∀ d ∈ ds, d.shown.length ≤ B) → ∀ t ∈ PyData.shownAll ds, t.length ≤ B
  | [], _, t, h => by rw [PyData.shownAll.eq_1] at h; cases h
  | d :: ds, h, t, ht => by
    rw [PyData.shownAll.eq_2] at ht
    rcases List.mem_cons.mp ht with rfl | ht
    · exact h d List.mem_cons_self
    · exact shownAll_mem ds (fun x hx => h x (List.mem_cons_of_mem _ hx)) t ht
theorem list_shown {B n : Nat} {ds : List PyData} (hn : ds.length ≤ n) (h : ∀ d ∈ ds, d.shown.length ≤ B) : (PyData.list ds).shown.length ≤ n * (B + 2) + 44 := by
  rw [PyData.shown.eq_5]
  unfold listText
  rw [str_append_length]
  have := textFrom_length (PyData.shownAll ds) 0 (Str.ofString "[") (shownAll_mem ds h)
  rw [shownAll_len] at this
  have h1 : (Str.ofString "[").length = 1 := by decide +kernel
  have h2 : (Str.ofString "]").length = 1 := by decide +kernel
  have h3 : ds.length * (B + 2) ≤ n * (B + 2) := Nat.mul_le_mul_right _ hn
  omega
theorem tuple_shown {B n : Nat} {ds : List PyData} (hn : ds.length ≤ n) (h : ∀ d ∈ ds, d.shown.length ≤ B) : (PyData.tuple ds).shown.length ≤ n * (B + 2) + 44 := by
  rw [PyData.shown.eq_6]
  unfold tupleText
  rw [str_append_length, str_append_length]
  have := join_length (PyData.shownAll ds) (shownAll_mem ds h)
  rw [shownAll_len] at this
  have h1 : (Str.ofString "(").length = 1 := by decide +kernel
  have h2 : ∀ b : Bool, (Str.ofString (if b = true then ",)" else ")")).length ≤ 2 := by decide +kernel
  have h2 := h2 ((PyData.shownAll ds).length == 1)
  have h3 : ds.length * (B + 2) ≤ n * (B + 2) := Nat.mul_le_mul_right _ hn
  omega
theorem showableAll_of : ∀ {ds : List PyData}, (∀ d ∈ ds, d.showable = true) → PyData.showableAll ds = true
  | [], _ => PyData.showableAll.eq_1
  | d :: ds, h => by
    rw [PyData.showableAll.eq_2, h d List.mem_cons_self, showableAll_of fun x hx => h x (List.mem_cons_of_mem _ hx)]; rfl
theorem mapO_of {α β : Type} {f : α → Option β} {P : β → Prop} : ∀ {xs : List α}, (∀ x ∈ xs, ∃ y, f x = some y ∧ P y) → ∃ ys, mapO f xs = some ys ∧ ys.length = xs.length ∧ ∀ y ∈ ys, P y
  | [], _ => ⟨[], rfl, rfl, by simp⟩
  | x :: xs, h => by
    obtain ⟨y, h1, h2⟩ := h x List.mem_cons_self
    obtain ⟨ys, h3, h4, h5⟩ := mapO_of (xs := xs) fun z hz => h z (List.mem_cons_of_mem _ hz)
    refine ⟨y :: ys, by simp only [mapO, h1, h3], by simp [h4], fun z hz => ?_⟩
    rcases List.mem_cons.mp hz with rfl | hz
    · exact h2
    · exact h5 z hz
theorem Bd_pos : ∀ ns, 44 ≤ Bd ns
  | [] => Nat.le_refl _
  | n :: ns => Nat.le_add_left _ _
theorem sc_dat {S : List Nat} {G : Cells} {ns : List Nat} {w : W} (h : gv S G ns w) (hw : ∀ ws, w ≠ .tup ws) (hr : ∀ n, w ≠ .ref n) (k : Nat) (hk : 0 < k) : ∃ d, dat G k w = some d ∧ d.showable = true ∧ d.shown.length ≤ 44 := by
  obtain ⟨k, rfl⟩ : ∃ j, k = j + 1 := ⟨k - 1, by omega⟩
  cases w with
  | non => exact ⟨_, rfl, rfl, by decide +kernel⟩
  | bl b => exact ⟨_, rfl, rfl, by cases b <;> decide +kernel⟩
  | int i =>
    have := smallI_show i h.int_inv
    exact ⟨_, rfl, by rw [PyData.showable.eq_4]; simpa using this.1, by rw [PyData.shown.eq_3]; omega⟩
  | str x =>
    have h : (reprText x).length ≤ 40 ∧ x.length ≤ 40 := by cases ns <;> exact h
    exact ⟨_, rfl, rfl, by rw [PyData.shown.eq_4]; omega⟩
  | ty s => cases ns <;> exact h.elim
  | fn s => cases ns <;> exact h.elim
  | tup ws => exact (hw ws rfl).elim
  | ref n => exact (hr n rfl).elim
theorem gv_dat {S : List Nat} {G : Cells} : ∀ {ns : List Nat} {w : W}, gv S G ns w → ∀ k, ns.length < k → ∃ d, dat G k w = some d ∧ d.showable = true ∧ d.shown.length ≤ Bd ns
  | [], w, h, k, hk => sc_dat h (by rintro ws rfl; exact h.elim) (by rintro ws rfl; exact h.elim) k hk
  | n :: ns, w, h, k, hk => by
    have hb := Bd_pos (n :: ns)
    simp only [List.length_cons] at hk
    obtain ⟨k, rfl⟩ : ∃ j, k = j + 1 := ⟨k - 1, by omega⟩
    cases w with
    | tup ws =>
      obtain ⟨ds, h1, h2, h3⟩ := mapO_of (f := dat G k) (P := fun d => d.showable = true ∧ d.shown.length ≤ Bd ns) fun w hw => gv_dat (h.2 w hw) k (by omega)
      refine ⟨.tuple ds, by simp only [dat, h1, Option.map_some], ?_, tuple_shown (by rw [h2]; exact h.1) fun d hd => (h3 d hd).2⟩
      rw [PyData.showable.eq_6]; exact showableAll_of fun d hd => (h3 d hd).1
    | ref m =>
      obtain ⟨hs, h⟩ := h
      rcases h with q | ⟨ws, q, h1, h2⟩
      · refine ⟨.dict [], by simp [dat, q, mapO], by rw [PyData.showable.eq_7]; rfl, ?_⟩
        have : (PyData.dict []).shown.length = 2 := by decide +kernel
        omega
      · obtain ⟨ds, g1, g2, g3⟩ := mapO_of (f := dat G k) (P := fun d => d.showable = true ∧ d.shown.length ≤ Bd ns) fun w hw => gv_dat (h2 w hw) k (by omega)
        refine ⟨.list ds, by simp only [dat, q, g1, Option.map_some], ?_, list_shown (by rw [g2]; exact h1) fun d hd => (g3 d hd).2⟩
        rw [PyData.showable.eq_5]; exact showableAll_of fun d hd => (g3 d hd).1
    | _ =>
      obtain ⟨d, h1, h2, h3⟩ := sc_dat h (by intros; simp) (by intros; simp) (k + 1) (by omega)
      exact ⟨d, h1, h2, by omega⟩
theorem gv_repr {S : List Nat} {G : Cells} {ns : List Nat} {w : W} (h : gv S G ns w) (hl : ns.length < 60) (hb : Bd ns ≤ sizeLine) : ∃ d, dat G 60 w = some d ∧ reprW G [w] = .ok (.str d.shown) G := by
  obtain ⟨d, h1, h2, h3⟩ := gv_dat h 60 hl
  refine ⟨d, h1, ?_⟩
  have : showOk d = true := by simp only [showOk, h2, Bool.true_and, decide_eq_true_eq]; omega
  simp only [reprW, h1, this, if_true]
/-- the same value later -/
theorem dat_mono {S : List Nat} {G G' : Cells} (f : Fr S G G') : ∀ {ns : List Nat} {w : W}, gv S G ns w → ∀ k, dat G' k w = dat G k w
  | [], w, h, 0 => rfl
  | [], w, h, k + 1 => by cases w <;> first | rfl | exact h.elim
  | n :: ns, w, h, 0 => rfl
  | n :: ns, w, h, k + 1 => by
    have step : ∀ ws : List W, (∀ w ∈ ws, gv S G ns w) → mapO (dat G' k) ws = mapO (dat G k) ws := by
      intro ws
      induction ws with
      | nil => intro _; rfl
      | cons x xs ih => intro hx; simp only [mapO, dat_mono f (hx x List.mem_cons_self) k, ih fun w hw => hx w (List.mem_cons_of_mem _ hw)]
    cases w with
    | tup ws => simp only [dat, step ws h.2]
    | ref m =>
      obtain ⟨hs, h⟩ := h
      rcases h with q | ⟨ws, q, h1, h2⟩
      · simp only [dat, q, f.get q hs, mapO]
      · simp only [dat, q, f.get q hs, step ws h2]
    | _ => rfl
/-! ### == on such values -/
def isStr (w : W) (x : Str) : Bool := match w with | .str y => decide (y = x) | _ => false
theorem eqS_int (i j : Int) : eqS (.int i) (.int j) = some (decide (i = j)) := by
  have : decide (V.int i = V.int j) = decide (i = j) := decide_eq_decide.mpr ⟨fun h => V.int.inj h, fun h => h ▸ rfl⟩
  rw [← this]; rfl
theorem eqS_ss (i j : Str) : eqS (.str i) (.str j) = some (decide (i = j)) := by
  have : decide (V.str i = V.str j) = decide (i = j) := decide_eq_decide.mpr ⟨fun h => V.str.inj h, fun h => h ▸ rfl⟩
  rw [← this]; rfl
theorem eqS_non {w : W} (x : Str) (h : w = .non ∨ (∃ b, w = .bl b) ∨ ∃ i, w = .int i) : eqS w (.str x) = some false := by
  have q : ∀ v : V, v = .non ∨ (∃ b, v = .bl b) ∨ (∃ i, v = .int i) → decide (v = .str x) = false := by
    rintro v (rfl | ⟨b, rfl⟩ | ⟨i, rfl⟩) <;> exact decide_eq_false (fun h => V.noConfusion h)
  rcases h with rfl | ⟨b, rfl⟩ | ⟨i, rfl⟩
  · rw [← q .non (.inl rfl)]; rfl
  · rw [← q (.bl b) (.inr (.inl ⟨b, rfl⟩))]; rfl
  · rw [← q (.int i) (.inr (.inr ⟨i, rfl⟩))]; rfl
theorem eqOp_of {G : Cells} {x y : W} {b : Bool} (h : eqS x y = some b) : eqOp G x y = .ok (.bl b) G := by
  unfold eqOp; rw [h]
theorem neOp_of {G : Cells} {x y : W} {b : Bool} (h : eqS x y = some b) : neOp G x y = .ok (.bl (!b)) G := by
  unfold neOp; rw [h]
theorem eqOp_int {G : Cells} (i j : Int) : eqOp G (.int i) (.int j) = .ok (.bl (decide (i = j))) G := eqOp_of (eqS_int i j)
theorem eqOp_ss {G : Cells} (i j : Str) : eqOp G (.str i) (.str j) = .ok (.bl (decide (i = j))) G := eqOp_of (eqS_ss i j)
theorem neOp_int {G : Cells} (i j : Int) : neOp G (.int i) (.int j) = .ok (.bl (!decide (i = j))) G := neOp_of (eqS_int i j)
theorem neOp_ss {G : Cells} (i j : Str) : neOp G (.str i) (.str j) = .ok (.bl (!decide (i = j))) G := neOp_of (eqS_ss i j)
theorem eqOp_ref {G : Cells} {w : W} {x : Str} (h : eqS w (.str x) = none) (h' : eqW G w (.str x) = some false) : eqOp G w (.str x) = .ok (.bl false) G := by
  unfold eqOp; rw [h, h']
theorem eqW_of {G : Cells} {w : W} {d : PyData} {x : Str} (h : dat G 60 w = some d) (hk : eqK G w (.str x) = some false) (he : PyData.eqv d (.str x) = false) : eqW G w (.str x) = some false := by
  unfold eqW
  have : dat G 60 (.str x) = some (.str x) := rfl
  rw [h, this]
  simp only [he, hk]
  split <;> rfl
theorem eqOp_str {S : List Nat} {G : Cells} {ns : List Nat} {w : W} (h : gv S G ns w) (hl : ns.length < 60) (x : Str) : eqOp G w (.str x) = .ok (.bl (isStr w x)) G := by
  obtain ⟨d, h1, h2, h3⟩ := gv_dat h 60 hl
  cases w with
  | tup ws =>
    have hd : ∃ ds, d = .tuple ds := by
      have h1 : (mapO (dat G 59) ws).map PyData.tuple = some d := h1
      cases hm : mapO (dat G 59) ws with
      | none => rw [hm] at h1; cases h1
      | some ds => rw [hm] at h1; exact ⟨ds, (Option.some.inj h1).symm⟩
    obtain ⟨ds, rfl⟩ := hd
    exact eqOp_ref rfl (eqW_of h1 rfl (PyData.eqv.eq_41 _ _))
  | ref m =>
    cases ns with
    | nil => exact h.elim
    | cons n ns =>
    obtain ⟨hs, h⟩ := h
    rcases h with q | ⟨ws, q, g1, g2⟩
    · have hk : eqK G (.ref m) (.str x) = some false := by unfold eqK; simp only [q]
      have hd : dat G 60 (.ref m) = some (.dict []) := by show (match G[m]? with | some (.lst ws) => _ | some (.rol ws) => _ | some (.dct kvs) => _ | _ => none) = _; rw [q]; rfl
      exact eqOp_ref rfl (eqW_of hd hk (PyData.eqv.eq_47 _ _))
    · have hk : eqK G (.ref m) (.str x) = some false := by unfold eqK; simp only [q]
      have hd : ∃ ds, dat G 60 (.ref m) = some (.list ds) := by
        have e : dat G 60 (.ref m) = (mapO (dat G 59) ws).map PyData.list := by show (match G[m]? with | some (.lst ws) => _ | some (.rol ws) => _ | some (.dct kvs) => _ | _ => none) = _; rw [q]
        rw [e] at h1 ⊢
        cases hm : mapO (dat G 59) ws with
        | none => rw [hm] at h1; cases h1
        | some ds => exact ⟨ds, rfl⟩
      obtain ⟨ds, hd⟩ := hd
      exact eqOp_ref rfl (eqW_of hd hk (PyData.eqv.eq_35 _ _))
  | str y => exact eqOp_ss y x
  | ty s => cases ns <;> exact h.elim
  | fn s => cases ns <;> exact h.elim
  | non => exact eqOp_of (eqS_non x (.inl rfl))
  | bl b => exact eqOp_of (eqS_non x (.inr (.inl ⟨b, rfl⟩)))
  | int i => exact eqOp_of (eqS_non x (.inr (.inr ⟨i, rfl⟩)))
end PL
/- part PLr -/
set_option maxHeartbeats 400000
namespace PL
open PySem PySem.Spec PyProof.Rows L2
/-! ### what an expression's run ends with, by its parts -/
section
variable {E : PEnv} {G : Cells} {Q : W → Cells → Prop} {QB : Bool → Cells → Prop} {QL : List W → Cells → Prop} {QI : PIt → Cells → Prop}
theorem s_var (i : Nat) : (mVar i E G).sat Q = ∃ w, E[i]? = some (some w) ∧ Q w G := by
  unfold mVar
  cases h : E[i]? with
  | none => simp
  | some o => cases o <;> simp
theorem s_c (w : W) : (mC w E G).sat Q = Q w G := rfl
theorem s_bin (g : GOp) (a b : ME) : (mBin g a b E G).sat Q = (a E G).sat fun x G1 => (b E G1).sat fun y G2 => (g G2 x y).sat Q := by
  unfold mBin; rw [sat_bind]; congr; funext x G1; rw [sat_bind]
theorem s_test (m : ME) : (mTest m E G).sat QB = (m E G).sat fun w G1 => ∃ b, w = .bl b ∧ QB b G1 := by
  unfold mTest; rw [sat_bind]; congr; funext x G1; cases x <;> simp
theorem s_tru (m : ME) : (mTru m E G).sat QB = (m E G).sat fun w G1 => ∃ b, truW G1 w = some b ∧ QB b G1 := by
  unfold mTru; rw [sat_bind]; congr; funext x G1; cases truW G1 x <;> simp
theorem s_notT (m : MT) : (mNotT m E G).sat QB = (m E G).sat fun b G1 => QB (!b) G1 := by
  unfold mNotT; rw [sat_bind]; rfl
theorem s_andT (a b : MT) : (mAndT a b E G).sat QB = (a E G).sat fun k G1 => if k = true then (b E G1).sat QB else QB false G1 := by
  unfold mAndT; rw [sat_bind]; congr; funext x G1; cases x <;> simp
theorem s_orT (a b : MT) : (mOrT a b E G).sat QB = (a E G).sat fun k G1 => if k = true then QB true G1 else (b E G1).sat QB := by
  unfold mOrT; rw [sat_bind]; congr; funext x G1; cases x <;> simp
theorem s_and (a b : ME) : (mAnd a b E G).sat Q = (a E G).sat fun w G1 => ∃ k, truW G1 w = some k ∧ if k = true then (b E G1).sat Q else Q w G1 := by
  unfold mAnd; rw [sat_bind]; congr; funext x G1; cases truW G1 x with
  | none => simp
  | some k => cases k <;> simp
theorem s_or (a b : ME) : (mOr a b E G).sat Q = (a E G).sat fun w G1 => ∃ k, truW G1 w = some k ∧ if k = true then Q w G1 else (b E G1).sat Q := by
  unfold mOr; rw [sat_bind]; congr; funext x G1; cases truW G1 x with
  | none => simp
  | some k => cases k <;> simp
theorem s_not (a : ME) : (mNot a E G).sat Q = (a E G).sat fun w G1 => ∃ k, truW G1 w = some k ∧ Q (.bl (!k)) G1 := by
  unfold mNot; rw [sat_bind]; congr; funext x G1; cases truW G1 x <;> simp
theorem s_if (t : MT) (a b : ME) : (mIf t a b E G).sat Q = (t E G).sat fun k G1 => if k = true then (a E G1).sat Q else (b E G1).sat Q := by
  unfold mIf; rw [sat_bind]; congr; funext x G1; cases x <;> simp
theorem s_neg (a : ME) : (mNeg a E G).sat Q = (a E G).sat fun w G1 => ∃ i, w = .int i ∧ Q (.int (-i)) G1 := by
  unfold mNeg; rw [sat_bind]; congr; funext x G1; cases x <;> simp
theorem s_nil : (mNil E G).sat QL = QL [] G := rfl
theorem s_cons (a : ME) (r : MA) : (mCons a r E G).sat QL = (a E G).sat fun w G1 => (r E G1).sat fun ws G2 => QL (w :: ws) G2 := by
  unfold mCons; rw [sat_bind]; congr; funext x G1; rw [sat_bind]; rfl
theorem s_tup (m : MA) : (mTup m E G).sat Q = (m E G).sat fun ws G1 => ws.length ≤ sizeLine ∧ Q (.tup ws) G1 := by
  unfold mTup; rw [sat_bind]; congr; funext x G1; by_cases h : x.length ≤ sizeLine <;> simp [h]
theorem s_lst (m : MA) : (mLst m E G).sat Q = (m E G).sat fun ws G1 => ws.length ≤ sizeLine ∧ Q (.ref G1.length) (G1 ++ [.lst ws]) := by
  unfold mLst; rw [sat_bind]; congr; funext x G1; by_cases h : x.length ≤ sizeLine <;> simp [h]
theorem s_call (g : GCall) (m : MA) : (mCall g m E G).sat Q = (m E G).sat fun ws G1 => (g G1 ws).sat Q := by unfold mCall; rw [sat_bind]
theorem s_def (F : PF) (m : MA) : (mDef F m E G).sat Q = (m E G).sat fun ws G1 => (F ws G1).sat Q := by unfold mDef; rw [sat_bind]
theorem s_meth (T : String) (g : Cells → W → List W → Rs W) (o : ME) (m : MA) : (mMeth T g o m E G).sat Q = (o E G).sat fun w G1 => isTy T G1 w = true ∧ (m E G1).sat fun ws G2 => (g G2 w ws).sat Q := by
  unfold mMeth; rw [sat_bind]; congr; funext x G1; by_cases h : isTy T G1 x = true <;> simp [h, sat_bind]
theorem s_chain (g g' : GOp) (a b c : ME) : (mChain g g' a b c E G).sat Q = (a E G).sat fun x G1 => (b E G1).sat fun y G2 => (g G2 x y).sat fun z G3 => ∃ k, z = .bl k ∧ if k = true then (c E G3).sat fun u G4 => (g' G4 y u).sat Q else Q (.bl false) G3 := by
  unfold mChain; rw [sat_bind]; congr; funext x G1; rw [sat_bind]; congr; funext y G2; rw [sat_bind]; congr; funext z G3; cases z <;> simp
  rename_i k
  cases k <;> simp [sat_bind]
theorem s_chain3 (g g' g'' : GOp) (a b c d : ME) : (mChain3 g g' g'' a b c d E G).sat Q = (a E G).sat fun x G1 => (b E G1).sat fun y G2 => (g G2 x y).sat fun z G3 => ∃ k, z = .bl k ∧ if k = true then ((c E G3).sat fun u G4 => (g' G4 y u).sat fun z2 G5 => ∃ k2, z2 = .bl k2 ∧ if k2 = true then (d E G5).sat fun v G6 => (g'' G6 u v).sat Q else Q (.bl false) G5) else Q (.bl false) G3 := by
  have q : ∀ z2 : W, ∀ G5 : Cells, ∀ u : W, (match z2 with | .bl true => (d E G5).bind fun v G6 => g'' G6 u v | .bl false => .ok (.bl false) G5 | _ => .no : Rs W).sat Q = ∃ k2, z2 = .bl k2 ∧ if k2 = true then (d E G5).sat fun v G6 => (g'' G6 u v).sat Q else Q (.bl false) G5 := by
    intro z2 G5 u
    cases z2 <;> simp
    rename_i k2
    cases k2 <;> simp [sat_bind]
  unfold mChain3; rw [sat_bind]; congr; funext x G1; rw [sat_bind]; congr; funext y G2; rw [sat_bind]; congr; funext z G3
  cases z with
  | bl k =>
    cases k
    · simp
    · simp only [W.bl.injEq, exists_eq_left', if_true]
      rw [sat_bind]; congr; funext u G4; rw [sat_bind]; congr; funext z2 G5; exact q z2 G5 u
  | _ => simp
theorem s_cut (a : ME) (l u : MO) : (mCut a l u E G).sat Q = (a E G).sat fun x G1 => (l E G1).sat fun lo G2 => (u E G2).sat fun hi G3 => (cutOp G3 x lo hi).sat Q := by
  unfold mCut; rw [sat_bind]; congr; funext x G1; rw [sat_bind]; congr; funext y G2; rw [sat_bind]
theorem s_nopart {QO : Option Int → Cells → Prop} : (mNoPart E G).sat QO = QO none G := rfl
theorem s_part {QO : Option Int → Cells → Prop} (m : ME) : (mPart m E G).sat QO = (m E G).sat fun w G1 => ∃ i, w = .int i ∧ QO (some i) G1 := by
  unfold mPart; rw [sat_bind]; congr; funext x G1; cases x <;> simp
theorem s_seq (m : ME) : (mSeq m E G).sat QI = (m E G).sat fun w G1 => (itSeq w G1).sat QI := by unfold mSeq; rw [sat_bind]
theorem s_rng1 (m : ME) : (mRng1 (mCons m mNil) E G).sat QI = (m E G).sat fun w G1 => ∃ j, w = .int j ∧ rngOk j = true ∧ QI (.rng 0 j.toNat) G1 := by
  unfold mRng1; rw [sat_bind, s_cons]; congr; funext x G1; rw [s_nil]; cases x <;> simp
  rename_i i
  by_cases h : rngOk i = true <;> simp [h]
theorem s_enum (m : ME) : (mEnum (mCons m mNil) E G).sat QI = (m E G).sat fun w G1 => (∃ n, w = .ref n ∧ (rdL G1 n).isSome = true ∧ QI (.enL n) G1) ∨ ∃ us, w = .tup us ∧ QI (.enT us) G1 := by
  unfold mEnum; rw [sat_bind, s_cons]; congr; funext x G1; rw [s_nil]; cases x <;> simp
  rename_i i
  cases h : rdL G1 i <;> simp [h]
end
end PL
/- part PLs -/
set_option maxHeartbeats 1000000
namespace PL
open PySem PySem.Spec PyProof.Rows L2
section
variable {X : Cx} {XP : Wish} {pos : Pos} {k : Nat}
/-! ### insert, max, min, abs, sum, a list turned round -/
def insertW : Cells → W → List W → Rs W := fun G w ws => match w, ws with
  | .ref n, [.int i, y] => (match G[n]? with | some (.lst xs) => if xs.length < sizeLine ∧ 0 ≤ i ∧ i < 2 ^ 63 then .ok .non (G.set n (.lst (xs.take i.toNat ++ [y] ++ xs.drop i.toNat))) else .no | _ => .no)
  | _, _ => .no
theorem mg_insert : MtG X XP "list" "list.insert" insertW := by
  refine ⟨_, mt_insert, fun ρ G σ H w v ws vs Q s r rs h => ?_⟩
  unfold insertW at h
  split at h
  · rename_i n0 i0 y0
    cases r with
    | ref hn =>
      cases rs with
      | cons r0 rs =>
        cases r0
        cases rs with
        | @cons y yv _ _ r1 r2 =>
          cases r2
          split at h
          · rename_i xs hc
            split at h
            · rename_i hz
              obtain ⟨us, q1, q2⟩ := cell_lst s hn hc
              have ex : Ext X.K ρ H ρ (upd H _ (.lst (us.take i0.toNat ++ [yv] ++ us.drop i0.toNat))) := s.ext_write hc hn rfl
              exact ⟨_, us, _, _, rfl, rfl, q1, by rw [← q2.length]; exact hz.1, hz.2.1, hz.2.2, h ρ _ _ ex (s.write (c' := .lst (xs.take i0.toNat ++ [y0] ++ xs.drop i0.toNat)) hc hn rfl rfl ⟨_, upd_same, (((q2.mono ex).take _).append (.cons (r1.mono ex) .nil)).append ((q2.mono ex).drop _)⟩) .non⟩
            · exact h.elim
          · exact h.elim
  · exact h.elim
def absW : GCall := fun G ws => match ws with
  | [.int i] => .ok (.int (if i < 0 then -i else i)) G
  | _ => .no
theorem cg_abs : CaG X XP (.builtin "abs") absW := by
  refine ⟨_, call_abs, fun ρ G σ H ws vs Q s r o => ?_⟩
  unfold absW at o
  split at o
  · cases r with
    | cons r rr => cases rr; cases r; exact ⟨_, rfl, o.ok s (.int _)⟩
  · exact o.elim
/-- ints, all of them -/
def intsW : List W → Option (List Int)
  | [] => some []
  | .int i :: ws => (intsW ws).map (i :: ·)
  | _ => none
theorem intsW_ok {K : Fg} {ρ : List Addr} {H : Hp} : ∀ {ws : List W} {vs : List V} {is : List Int}, VRs K ρ H ws vs → intsW ws = some is → vs = is.map V.int := by
  intro ws
  induction ws with
  | nil => intro vs is r h; cases r; cases h; rfl
  | cons w ws ih =>
    intro vs is r h
    cases r with
    | cons r1 r2 =>
      cases w with
      | int i =>
        simp only [intsW] at h
        cases hm : intsW ws with
        | none => rw [hm] at h; cases h
        | some js => rw [hm] at h; cases h; cases r1; rw [ih r2 hm]; rfl
      | _ => cases h
def sumW : GCall := fun G ws => match ws with
  | [.ref n] => (match rdL G n with | some xs => (match intsW xs with | some is => .ok (.int is.sum) G | none => .no) | none => .no)
  | _ => .no
theorem cg_sum (c : GC X XP k) : CaG X XP (.builtin "sum") sumW := by
  refine ⟨_, cr_sum c.calm, fun ρ G σ H ws vs Q s r o => ?_⟩
  unfold sumW at o
  split at o
  · cases r with
    | cons r rr =>
      cases rr
      cases r with
      | ref hn =>
        split at o
        · rename_i xs hx
          split at o
          · rename_i is hi
            obtain ⟨us, q1, q2⟩ := rdL_ok s hn hx
            exact ⟨_, is, rfl, by rw [← intsW_ok q2 hi]; exact q1, o.ok s (.int _)⟩
          · exact o.elim
        · exact o.elim
  · exact o.elim
def maxW : GCall := fun G ws => match ws with
  | [.int i, .int j] => .ok (.int (if j > i then j else i)) G
  | [.ref n] => (match rdL G n with | some xs => (match intsW xs with | some (i :: is) => .ok (.int (is.foldl max i)) G | _ => .no) | none => .no)
  | _ => .no
def minW : GCall := fun G ws => match ws with
  | [.int i, .int j] => .ok (.int (if j < i then j else i)) G
  | [.ref n] => (match rdL G n with | some xs => (match intsW xs with | some (i :: is) => .ok (.int (is.foldl min i)) G | _ => .no) | none => .no)
  | _ => .no
theorem foldl_max_is : ∀ (is : List Int) (i m : Int), m ∈ i :: is → (∀ y, y ∈ i :: is → y ≤ m) → m = is.foldl max i := by
  intro is
  induction is with
  | nil => intro i m h _; exact List.mem_singleton.mp h
  | cons j is ih =>
    intro i m h hm
    refine ih (max i j) m ?_ fun y hy => ?_
    · have h1 := hm i (by simp)
      have h2 := hm j (by simp)
      rcases List.mem_cons.mp h with rfl | h
      · exact List.mem_cons.mpr (.inl (by omega))
      · rcases List.mem_cons.mp h with rfl | h
        · exact List.mem_cons.mpr (.inl (by omega))
        · exact List.mem_cons_of_mem _ h
    · rcases List.mem_cons.mp hy with rfl | hy
      · have h1 := hm i (by simp)
        have h2 := hm j (by simp)
        omega
      · exact hm y (by simp [hy])
theorem foldl_min_is : ∀ (is : List Int) (i m : Int), m ∈ i :: is → (∀ y, y ∈ i :: is → m ≤ y) → m = is.foldl min i := by
  intro is
  induction is with
  | nil => intro i m h _; exact List.mem_singleton.mp h
  | cons j is ih =>
    intro i m h hm
    refine ih (min i j) m ?_ fun y hy => ?_
    · have h1 := hm i (by simp)
      have h2 := hm j (by simp)
      rcases List.mem_cons.mp h with rfl | h
      · exact List.mem_cons.mpr (.inl (by omega))
      · rcases List.mem_cons.mp h with rfl | h
        · exact List.mem_cons.mpr (.inl (by omega))
        · exact List.mem_cons_of_mem _ h
    · rcases List.mem_cons.mp hy with rfl | hy
      · have h1 := hm i (by simp)
        have h2 := hm j (by simp)
        omega
      · exact hm y (by simp [hy])
theorem cg_max (c : GC X XP k) : CaG X XP (.builtin "max") maxW := by
  refine ⟨_, CallR.or (call_max2 c.calm) (cr_max c.calm), fun ρ G σ H ws vs Q s r o => ?_⟩
  unfold maxW at o
  split at o
  · cases r with
    | cons r rr =>
      cases rr with
      | cons r' rr => cases rr; cases r; cases r'; exact .inl ⟨_, _, rfl, o.ok s (.int _)⟩
  · cases r with
    | cons r rr =>
      cases rr
      cases r with
      | ref hn =>
        split at o
        · rename_i xs hx
          split at o
          · rename_i i is hi
            obtain ⟨us, q1, q2⟩ := rdL_ok s hn hx
            exact .inr ⟨_, i :: is, rfl, by rw [← intsW_ok q2 hi]; exact q1, by simp, fun m h1 h2 => by rw [foldl_max_is is i m h1 h2]; exact o.ok s (.int _)⟩
          · exact o.elim
        · exact o.elim
  · exact o.elim
theorem cg_min (c : GC X XP k) : CaG X XP (.builtin "min") minW := by
  refine ⟨_, CallR.or (call_min2 c.calm) (cr_min c.calm), fun ρ G σ H ws vs Q s r o => ?_⟩
  unfold minW at o
  split at o
  · cases r with
    | cons r rr =>
      cases rr with
      | cons r' rr => cases rr; cases r; cases r'; exact .inl ⟨_, _, rfl, o.ok s (.int _)⟩
  · cases r with
    | cons r rr =>
      cases rr
      cases r with
      | ref hn =>
        split at o
        · rename_i xs hx
          split at o
          · rename_i i is hi
            obtain ⟨us, q1, q2⟩ := rdL_ok s hn hx
            exact .inr ⟨_, i :: is, rfl, by rw [← intsW_ok q2 hi]; exact q1, by simp, fun m h1 h2 => by rw [foldl_min_is is i m h1 h2]; exact o.ok s (.int _)⟩
          · exact o.elim
        · exact o.elim
  · exact o.elim
def mRevL (m : ME) : ME := fun E G => (m E G).bind fun w G' => match w with
  | .ref n => (match rdL G' n with | some xs => .ok (.ref G'.length) (G' ++ [.lst xs.reverse]) | none => .no)
  | _ => .no
theorem he_revL {e : Expr} {m : ME} {kk : Nat} {p1 p2 p3 : Pos} (h : HE X XP e m) : HE X XP (.Subscript e (.Slice none none (some (.UnaryOp .USub (.Constant (.int 1) kk p1) p2)) p3) pos) (mRevL m) := by
  obtain ⟨t, a1, a2⟩ := h.ex
  refine ⟨_, pe_revL a1, fun ρ E G σ H Q er sr q => a2 ρ E G σ H _ er sr (q.bind fun w G1 ρ1 H1 v e1 s1 r1 k1 => ?_)⟩
  split at k1
  · rename_i n
    split at k1
    · rename_i xs hx
      cases r1 with
      | ref hn =>
        obtain ⟨us, q1, q2⟩ := rdL_ok s1 hn hx
        exact ⟨_, us, rfl, q1, fun p hp => out_lst k1 s1 q2.reverse hp⟩
    · exact k1.elim
  · exact k1.elim
end
end PL
/- part PLu -/
set_option maxHeartbeats 1000000
namespace PL
open PySem PySem.Spec PyProof.Rows L2
section
variable {X : Cx} {XP : Wish} {pos : Pos} {k : Nat}
/-! ### tuple(range(..)) -/
def rgW (a b : Int) : List W := (List.range (b - a).toNat).map fun i => W.int (a + (i : Nat))
theorem rg_vrs {K : Fg} {ρ : List Addr} {H : Hp} (a b : Int) : VRs K ρ H (rgW a b) (rgV a b) := by
  unfold rgW rgV
  generalize List.range (b - a).toNat = l
  induction l with
  | nil => exact .nil
  | cons x xs ih => exact .cons (.int _) ih
def rgB (a b : Int) : Bool := decide (-1000000 ≤ a) && decide (a ≤ 1000000) && decide (-1000000 ≤ b) && decide (b ≤ 1000000)
theorem rgB_ok {a b : Int} (h : rgB a b = true) : RgOk a b := by
  unfold rgB at h
  simp only [Bool.and_eq_true, decide_eq_true_eq] at h
  exact ⟨by omega, by omega, by omega, by omega, by omega⟩
def mTupR1 (m : ME) : ME := fun E G => (m E G).bind fun w G1 => match w with | .int j => if rgB 0 j = true then .ok (.tup (rgW 0 j)) G1 else .no | _ => .no
def mTupR2 (m m' : ME) : ME := fun E G => (m E G).bind fun w G1 => (m' E G1).bind fun u G2 => match w, u with | .int i, .int j => if rgB i j = true then .ok (.tup (rgW i j)) G2 else .no | _, _ => .no
theorem out_tup2 {Q : VK} {σ : St} {ρ : List Addr} {H : Hp} {G : Cells} {ws : List W} {vs : List V} {p : Addr} (h : Out X.K XP (VR X.K) σ ρ H (.ok (.tup ws) G) Q) (s : SR X.K ρ G H) (r : VRs X.K ρ H ws vs) (hp : H p = none) : Q (.ref p) (upd H p (.tup vs)) := out_tup h s r hp
theorem he_tupR1 {a : Expr} {m : ME} {p p2 pos2 : Pos} (c : GC X XP k) (hg : Gl X "tuple") (hm : X.mg "tuple" = none) (hg2 : Gl X "range") (hm2 : X.mg "range" = none) (ha : HE X XP a m)
    (na : starEach [Expr.Call (.Name "range" p2) [a] [] pos2] X.env = (false, eval (Expr.Call (.Name "range" p2) [a] [] pos2) X.env) :: starEach [] X.env := by rfl)
    (na2 : starEach [a] X.env = (false, eval a X.env) :: starEach [] X.env := by rfl) : HE X XP (.Call (.Name "tuple" p) [.Call (.Name "range" p2) [a] [] pos2] [] pos) (mTupR1 m) := by
  obtain ⟨t, h1, h2⟩ := ha.ex
  refine ⟨_, pe_tupRg c.calm hg hm (prg_1 hg2 hm2 h1 na2) na, fun ρ E G σ H Q er sr q => h2 ρ E G σ H _ er sr (q.bind fun w G1 ρ1 H1 v e1 s1 r1 k1 => ?_)⟩
  split at k1
  · split at k1
    · rename_i j hj
      cases r1
      exact ⟨_, rfl, rgB_ok hj, fun p hp => out_tup k1 s1 (rg_vrs 0 _) hp⟩
    · exact k1.elim
  · exact k1.elim
theorem he_tupR2 {a b : Expr} {m m' : ME} {p p2 pos2 : Pos} (c : GC X XP k) (hg : Gl X "tuple") (hm : X.mg "tuple" = none) (hg2 : Gl X "range") (hm2 : X.mg "range" = none) (ha : HE X XP a m) (hb : HE X XP b m')
    (na : starEach [Expr.Call (.Name "range" p2) [a, b] [] pos2] X.env = (false, eval (Expr.Call (.Name "range" p2) [a, b] [] pos2) X.env) :: starEach [] X.env := by rfl)
    (na2 : starEach [a, b] X.env = (false, eval a X.env) :: starEach [b] X.env := by rfl) (nb : starEach [b] X.env = (false, eval b X.env) :: starEach [] X.env := by rfl) (hp : (backTo pos2 (starEach [b] X.env)).any (·.1) = false := by rfl) :
    HE X XP (.Call (.Name "tuple" p) [.Call (.Name "range" p2) [a, b] [] pos2] [] pos) (mTupR2 m m') := by
  obtain ⟨t, h1, h2⟩ := ha.ex
  obtain ⟨u, b1, b2⟩ := hb.ex
  refine ⟨_, pe_tupRg c.calm hg hm (prg_2 hg2 hm2 h1 b1 na2 nb hp) na, fun ρ E G σ H Q er sr q => h2 ρ E G σ H _ er sr (q.bind fun w G1 ρ1 H1 v e1 s1 r1 k1 => ?_)⟩
  refine b2 ρ1 E G1 σ H1 _ (er.mono e1) s1 (k1.bind fun y G2 ρ2 H2 yv e2 s2 r2 k2 => ?_)
  split at k2
  · split at k2
    · rename_i j hj
      cases r1
      cases r2
      exact ⟨_, _, rfl, rfl, rgB_ok hj, fun p hp => out_tup k2 s2 (rg_vrs _ _) hp⟩
    · exact k2.elim
  · exact k2.elim
/-! ### sorted(xs) of ints -/
def leB (a b : Int) : Bool := decide (a ≤ b)
theorem vrs_ints {K : Fg} {ρ : List Addr} {H : Hp} : ∀ ns : List Int, VRs K ρ H (ns.map W.int) (ns.map V.int)
  | [] => .nil
  | n :: ns => .cons (.int n) (vrs_ints ns)
theorem sort_is {ns ns' : List Int} (h1 : ns'.Perm ns) (h2 : ns'.Pairwise (· ≤ ·)) : ns' = ns.mergeSort leB := by
  have q1 := List.mergeSort_perm ns leB
  have q2 : (ns.mergeSort leB).Pairwise (fun a b => leB a b = true) := List.pairwise_mergeSort (fun a b c h k => by unfold leB at *; simp at *; omega) (fun a b => by unfold leB; simp; omega) ns
  refine (h1.trans q1.symm).eq_of_pairwise (le := fun a b => a ≤ b) (fun a b _ _ h k => by omega) h2 (q2.imp fun h => by unfold leB at h; simpa using h)
def sortedW : GCall := fun G ws => match ws with
  | [.ref n] => (match rdL G n with | some xs => (match intsW xs with | some is => if is.length < 64 then .ok (.ref G.length) (G ++ [.lst ((is.mergeSort leB).map W.int)]) else .no | none => .no) | none => .no)
  | _ => .no
theorem cg_sorted : CaG X XP (.builtin "sorted") sortedW := by
  refine ⟨_, cr_sorted, fun ρ G σ H ws vs Q s r o => ?_⟩
  unfold sortedW at o
  split at o
  · cases r with
    | cons r rr =>
      cases rr
      cases r with
      | ref hn =>
        split at o
        · rename_i xs hx
          split at o
          · rename_i is hi
            split at o
            · rename_i h64
              obtain ⟨us, q1, q2⟩ := rdL_ok s hn hx
              exact ⟨_, is, rfl, by rw [← intsW_ok q2 hi]; exact q1, h64, fun ns' p h1 h2 hp => by rw [sort_is h1 h2]; exact out_lst o s (vrs_ints _) hp⟩
            · exact o.elim
          · exact o.elim
        · exact o.elim
  · exact o.elim
/-! ### is of bools -/
def isB (neg : Bool) : GOp := fun G x y => match x, y with
  | .bl a, .bl b => .ok (.bl (if neg then !decide (a = b) else decide (a = b))) G
  | _, _ => .no
theorem og_isB : OpG X XP (compareOp .Is) (isB false) := by
  refine ⟨_, op_isBl, fun ρ G σ H x y v u Q s rx ry h => ?_⟩
  unfold isB at h
  split at h
  · cases rx; cases ry; exact ⟨_, _, rfl, rfl, h.ok s (.bl _)⟩
  · exact h.elim
theorem og_isnotB : OpG X XP (compareOp .IsNot) (isB true) := by
  refine ⟨_, op_notBl, fun ρ G σ H x y v u Q s rx ry h => ?_⟩
  unfold isB at h
  split at h
  · cases rx; cases ry; exact ⟨_, _, rfl, rfl, h.ok s (.bl _)⟩
  · exact h.elim
/-! ### a, b, c = e, f, g -/
def sPar3 (i j l : Nat) (m : MA) : MS := fun E G => liftS (m E G) E fun ws G1 => match ws with
  | [x, y, z] => .nx (((E.set i (some x)).set j (some y)).set l (some z)) G1
  | _ => .no
theorem hs_par3 {i j l : Nat} {x y z : Str} {a b d : Expr} {m : MA} {px py pz pt : Pos} {kt k2 pt2} {k : Nat} (c : GC X XP k) (hi : X.N[i]? = some x) (hj : X.N[j]? = some y) (hl : X.N[l]? = some z) (hij : i ≠ j) (hil : i ≠ l) (hjl : j ≠ l)
    (hx : X.env.scope.names.lookup x = some .local) (hy : X.env.scope.names.lookup y = some .local) (hz : X.env.scope.names.lookup z = some .local) (ha : HA X XP [a, b, d] m)
    (hw : swappedStores [.Tuple [.Name x px, .Name y py, .Name z pz] kt pt] (.Tuple [a, b, d] k2 pt2) X.env = pure (some [x, y, z]))
    (hs : swapsWithSole [.Tuple [.Name x px, .Name y py, .Name z pz] kt pt] (.Tuple [a, b, d] k2 pt2) pos.line X.env = pure false := by rfl) :
    HS X XP (.Assign [.Tuple [.Name x px, .Name y py, .Name z pz] kt pt] (.Tuple [a, b, d] k2 pt2) pos) (sPar3 i j l m) := by
  obtain ⟨t, a1, a2⟩ := ha.ex
  refine ⟨_, ps_par3 c.calm c.nd hi hj hl hij hil hjl hx hy hz a1 hw hs, fun ρ E G σ H D er sr q => a2 ρ E G σ H _ er sr (OutS.lift er q fun ws G1 ρ1 H1 vs e1 s1 r1 k1 => ?_)⟩
  split at k1
  · cases r1 with
    | cons r1 rr =>
      cases rr with
      | cons r2 rr =>
        cases rr with
        | cons r3 rr =>
          cases rr
          exact ⟨_, _, _, rfl, k1 ρ1 H1 _ .refl s1 ((((er.mono e1).set r1 i).set r2 j).set r3 l)⟩
  · exact k1.elim
end
/-! ### loops that are never unfolded by themselves -/
@[irreducible] def sForI (mi : MI) (g : MG) (b : MS) : MS := sFor mi g b
@[irreducible] def mLcI (mi : MI) (g : MG) (t : MT) (m : ME) (vs : List Nat) : ME := mLc mi g t m vs
theorem sForI_eq (mi : MI) (g : MG) (b : MS) : sForI mi g b = sFor mi g b := by unfold sForI; rfl
theorem mLcI_eq (mi : MI) (g : MG) (t : MT) (m : ME) (vs : List Nat) : mLcI mi g t m vs = mLc mi g t m vs := by unfold mLcI; rfl
theorem setI_eq (mi : MI) (g : MG) (t : MT) (m : ME) (vs : List Nat) (h : MG) : sAsg (mLcI mi g t m vs) h = sAsg (mLc mi g t m vs) h := by rw [mLcI_eq]
theorem hs_I {X : Cx} {XP : Wish} {st : Stmt} {m m' : MS} (e : m' = m) (h : HS X XP st m) : HS X XP st m' := e ▸ h
theorem he_I {X : Cx} {XP : Wish} {st : Expr} {m m' : ME} (e : m' = m) (h : HE X XP st m) : HE X XP st m' := e ▸ h
theorem so_forI {mi : MI} {g : MG} {b : MS} {E : PEnv} {G : Cells} {N : PEnv → Cells → Prop} {R : W → Cells → Prop} (xs : List W) (I : Nat → PEnv → Cells → Prop)
    (h : (mi E G).sat fun pit G1 => pit.len G1 = xs.length ∧ I 0 E G1 ∧ ∀ i E' G', I i E' G' → pit.at G' i = some xs[i]?)
    (hstep : ∀ i w E G, xs[i]? = some w → I i E G → (g w E G).sat fun E1 G1 => (b E1 G1).sat (I (i + 1)) R)
    (hend : ∀ E G, I xs.length E G → N E G) : (sForI mi g b E G).sat N R := by
  rw [sForI_eq]; exact so_for xs I h hstep hend
end PL
/- part PLv -/
set_option maxHeartbeats 1000000
namespace PL
open PySem PySem.Spec PyProof.Rows L2
/-! ### statements, as equations -/
section
variable {E : PEnv} {G : Cells} {N : PEnv → Cells → Prop} {R : W → Cells → Prop}
theorem t_seq (a b : MS) : (sSeq a b E G).sat N R = (a E G).sat (fun E1 G1 => (b E1 G1).sat N R) R := by
  unfold sSeq seqS; cases a E G <;> rfl
theorem t_asg (m : ME) (g : MG) : (sAsg m g E G).sat N R = (m E G).sat fun w G1 => (g w E G1).sat N := by
  unfold sAsg; rw [so_lift]; congr; funext w G1; rw [so_lift]; rfl
theorem t_expr (m : ME) : (sExpr m E G).sat N R = (m E G).sat fun _ G1 => N E G1 := by unfold sExpr; rw [so_lift]; rfl
theorem t_ret (m : ME) : (sRet m E G).sat N R = (m E G).sat R := by unfold sRet; rw [so_lift]; rfl
theorem t_if (c : MT) (a b : MS) : (sIf c a b E G).sat N R = (c E G).sat fun k G1 => if k = true then (a E G1).sat N R else (b E G1).sat N R := by
  unfold sIf; rw [so_lift]; congr; funext k G1; cases k <;> rfl
theorem t_nx : (sNext E G).sat N R = N E G := id rfl
def p2 (k : W → W → Prop) : List W → Prop
  | [x, y] => k x y
  | _ => False
def p3 (k : W → W → W → Prop) : List W → Prop
  | [x, y, z] => k x y z
  | _ => False
def pT2 (k : W → W → Prop) : W → Prop
  | .tup [x, y] => k x y
  | _ => False
def pT3 (k : W → W → W → Prop) : W → Prop
  | .tup [x, y, z] => k x y z
  | _ => False
theorem p2_c (k : W → W → Prop) (x y : W) : p2 k [x, y] = k x y := id rfl
theorem p3_c (k : W → W → W → Prop) (x y z : W) : p3 k [x, y, z] = k x y z := id rfl
theorem pT2_c (k : W → W → Prop) (x y : W) : pT2 k (.tup [x, y]) = k x y := id rfl
theorem pT3_c (k : W → W → W → Prop) (x y z : W) : pT3 k (.tup [x, y, z]) = k x y z := id rfl
theorem t_par (i j : Nat) (m : MA) : (sPar i j m E G).sat N R = (m E G).sat fun ws G1 => p2 (fun x y => N ((E.set i (some x)).set j (some y)) G1) ws := by
  unfold sPar; rw [so_lift]; congr; funext ws G1
  match ws with
  | [] => rfl
  | [x] => rfl
  | [x, y] => rfl
  | x :: y :: z :: r => rfl
theorem t_par3 (i j l : Nat) (m : MA) : (sPar3 i j l m E G).sat N R = (m E G).sat fun ws G1 => p3 (fun x y z => N (((E.set i (some x)).set j (some y)).set l (some z)) G1) ws := by
  unfold sPar3; rw [so_lift]; congr; funext ws G1
  match ws with
  | [] => rfl
  | [x] => rfl
  | [x, y] => rfl
  | [x, y, z] => rfl
  | x :: y :: z :: u :: r => rfl
theorem g_set (i : Nat) (w : W) : (gSet i w E G).sat N = N (E.set i (some w)) G := id rfl
theorem g_tup2 (i j : Nat) (w : W) : (gTupW 2 (gsCons i (gsCons j gsNil)) w E G).sat N = pT2 (fun x y => N ((E.set i (some x)).set j (some y)) G) w := by
  unfold gTupW
  cases w with
  | tup ws =>
    match ws with
    | [] => rfl
    | [x] => rfl
    | [x, y] => rfl
    | x :: y :: z :: r => simp [pT2]
  | _ => rfl
theorem g_tup3 (i j l : Nat) (w : W) : (gTupW 3 (gsCons i (gsCons j (gsCons l gsNil))) w E G).sat N = pT3 (fun x y z => N (((E.set i (some x)).set j (some y)).set l (some z)) G) w := by
  unfold gTupW
  cases w with
  | tup ws =>
    match ws with
    | [] => rfl
    | [x] => rfl
    | [x, y] => rfl
    | [x, y, z] => rfl
    | x :: y :: z :: u :: r => simp [pT3]
  | _ => rfl
theorem g_put (o k : ME) (w : W) : (gPut o k w E G).sat N = (o E G).sat fun x G1 => (k E G1).sat fun y G2 => ∃ n, x = .ref n ∧ ∃ G3, putOp n y w G2 = some G3 ∧ N E G3 := by
  unfold gPut; rw [sat_bind]; congr; funext x G1; rw [sat_bind]; congr; funext y G2
  cases x with
  | ref n => cases h : putOp n y w G2 <;> simp [h]
  | _ => simp
theorem s_tupR1 {Q : W → Cells → Prop} (m : ME) : (mTupR1 m E G).sat Q = (m E G).sat fun w G1 => ∃ j, w = .int j ∧ rgB 0 j = true ∧ Q (.tup (rgW 0 j)) G1 := by
  unfold mTupR1; rw [sat_bind]; congr; funext w G1; cases w <;> simp
  rename_i j
  by_cases h : rgB 0 j = true <;> simp [h]
theorem s_tupR2 {Q : W → Cells → Prop} (m m' : ME) : (mTupR2 m m' E G).sat Q = (m E G).sat fun w G1 => (m' E G1).sat fun u G2 => ∃ i j, w = .int i ∧ u = .int j ∧ rgB i j = true ∧ Q (.tup (rgW i j)) G2 := by
  unfold mTupR2; rw [sat_bind]; congr; funext w G1; rw [sat_bind]; congr; funext u G2
  cases w <;> cases u <;> simp
  rename_i i j
  by_cases h : rgB i j = true <;> simp [h]
theorem s_defK {Q : W → Cells → Prop} (F : PF) (perm : List Nat) (np nk : Nat) (m mk : MA) : (mDefK F perm np nk m mk E G).sat Q = (m E G).sat fun ws G1 => (mk E G1).sat fun zs G2 => ws.length = np ∧ zs.length = nk ∧ (F (pick perm (ws ++ zs)) G2).sat Q := by
  unfold mDefK; rw [sat_bind]; congr; funext ws G1; rw [sat_bind]; congr; funext zs G2
  by_cases h : ws.length = np ∧ zs.length = nk
  · rw [if_pos h]; simp [h.1, h.2]
  · rw [if_neg h]; simp only [sat_no, false_iff, eq_iff_iff]; rintro ⟨a, b, _⟩; exact h ⟨a, b⟩
theorem s_rng2 {QI : PIt → Cells → Prop} (m m' : ME) : (mRng2 (mCons m (mCons m' mNil)) E G).sat QI = (m E G).sat fun w G1 => (m' E G1).sat fun u G2 => ∃ i j, w = .int i ∧ u = .int j ∧ (rngOk i && rngOk j) = true ∧ QI (.rng i (j - i).toNat) G2 := by
  unfold mRng2; rw [sat_bind, s_cons]; congr; funext x G1; rw [s_cons]; congr; funext y G2; rw [s_nil]; cases x <;> cases y <;> simp
  rename_i i j
  by_cases h : (rngOk i = true ∧ rngOk j = true) <;> simp [h]
theorem s_yes {QB : Bool → Cells → Prop} : (mYes E G).sat QB = QB true G := id rfl
theorem v_c {Q : W → Cells → Prop} (w : W) : (mC w E G).sat Q = Q w G := id rfl
theorem v_nil {QL : List W → Cells → Prop} : (mNil E G).sat QL = QL [] G := id rfl
theorem v_nopart {QO : Option Int → Cells → Prop} : (mNoPart E G).sat QO = QO none G := id rfl
theorem v_ok {α : Type} (a : α) (G : Cells) (Q : α → Cells → Prop) : (Rs.ok a G).sat Q = Q a G := id rfl
end
theorem hif {c : Prop} [Decidable c] {A B : Prop} (f : c → A) (g : ¬c → B) : if c then A else B := by by_cases hc : c <;> simp only [hc, if_true, if_false]; exact f hc; exact g hc
/-! ### small facts of the values' operations -/
theorem big_le {n m : Nat} (h : n ≤ m) (hm : m ≤ 100000 := by decide) : n < sizeLine := by rw [sizeLine_eq]; omega
theorem e_add (G : Cells) (i j : Int) : addW G (.int i) (.int j) = .ok (.int (i + j)) G := rfl
theorem e_sub (G : Cells) (i j : Int) : subW G (.int i) (.int j) = .ok (.int (i - j)) G := rfl
theorem e_mul {G : Cells} {i j : Int} (h : mulOk i j = true) : mulW G (.int i) (.int j) = .ok (.int (i * j)) G := by show (if mulOk i j = true then _ else _) = _; rw [if_pos h]
theorem e_mod {G : Cells} {i j : Int} (h : 0 < j) : modW G (.int i) (.int j) = .ok (.int (i % j)) G := by show (if 0 < j then _ else _) = _; rw [if_pos h]
theorem e_div {G : Cells} {i j : Int} (h : 0 < j) (h' : j < 1073741824) : fdivW G (.int i) (.int j) = .ok (.int (i / j)) G := by show (if 0 < j ∧ j < 1073741824 then _ else _) = _; rw [if_pos ⟨h, h'⟩]
theorem e_int (G : Cells) (i : Int) : intW G [.int i] = .ok (.int i) G := rfl
theorem e_min (G : Cells) (i j : Int) : minW G [.int i, .int j] = .ok (.int (min i j)) G := by
  show Rs.ok (W.int (if j < i then j else i)) G = _
  congr 2; by_cases h : j < i <;> simp only [h, if_true, if_false] <;> omega
theorem e_max (G : Cells) (i j : Int) : maxW G [.int i, .int j] = .ok (.int (max i j)) G := by
  show Rs.ok (W.int (if j > i then j else i)) G = _
  congr 2; by_cases h : j > i <;> simp only [h, if_true, if_false] <;> omega
theorem e_lt (G : Cells) (i j : Int) : ltW G (.int i) (.int j) = .ok (.bl (decide (i < j))) G := rfl
theorem e_le (G : Cells) (i j : Int) : leW G (.int i) (.int j) = .ok (.bl (decide (i ≤ j))) G := rfl
theorem e_gt (G : Cells) (i j : Int) : gtW G (.int i) (.int j) = .ok (.bl (decide (j < i))) G := rfl
theorem e_ge (G : Cells) (i j : Int) : geW G (.int i) (.int j) = .ok (.bl (decide (j ≤ i))) G := rfl
theorem e_lenL {G : Cells} {n : Nat} {xs : List W} (h : G[n]? = some (.lst xs)) : lenW G [.ref n] = .ok (.int xs.length) G := by unfold lenW; simp only [h]
theorem e_lenT (G : Cells) (xs : List W) : lenW G [.tup xs] = .ok (.int xs.length) G := rfl
theorem e_tupT (G : Cells) (xs : List W) : tupleW G [.tup xs] = .ok (.tup xs) G := rfl
theorem e_tupL {G : Cells} {n : Nat} {xs : List W} (h : G[n]? = some (.lst xs)) : tupleW G [.ref n] = .ok (.tup xs) G := by unfold tupleW rdL; simp only [h]
theorem atI_of {α : Type} {xs : List α} {i : Int} {w : α} (h : xs[i.toNat]? = some w) (h1 : 0 ≤ i) : L2.atI xs i = some w := by
  obtain ⟨q, _⟩ := List.getElem?_eq_some_iff.mp h
  unfold L2.atI L2.ixN
  rw [if_pos h1, if_pos (by omega)]
  exact h
theorem e_getL {G : Cells} {n : Nat} {xs : List W} {i : Int} {w : W} (h : G[n]? = some (.lst xs)) (h1 : xs[i.toNat]? = some w) (h2 : 0 ≤ i) : getW G (.ref n) (.int i) = .ok w G := by
  unfold getW; simp only [h, atI_of h1 h2]
theorem e_getT {G : Cells} {xs : List W} {i : Int} {w : W} (h1 : xs[i.toNat]? = some w) (h2 : 0 ≤ i) : getW G (.tup xs) (.int i) = .ok w G := by
  unfold getW; simp only [atI_of h1 h2]
theorem mulOk_l {i j : Int} (h : -(2 ^ 64) < i ∧ i < 2 ^ 64) : mulOk i j = true := by unfold mulOk; rw [decide_eq_true h.1, decide_eq_true h.2]; rfl
theorem mulOk_r {i j : Int} (h : -(2 ^ 64) < j ∧ j < 2 ^ 64) : mulOk i j = true := by unfold mulOk; rw [decide_eq_true h.1, decide_eq_true h.2]; simp
theorem e_app {G : Cells} {n : Nat} {xs : List W} {y : W} (h : G[n]? = some (.lst xs)) (hl : xs.length ≤ 100000) : appendW G (.ref n) [y] = .ok .non (G.set n (.lst (xs ++ [y]))) := by
  unfold appendW; simp only [h, big_le hl, if_true]
theorem e_isL {G : Cells} {n : Nat} {xs : List W} (h : G[n]? = some (.lst xs)) : isTy "list" G (.ref n) = true := by unfold isTy; simp only [h]; decide
theorem e_addL {G : Cells} {n m : Nat} {xs ys : List W} (h : G[n]? = some (.lst xs)) (h' : G[m]? = some (.lst ys)) (hl : xs.length + ys.length ≤ 100000) : addW G (.ref n) (.ref m) = .ok (.ref G.length) (G ++ [.lst (xs ++ ys)]) := by
  unfold addW; simp only [h, h', Nat.le_of_lt (big_le hl), if_true]
theorem e_addT {G : Cells} {xs ys : List W} (hl : xs.length + ys.length ≤ 100000) : addW G (.tup xs) (.tup ys) = .ok (.tup (xs ++ ys)) G := by
  show (if xs.length + ys.length ≤ sizeLine then _ else _) = _
  rw [if_pos (Nat.le_of_lt (big_le hl))]
theorem e_cutL {G : Cells} {n : Nat} {xs : List W} (h : G[n]? = some (.lst xs)) (lo hi : Option Int) : cutOp G (.ref n) lo hi = .ok (.ref G.length) (G ++ [.lst (cutW xs lo hi)]) := by
  show (match rdL G n with | some ws => _ | none => _) = _
  have : rdL G n = some xs := by unfold rdL; simp only [h]
  rw [this]
theorem e_cutT (G : Cells) (xs : List W) (lo hi : Option Int) : cutOp G (.tup xs) lo hi = .ok (.tup (cutW xs lo hi)) G := rfl
theorem sIx_some {n d : Nat} {k : Nat} : HT.sIx n d (some (k : Int)) = min k n := by
  unfold HT.sIx; simp; try omega
theorem cut_to (xs : List W) (k : Nat) : cutW xs none (some (k : Int)) = xs.take k := by
  unfold cutW
  rw [sIx_some]
  have : HT.sIx xs.length 0 none = 0 := rfl
  rw [this, List.drop_zero, Nat.sub_zero]
  by_cases h : k ≤ xs.length
  · rw [Nat.min_eq_left h]
  · rw [Nat.min_eq_right (by omega), List.take_of_length_le (by omega), List.take_of_length_le (by omega)]
theorem cut_from (xs : List W) (k : Nat) : cutW xs (some (k : Int)) none = xs.drop k := by
  unfold cutW
  rw [sIx_some]
  have : HT.sIx xs.length xs.length none = xs.length := rfl
  rw [this]
  by_cases h : k ≤ xs.length
  · rw [Nat.min_eq_left h, List.take_of_length_le (by simp)]
  · rw [Nat.min_eq_right (by omega), List.drop_of_length_le (by omega), List.drop_of_length_le (by omega)]; simp
theorem cut_mid (xs : List W) (k l : Nat) : cutW xs (some (k : Int)) (some (l : Int)) = (xs.drop k).take (l - k) := by
  unfold cutW
  rw [sIx_some, sIx_some]
  by_cases h : k ≤ xs.length
  · rw [Nat.min_eq_left h]
    by_cases h2 : l ≤ xs.length
    · rw [Nat.min_eq_left h2]
    · rw [show min l xs.length = xs.length from by omega, List.take_of_length_le (by simp), List.take_of_length_le (by simp; omega)]
  · rw [show min k xs.length = xs.length from by omega, List.drop_of_length_le (by omega), List.drop_of_length_le (by omega)]; simp
theorem e_put {G : Cells} {n : Nat} {xs : List W} {i : Int} {w : W} (h : G[n]? = some (.lst xs)) (h1 : 0 ≤ i) (h2 : i < xs.length) : putOp n (.int i) w G = some (G.set n (.lst (xs.set i.toNat w))) := by
  unfold putOp L2.ixN
  simp only [h]
  rw [if_pos h1, if_pos h2]
theorem intsW_map : ∀ ns : List Int, intsW (ns.map W.int) = some ns
  | [] => rfl
  | n :: ns => by simp only [List.map_cons, intsW, intsW_map ns, Option.map_some]
theorem e_sum {G : Cells} {n : Nat} {ns : List Int} (h : G[n]? = some (.lst (ns.map W.int))) : sumW G [.ref n] = .ok (.int ns.sum) G := by
  unfold sumW rdL; simp only [h, intsW_map]
/-! ### cells -/
theorem get_set {G : Cells} {n : Nat} {c : Cell} (h : n < G.length) : (G.set n c)[n]? = some c := by rw [List.getElem?_set]; simp [h]
theorem get_set_ne {G : Cells} {n m : Nat} {c : Cell} (h : n ≠ m) : (G.set n c)[m]? = G[m]? := by rw [List.getElem?_set_ne h]
theorem push_get (G : Cells) (c : Cell) : (G ++ [c])[G.length]? = some c := by simp
/-! ### iterators -/
structure ItOk (S : List Nat) (pit : PIt) (G1 : Cells) (xs : List W) : Prop where
  len : pit.len G1 = xs.length
  at' : ∀ G' i, Fr S G1 G' → pit.at G' i = some xs[i]?
def enF : Nat → List W → List W
  | _, [] => []
  | k, x :: xs => .tup [.int (k : Nat), x] :: enF (k + 1) xs
def enW (xs : List W) : List W := enF 0 xs
theorem enF_len : ∀ (xs : List W) (k : Nat), (enF k xs).length = xs.length
  | [], _ => rfl
  | _ :: xs, k => by rw [enF, List.length_cons, List.length_cons, enF_len xs]
theorem enF_get : ∀ (xs : List W) (k i : Nat), (enF k xs)[i]? = xs[i]?.map fun w => .tup [.int ((k + i : Nat) : Int), w]
  | [], _, _ => by simp [enF]
  | x :: xs, k, 0 => by simp [enF]
  | x :: xs, k, i + 1 => by
    rw [enF, List.getElem?_cons_succ, List.getElem?_cons_succ, enF_get xs (k + 1) i, show k + 1 + i = k + (i + 1) from by omega]
theorem enW_len (xs : List W) : (enW xs).length = xs.length := enF_len xs 0
theorem enW_get (xs : List W) (i : Nat) : (enW xs)[i]? = xs[i]?.map fun w => .tup [.int (i : Nat), w] := by
  unfold enW; rw [enF_get, Nat.zero_add]
/-- the places at which p holds -/
def places {α : Type} (p : α → Bool) : Nat → List α → List Int
  | _, [] => []
  | k, x :: xs => if p x = true then (k : Int) :: places p (k + 1) xs else places p (k + 1) xs
theorem mem_places {α : Type} {p : α → Bool} : ∀ {xs : List α} {k : Nat} {i : Int}, i ∈ places p k xs ↔ ∃ n x, xs[n]? = some x ∧ p x = true ∧ i = ((k + n : Nat) : Int)
  | [], k, i => by simp [places]
  | x :: xs, k, i => by
    have ih := mem_places (p := p) (xs := xs) (k := k + 1) (i := i)
    constructor
    · intro h
      unfold places at h
      split at h
      · rename_i hp
        rcases List.mem_cons.mp h with rfl | h
        · exact ⟨0, x, rfl, hp, rfl⟩
        · obtain ⟨n, y, h1, h2, h3⟩ := ih.mp h
          exact ⟨n + 1, y, by simpa using h1, h2, by rw [h3]; omega⟩
      · obtain ⟨n, y, h1, h2, h3⟩ := ih.mp h
        exact ⟨n + 1, y, by simpa using h1, h2, by rw [h3]; omega⟩
    · rintro ⟨n, y, h1, h2, h3⟩
      unfold places
      match n, h1, h3 with
      | 0, h1, h3 =>
        simp at h1
        subst h1
        rw [if_pos h2]
        exact List.mem_cons.mpr (.inl h3)
      | n + 1, h1, h3 =>
        have := ih.mpr ⟨n, y, by simpa using h1, h2, by rw [h3]; omega⟩
        split
        · exact List.mem_cons_of_mem _ this
        · exact this
theorem places_len {α : Type} {p : α → Bool} : ∀ {xs : List α} {k : Nat}, (places p k xs).length ≤ xs.length
  | [], k => Nat.le_refl _
  | x :: xs, k => by
    have ih := places_len (p := p) (xs := xs) (k := k + 1)
    unfold places
    split <;> simp only [List.length_cons] <;> omega
def fF (p : W → Bool) : W → Option W
  | .tup [i, x] => if p x = true then some i else none
  | _ => none
theorem en_places (p : W → Bool) : ∀ (xs : List W) (k : Nat), (enF k xs).filterMap (fF p) = (places p k xs).map W.int
  | [], _ => rfl
  | x :: xs, k => by
    rw [enF, List.filterMap_cons]
    unfold places
    by_cases h : p x = true
    · simp only [fF, h, if_true, en_places p xs, List.map_cons]
    · simp only [fF, h, if_false, en_places p xs]
      simp
theorem enW_inv {xs : List W} {i : Nat} {w : W} (h : (enW xs)[i]? = some w) : ∃ x, xs[i]? = some x ∧ w = .tup [.int (i : Nat), x] := by
  rw [enW_get] at h
  cases hx : xs[i]? with
  | none => rw [hx] at h; cases h
  | some x => rw [hx] at h; exact ⟨x, rfl, (Option.some.inj h).symm⟩
theorem it_tup (S : List Nat) (G : Cells) (ws : List W) : ItOk S (.tup ws) G ws := ⟨rfl, fun _ _ _ => rfl⟩
theorem it_enT (S : List Nat) (G : Cells) (ws : List W) : ItOk S (.enT ws) G (enW ws) := ⟨by rw [enW_len]; rfl, fun _ _ _ => by rw [enW_get]; rfl⟩
theorem it_lst {S : List Nat} {G : Cells} {n : Nat} {xs : List W} (h : G[n]? = some (.lst xs)) (hn : n ∉ S) : ItOk S (.lst n) G xs :=
  ⟨by simp [PIt.len, rdL, h], fun G' i f => by have := f.get h hn; simp only [PIt.at, rdL, this, Option.map_some]⟩
theorem it_enL {S : List Nat} {G : Cells} {n : Nat} {xs : List W} (h : G[n]? = some (.lst xs)) (hn : n ∉ S) : ItOk S (.enL n) G (enW xs) :=
  ⟨by rw [enW_len]; simp [PIt.len, rdL, h], fun G' i f => by have := f.get h hn; rw [enW_get]; simp only [PIt.at, rdL, this, Option.map_some]⟩
def rnW (lo : Int) (n : Nat) : List W := (List.range n).map fun i => W.int (lo + (i : Nat))
theorem rnW_len (lo : Int) (n : Nat) : (rnW lo n).length = n := by unfold rnW; simp
theorem rnW_inv {lo : Int} {n i : Nat} {w : W} (h : (rnW lo n)[i]? = some w) : i < n ∧ w = .int (lo + (i : Nat)) := by
  unfold rnW at h
  rw [List.getElem?_map] at h
  by_cases hi : i < n
  · rw [List.getElem?_range hi] at h; exact ⟨hi, (Option.some.inj h).symm⟩
  · rw [List.getElem?_eq_none (by simp; omega)] at h; cases h
theorem it_rng (S : List Nat) (G : Cells) (lo : Int) (n : Nat) : ItOk S (.rng lo n) G (rnW lo n) := ⟨by rw [rnW_len]; rfl, fun _ i _ => by
  simp only [PIt.at]
  by_cases hi : i < n
  · rw [if_pos hi]; unfold rnW; rw [List.getElem?_map, List.getElem?_range hi]; rfl
  · rw [if_neg hi, List.getElem?_eq_none (by rw [rnW_len]; omega)]⟩
def ziW (xs ys : List W) : List W := List.zipWith (fun x y => W.tup [x, y]) xs ys
theorem ziW_inv {xs ys : List W} {i : Nat} {w : W} (h : (ziW xs ys)[i]? = some w) : ∃ x y, xs[i]? = some x ∧ ys[i]? = some y ∧ w = .tup [x, y] := by
  unfold ziW at h
  rw [List.getElem?_zipWith] at h
  cases hx : xs[i]? with
  | none => rw [hx] at h; cases h
  | some x =>
    cases hy : ys[i]? with
    | none => rw [hx, hy] at h; cases h
    | some y => rw [hx, hy] at h; exact ⟨x, y, rfl, rfl, (Option.some.inj h).symm⟩
theorem ziW_len (xs ys : List W) : (ziW xs ys).length = min xs.length ys.length := by unfold ziW; simp
theorem ziW_get (xs ys : List W) (i : Nat) : (ziW xs ys)[i]? = xs[i]?.bind fun x => ys[i]?.map fun y => .tup [x, y] := by
  unfold ziW; rw [List.getElem?_zipWith]; cases xs[i]? <;> cases ys[i]? <;> rfl
theorem it_zipT (S : List Nat) (G : Cells) (xs ys : List W) : ItOk S (.zipT xs ys) G (ziW xs ys) := ⟨by rw [ziW_len]; rfl, fun _ _ _ => by rw [ziW_get]; rfl⟩
theorem it_zipL {S : List Nat} {G : Cells} {n m : Nat} {xs ys : List W} (h : G[n]? = some (.lst xs)) (h' : G[m]? = some (.lst ys)) (hn : n ∉ S) (hm : m ∉ S) : ItOk S (.zipL n m) G (ziW xs ys) :=
  ⟨by rw [ziW_len]; simp [PIt.len, rdL, h, h'], fun G' i f => by have h1 := f.get h hn; have h2 := f.get h' hm; rw [ziW_get]; simp only [PIt.at, rdL, h1, h2, Option.map_some, Option.bind_some]⟩
theorem i_tup (G : Cells) (ws : List W) : itSeq (.tup ws) G = .ok (.tup ws) G := rfl
theorem i_lst {G : Cells} {n : Nat} {xs : List W} (h : G[n]? = some (.lst xs)) : itSeq (.ref n) G = .ok (.lst n) G := by unfold itSeq rdL; simp only [h]
theorem rdL_lst {G : Cells} {n : Nat} {xs : List W} (h : G[n]? = some (.lst xs)) : rdL G n = some xs := by unfold rdL; simp only [h]
/-! ### comprehensions, loops -/
/-- what holds of the cells below n is kept -/
def Keeps (n : Nat) (I : Cells → Prop) : Prop := ∀ G1 G2, I G1 → n ≤ G1.length → G1.length ≤ G2.length → (∀ k, k < n → G2[k]? = G1[k]?) → I G2
theorem lc_fr {mi : MI} {g : MG} {t : MT} {m : ME} {vs : List Nat} {E : PEnv} {G : Cells} {Q : W → Cells → Prop} (S : List Nat) (xs : List W) (I : Cells → Prop) (A : Nat → List W → Prop)
    (hI : Keeps G.length I) (hS : ∀ s ∈ S, s < G.length)
    (h : (mi E G).sat fun pit G1 => Fr S G G1 ∧ I G1 ∧ ItOk S pit G1 xs) (hb : xs.length ≤ 100000) (hA : A 0 [])
    (hs : ∀ i w acc G', xs[i]? = some w → A i acc → I G' → Fr S G G' → (g w (wipeE E vs) G').sat fun E1 G2 => (t E1 G2).sat fun k G3 => if k = true then (m E1 G3).sat fun y G4 => A (i + 1) (acc ++ [y]) ∧ I G4 ∧ Fr S G' G4 else A (i + 1) acc ∧ I G3 ∧ Fr S G' G3)
    (hq : ∀ n acc G', A xs.length acc → I G' → Fr S G G' → G.length ≤ n → G'[n]? = some (.lst acc) → Q (.ref n) G') : (mLcI mi g t m vs E G).sat Q := by
  rw [mLcI_eq]
  refine lc_sat xs (fun G1 i acc G' => acc.length ≤ i ∧ A i acc ∧ I G' ∧ Fr S G1 G' ∧ Fr S G G' ∧ G.length ≤ G1.length ∧ G1.length < G'.length) (h.mono fun pit G1 q => ?_)
  obtain ⟨f, i1, it⟩ := q
  have hnS : G1.length ∉ S := fun z => by have := hS _ z; have := f.1; omega
  have keep : ∀ {a b : Cells}, G.length ≤ a.length → I a → Fr [] a b → I b := fun {a b} l i f => hI _ _ i l f.1 fun k hk => f.2 k (by omega) (by simp)
  refine ⟨it.len, ⟨Nat.le_refl _, hA, keep f.1 i1 Fr.push, Fr.push, f.trans Fr.push, f.1, by simp⟩, fun i acc G' q _ => it.at' _ _ q.2.2.2.1, fun i w acc G' hw q hn => ?_, fun acc G' hn q => hq _ _ _ q.2.1 q.2.2.1 q.2.2.2.2.1 f.1 hn⟩
  obtain ⟨q1, q2, q3, q4, q5, q6, q7⟩ := q
  refine (hs i w acc G' hw q2 q3 q5).mono fun E1 G2 r1 => r1.mono fun k G3 r2 => ?_
  cases k with
  | true =>
    rw [if_pos rfl] at r2 ⊢
    refine r2.mono fun y G4 r3 => ?_
    obtain ⟨a1, a2, a3⟩ := r3
    have hi : i < xs.length := by
      rcases Nat.lt_or_ge i xs.length with h | h
      · exact h
      · rw [List.getElem?_eq_none_iff.mpr h] at hw; cases hw
    have hl : G1.length < G4.length := Nat.lt_of_lt_of_le q7 a3.1
    refine ⟨a3.get hn hnS, big_le (m := 100000) (by omega), by simp; omega, a1, ?_, ?_, ?_, q6, by simp; exact hl⟩
    · exact hI _ _ a2 (by omega) (by simp) fun k hk => by rw [get_set_ne (by omega)]
    · refine ⟨by simp; omega, fun k hk hk2 => ?_⟩
      rw [get_set_ne (by omega)]
      exact (q4.trans a3).2 k hk hk2
    · refine ⟨by simp; omega, fun k hk hk2 => ?_⟩
      rw [get_set_ne (by omega)]
      exact (q5.trans a3).2 k hk hk2
  | false =>
    simp only [Bool.false_eq_true, if_false] at r2 ⊢
    obtain ⟨a1, a2, a3⟩ := r2
    exact ⟨a3.get hn hnS, by omega, a1, a2, q4.trans a3, q5.trans a3, q6, Nat.lt_of_lt_of_le q7 a3.1⟩
theorem take_filterMap {α β : Type} (f : α → Option β) (xs : List α) (i : Nat) (w : α) (h : xs[i]? = some w) : (xs.take (i + 1)).filterMap f = (xs.take i).filterMap f ++ (match f w with | some y => [y] | none => []) := by
  obtain ⟨hi, e⟩ := List.getElem?_eq_some_iff.mp h
  rw [List.take_succ, h]
  simp only [Option.toList_some, List.filterMap_append, List.filterMap_cons, List.filterMap_nil]
  cases f w <;> rfl
theorem lc_get {mi : MI} {g : MG} {t : MT} {m : ME} {vs : List Nat} {E : PEnv} {G : Cells} {Q : W → Cells → Prop} {P : PIt → Cells → Prop} (h : (mi E G).sat P)
    (k : ∀ pit G1, (mi E G).sat (fun p g => p = pit ∧ g = G1) → P pit G1 → (mLcI mi g t m vs E G).sat Q) : (mLcI mi g t m vs E G).sat Q := by
  obtain ⟨pit, G1, e, q⟩ := h.get
  exact k pit G1 (by rw [e]; exact ⟨rfl, rfl⟩) q
/-- a comprehension that tells f of each item, writing only new cells -/
theorem lc_pure {mi : MI} {g : MG} {t : MT} {m : ME} {vs : List Nat} {E : PEnv} {G : Cells} {Q : W → Cells → Prop} (xs : List W) (f : W → Option W)
    (h : (mi E G).sat fun pit G1 => Fr [] G G1 ∧ ItOk [] pit G1 xs) (hb : xs.length ≤ 100000)
    (hs : ∀ (i : Nat) w G', xs[i]? = some w → Fr [] G G' → (g w (wipeE E vs) G').sat fun E1 G2 => (t E1 G2).sat fun k G3 => if k = true then (m E1 G3).sat fun y G4 => f w = some y ∧ Fr [] G' G4 else f w = none ∧ Fr [] G' G3)
    (hq : ∀ n G', Fr [] G G' → G.length ≤ n → G'[n]? = some (.lst (xs.filterMap f)) → Q (.ref n) G') : (mLcI mi g t m vs E G).sat Q := by
  refine lc_fr [] xs (fun _ => True) (fun i acc => acc = (xs.take i).filterMap f) (fun _ _ _ _ _ _ => trivial) (by simp) (h.mono fun pit G1 q => ⟨q.1, trivial, q.2⟩) hb rfl (fun i w acc G' hw ha _ fr => ?_) fun n acc G' ha _ fr hn hg => ?_
  · refine (hs i w G' hw fr).mono fun E1 G2 r1 => r1.mono fun k G3 r2 => ?_
    have q := take_filterMap f xs i w hw
    cases k with
    | true =>
      rw [if_pos rfl] at r2 ⊢
      refine r2.mono fun y G4 r3 => ⟨?_, trivial, r3.2⟩
      rw [q, r3.1, ha]
    | false =>
      simp only [Bool.false_eq_true, if_false] at r2 ⊢
      refine ⟨?_, trivial, r2.2⟩
      rw [q, r2.1, ha, List.append_nil]
  · refine hq n G' fr hn ?_
    rw [hg, ha, List.take_of_length_le (Nat.le_refl _)]
end PL
namespace PL
theorem sz0 : (0 ≤ PySem.sizeLine) = True := by simp [PySem.sizeLine_eq]
theorem sz1 : (1 ≤ PySem.sizeLine) = True := by simp [PySem.sizeLine_eq]
theorem sz2 : (2 ≤ PySem.sizeLine) = True := by simp [PySem.sizeLine_eq]
theorem sz3 : (3 ≤ PySem.sizeLine) = True := by simp [PySem.sizeLine_eq]
theorem sz4 : (4 ≤ PySem.sizeLine) = True := by simp [PySem.sizeLine_eq]
theorem sz5 : (5 ≤ PySem.sizeLine) = True := by simp [PySem.sizeLine_eq]
theorem sz6 : (6 ≤ PySem.sizeLine) = True := by simp [PySem.sizeLine_eq]
theorem sz7 : (7 ≤ PySem.sizeLine) = True := by simp [PySem.sizeLine_eq]
theorem sz8 : (8 ≤ PySem.sizeLine) = True := by simp [PySem.sizeLine_eq]
theorem sz9 : (9 ≤ PySem.sizeLine) = True := by simp [PySem.sizeLine_eq]
theorem sz10 : (10 ≤ PySem.sizeLine) = True := by simp [PySem.sizeLine_eq]
end PL
/- part PLw -/
set_option maxHeartbeats 1000000
namespace PL
open PySem PySem.Spec PyProof.Rows L2
/-! ### loops whose body may go on by itself -/
def So.satC (r : So) (N C : PEnv → Cells → Prop) (R : W → Cells → Prop) : Prop := match r with | .nx E G => N E G | .ct E G => C E G | .rt w G => R w G | _ => False
section
variable {E : PEnv} {G : Cells} {N C : PEnv → Cells → Prop} {R : W → Cells → Prop}
theorem So.sat.toC {r : So} (h : r.sat N R) : r.satC N C R := by cases r <;> first | exact h | exact h.elim
theorem c_seq (a b : MS) : (sSeq a b E G).satC N C R = (a E G).satC (fun E1 G1 => (b E1 G1).satC N C R) C R := by
  unfold sSeq seqS; cases a E G <;> rfl
theorem c_lift {α : Type} {r : Rs α} {k : α → Cells → So} : (liftS r E k).satC N C R = r.sat fun a G => (k a G).satC N C R := by cases r <;> rfl
theorem c_if (c : MT) (a b : MS) : (sIf c a b E G).satC N C R = (c E G).sat fun k G1 => if k = true then (a E G1).satC N C R else (b E G1).satC N C R := by
  unfold sIf; rw [c_lift]; congr; funext k G1; cases k <;> rfl
theorem c_nx : (sNext E G).satC N C R = N E G := id rfl
theorem c_ct : (sCont E G).satC N C R = C E G := id rfl
theorem c_ret (m : ME) : (sRet m E G).satC N C R = (m E G).sat R := by unfold sRet; rw [c_lift]; rfl
end
theorem forL_satC {pit : PIt} {g : MG} {b : MS} {xs : List W} {I : Nat → PEnv → Cells → Prop} {N : PEnv → Cells → Prop} {R : W → Cells → Prop}
    (hat : ∀ i E G, I i E G → pit.at G i = some xs[i]?)
    (hstep : ∀ i w E G, xs[i]? = some w → I i E G → (g w E G).sat fun E1 G1 => (b E1 G1).satC (I (i + 1)) (I (i + 1)) R)
    (hend : ∀ E G, I xs.length E G → N E G) : ∀ n i E G, I i E G → i + n = xs.length → (forL pit g b n i E G).sat N R := by
  intro n
  induction n with
  | zero =>
    intro i E G h e
    have q := hat i E G h
    have hx : xs[i]? = none := List.getElem?_eq_none_iff.mpr (by omega)
    rw [hx] at q
    unfold forL
    rw [q]
    have : i = xs.length := by omega
    subst this
    exact hend E G h
  | succ n ih =>
    intro i E G h e
    have q := hat i E G h
    have hi : i < xs.length := by omega
    have hx : xs[i]? = some xs[i] := List.getElem?_eq_getElem hi
    rw [hx] at q
    unfold forL
    rw [q]
    simp only
    rw [so_lift]
    refine (hstep i _ E G hx h).mono fun E1 G1 h1 => ?_
    cases hb : b E1 G1 with
    | nx E2 G2 => rw [hb] at h1; exact ih (i + 1) E2 G2 h1 (by omega)
    | ct E2 G2 => rw [hb] at h1; exact ih (i + 1) E2 G2 h1 (by omega)
    | rt w G2 => rw [hb] at h1; exact h1
    | _ => rw [hb] at h1; exact h1.elim
theorem so_forC {mi : MI} {g : MG} {b : MS} {E : PEnv} {G : Cells} {N : PEnv → Cells → Prop} {R : W → Cells → Prop} (xs : List W) (I : Nat → PEnv → Cells → Prop)
    (h : (mi E G).sat fun pit G1 => pit.len G1 = xs.length ∧ I 0 E G1 ∧ ∀ i E' G', I i E' G' → pit.at G' i = some xs[i]?)
    (hstep : ∀ i w E G, xs[i]? = some w → I i E G → (g w E G).sat fun E1 G1 => (b E1 G1).satC (I (i + 1)) (I (i + 1)) R)
    (hend : ∀ E G, I xs.length E G → N E G) : (sForI mi g b E G).sat N R := by
  rw [sForI_eq]; unfold sFor; rw [so_lift]
  refine h.mono fun pit G1 q => ?_
  obtain ⟨h1, h2, h3⟩ := q
  rw [h1]
  exact forL_satC h3 hstep hend _ 0 E G1 h2 (by omega)
/-! ### what is shown -/
theorem da_int (G : Cells) (k : Nat) (i : Int) : dat G (k + 1) (.int i) = some (.int i) := rfl
theorem da_bl (G : Cells) (k : Nat) (b : Bool) : dat G (k + 1) (.bl b) = some (.bool b) := rfl
theorem da_str (G : Cells) (k : Nat) (x : Str) : dat G (k + 1) (.str x) = some (.str x) := rfl
theorem da_tup {G : Cells} {k : Nat} {ws : List W} {ds : List PyData} (h : mapO (dat G k) ws = some ds) : dat G (k + 1) (.tup ws) = some (.tuple ds) := by
  show (mapO (dat G k) ws).map PyData.tuple = _
  rw [h]; rfl
theorem da_lst {G : Cells} {k n : Nat} {ws : List W} {ds : List PyData} (hn : G[n]? = some (.lst ws)) (h : mapO (dat G k) ws = some ds) : dat G (k + 1) (.ref n) = some (.list ds) := by
  show (match G[n]? with | some (.lst ws) => _ | some (.rol ws) => _ | some (.dct kvs) => _ | _ => none) = _
  rw [hn]
  show (mapO (dat G k) ws).map PyData.list = _
  rw [h]; rfl
theorem mo_nil {α β : Type} (f : α → Option β) : mapO f [] = some [] := rfl
theorem mo_cons {α β : Type} {f : α → Option β} {x : α} {xs : List α} {y : β} {ys : List β} (h : f x = some y) (h' : mapO f xs = some ys) : mapO f (x :: xs) = some (y :: ys) := by
  simp only [mapO, h, h']
theorem mo_map {α β γ : Type} {f : α → Option β} {g : γ → α} {h : γ → β} {xs : List γ} (e : ∀ x ∈ xs, f (g x) = some (h x)) : mapO f (xs.map g) = some (xs.map h) := by
  induction xs with
  | nil => rfl
  | cons x xs ih => exact mo_cons (e x (by simp)) (ih fun y hy => e y (by simp [hy]))
def Sh (b : Nat) (d : PyData) : Prop := d.showable = true ∧ d.shown.length ≤ b
theorem Sh.wide {b c : Nat} {d : PyData} (h : Sh b d) (l : b ≤ c) : Sh c d := ⟨h.1, Nat.le_trans h.2 l⟩
theorem int_text {i : Int} (h : i.natAbs < 10 ^ 40) : (Str.ofString (toString i)).length ≤ 41 := by
  cases i with
  | ofNat n => exact Nat.le_trans (toString_length_le (k := 40) (by simp) (by decide) (by simp at h ⊢; omega)) (by decide)
  | negSucc n =>
    have e : toString (Int.negSucc n) = "-" ++ toString (((n + 1 : Nat) : Int)) := rfl
    rw [e, PySem.ofString_length, String.length_append]
    have q := toString_length_le (v := ((n + 1 : Nat) : Int)) (k := 40) (by omega) (by decide) (by simp at h ⊢; omega)
    rw [PySem.ofString_length] at q
    have : ("-" : String).length = 1 := by decide
    omega
theorem sh_int {i : Int} (h : i.natAbs < 10 ^ 40) : Sh 44 (.int i) := by
  refine ⟨?_, ?_⟩
  · rw [PyData.showable.eq_4]
    have : i.natAbs.log2 < 1920 := by
      by_cases h0 : i.natAbs = 0
      · rw [h0]; decide
      · have q : i.natAbs < 2 ^ 200 := Nat.lt_of_lt_of_le h (by decide)
        have := (Nat.log2_lt h0).mpr q
        omega
    simpa using this
  · rw [PyData.shown.eq_3]
    have := int_text h
    omega
theorem sh_bl (b : Bool) : Sh 44 (.bool b) := ⟨rfl, by cases b <;> decide +kernel⟩
theorem sh_non : Sh 44 .none := ⟨rfl, by decide +kernel⟩
theorem sh_lst {b n : Nat} {ds : List PyData} (hn : ds.length ≤ n) (h : ∀ d ∈ ds, Sh b d) : Sh (n * (b + 2) + 44) (.list ds) :=
  ⟨by rw [PyData.showable.eq_5]; exact showableAll_of fun d hd => (h d hd).1, list_shown hn fun d hd => (h d hd).2⟩
theorem sh_tup {b n : Nat} {ds : List PyData} (hn : ds.length ≤ n) (h : ∀ d ∈ ds, Sh b d) : Sh (n * (b + 2) + 44) (.tuple ds) :=
  ⟨by rw [PyData.showable.eq_6]; exact showableAll_of fun d hd => (h d hd).1, tuple_shown hn fun d hd => (h d hd).2⟩
theorem sh_str {x : Str} (h : (reprText x).length ≤ 44) : Sh 44 (.str x) := ⟨rfl, by rw [PyData.shown.eq_4]; exact h⟩
theorem repr_ok {G : Cells} {w : W} {d : PyData} {b : Nat} (h : dat G 60 w = some d) (hs : Sh b d) (hb : b ≤ 16000000) : reprW G [w] = .ok (.str d.shown) G := by
  have : showOk d = true := by simp only [showOk, hs.1, Bool.true_and, decide_eq_true_eq]; have := hs.2; rw [sizeLine_eq]; omega
  simp only [reprW, h, this, if_true]
theorem e_self (G : Cells) (x : Str) : eqOp G (.str x) (.str x) = .ok (.bl true) G := by rw [eqOp_ss, decide_eq_true rfl]
theorem n_self (G : Cells) (x : Str) : neOp G (.str x) (.str x) = .ok (.bl false) G := by rw [neOp_ss, decide_eq_true rfl]; rfl
theorem so_forG {mi : MI} {g : MG} {b : MS} {E : PEnv} {G : Cells} {N : PEnv → Cells → Prop} {R : W → Cells → Prop} {P : PIt → Cells → Prop} (h : (mi E G).sat P)
    (k : ∀ pit G1, (mi E G).sat (fun p g => p = pit ∧ g = G1) → P pit G1 → (sForI mi g b E G).sat N R) : (sForI mi g b E G).sat N R := by
  obtain ⟨pit, G1, e, q⟩ := h.get
  exact k pit G1 (by rw [e]; exact ⟨rfl, rfl⟩) q
end PL
/- part PLx -/
set_option maxHeartbeats 1000000
namespace PL
open PySem PySem.Spec PyProof.Rows L2
section
variable {X : Cx} {XP : Wish} {pos : Pos} {k : Nat}
/-! ### max, min of a tuple of ints -/
theorem maxOf_is (is : List Int) (i : Int) : PySem.W.maxOf i is = is.foldl max i := by
  induction is generalizing i with
  | nil => rfl
  | cons j is ih =>
    show PySem.W.maxOf (if decide (i < j) = true then j else i) is = is.foldl max (max i j)
    rw [ih]
    congr 1
    by_cases h : i < j
    · simp only [h, decide_true, if_true]; omega
    · simp only [h, decide_false, Bool.false_eq_true, if_false]; omega
theorem cr_maxT (c : GC X XP k) : CallR X (.builtin "max") (fun vs H Q => ∃ a i is, vs = [V.ref a] ∧ SqT X.K H a ((i :: is).map V.int) ∧ Q (.int (is.foldl max i)) H) := by
  intro pins s σ H vs us Q I r h
  obtain ⟨a, i, is, rfl, hs, q⟩ := h
  obtain ⟨its, rv, pl, hz⟩ := I.tuple hs
  rw [Vals.ref1 r]
  refine PySem.W.max_tuple_datum (α := Int) (I.ok.hd c.calm) pl (PySem.W.HoldAll.of_ints rv.ints) ?_ fun j v h' tk hv hh hk => ?_
  · show X.A.units + 1 + 0 < cLine
    have := c.hu; omega
  · obtain ⟨bs, rd⟩ := hh
    have rd : Reads h' v (.int (PySem.W.maxOf i is)) bs := rd
    cases rd
    exact ⟨.int (PySem.W.maxOf i is), H, I.kept hk, ⟨_, rfl⟩, by rw [maxOf_is]; exact q⟩
/-- max(..) also of a tuple -/
def maxU : GCall := fun G ws => match ws with
  | [.tup xs] => (match intsW xs with | some (i :: is) => .ok (.int (is.foldl max i)) G | _ => .no)
  | _ => maxW G ws
theorem cg_maxU (c : GC X XP k) : CaG X XP (.builtin "max") maxU := by
  obtain ⟨r0, h0, h1⟩ := (cg_max (XP := XP) c).ex
  refine ⟨_, CallR.or (cr_maxT c) h0, fun ρ G σ H ws vs Q s r o => ?_⟩
  unfold maxU at o
  split at o
  · cases r with
    | cons r rr =>
      cases rr
      cases r with
      | tup q1 q2 =>
        split at o
        · rename_i i is hi
          exact .inl ⟨_, i, is, rfl, by rw [← intsW_ok q2 hi]; exact SqT.of q1, o.ok s (.int _)⟩
        · exact o.elim
  · exact .inr (h1 ρ G σ H ws vs Q s r o)
theorem e_maxT {G : Cells} {i : Int} {is : List Int} : maxU G [.tup ((i :: is).map W.int)] = .ok (.int (is.foldl max i)) G := by
  have hi := intsW_map (i :: is)
  unfold maxU
  simp only [hi]
theorem e_maxU (G : Cells) (i j : Int) : maxU G [.int i, .int j] = .ok (.int (max i j)) G := e_max G i j
end
end PL
/- part PLz -/
set_option maxHeartbeats 1000000
namespace PL
open PySem PySem.Spec PyProof.Rows L2
/-! ### zip of a list and a tuple -/
/-- turn by turn: an item of the list at a, one of the tuple at b, paired anew -/
def ItzM (K : Fg) (a b : Addr) : It where
  go i H := ∃ (ps qs : List V) (p q : V), SqL K H a ps ∧ SqT K H b qs ∧ ps[i]? = some p ∧ qs[i]? = some q
  yld i H v H' := ∃ T p q, v = .ref T ∧ H T = none ∧ H' = upd H T (.tup [p, q]) ∧ (∀ ps, SqL K H a ps → ps[i]? = some p) ∧ ∀ qs, SqT K H b qs → qs[i]? = some q
  stop i H := ∃ ps qs : List V, SqL K H a ps ∧ SqT K H b qs ∧ i ≤ ps.length ∧ i ≤ qs.length ∧ (i = ps.length ∨ i = qs.length)
theorem five {c z a b d e : Addr} (h : c ∈ [z, a, b, d, e]) : c = z ∨ c = a ∨ c = b ∨ c = d ∨ c = e := by simpa using h
theorem turn_zipM {P : Program} {w : World} {K : Fg} {elts : List Expr} {kk : Nat} {tpos : Pos} {a b z TI TO i1 i2 : Addr} (D : ZipSep2 z TI TO i1 i2 [i1, a] [i2, b]) (ha : a ≠ i1) (hb : b ≠ i2) :
    Turn P w K (.Tuple elts kk tpos) (ItzM K a b) [z, TI, TO, i1, i2] z (fun i h => IsZip h z TI TO .none ∧ IsTupOf2 h TI (.ref i1) (.ref i2) ∧ (∃ p q, IsTupOf2 h TO p q) ∧ h.IsListIter i1 a i ∧ h.IsTupleIter i2 b i) where
  mem := by simp
  obj := fun i h st c hc => by
    obtain ⟨s1, s2, ⟨p, q, s3⟩, ⟨o1, e1, _, d1⟩, ⟨o2, e2, _, d2⟩⟩ := st
    rcases five hc with rfl | rfl | rfl | rfl | rfl
    · exact ⟨_, s1, fun v q => nomatch q⟩
    · exact ⟨_, s2, fun v q => nomatch q⟩
    · exact ⟨_, s3, fun v q => nomatch q⟩
    · exact ⟨o1, e1, fun v q => by rw [d1] at q; cases q⟩
    · exact ⟨o2, e2, fun v q => by rw [d2] at q; cases q⟩
  keep := fun i h h' st k => by
    obtain ⟨s1, s2, ⟨p, q, s3⟩, s4, s5⟩ := st
    exact ⟨k z (by simp) _ s1, k TI (by simp) _ s2, ⟨p, q, k TO (by simp) _ s3⟩, s4.at fun o e => k i1 (by simp) o e, s5.at fun o e => k i2 (by simp) o e⟩
  item := by
    intro X hP hw hK hc i pins s σ H E I hf st hg
    subst hP hw hK
    obtain ⟨s1, s2, ⟨p0, q0, s3⟩, s4, s5⟩ := st
    obtain ⟨ps, qs, p, q, hps, hqs, hp, hq⟩ := hg
    obtain ⟨its, rv, pl, _⟩ := I.list hps
    obtain ⟨its2, rv2, pt, _⟩ := I.tuple hqs
    obtain ⟨u, hu, ru⟩ := rv.get hp
    obtain ⟨u2, hu2, ru2⟩ := rv2.get hq
    have zlt : z < s.heap.objs.size := Heap.lt_size s1
    have D1 := Draws.list (prog := X.prog) (w := X.w) (A := X.A.in1) (by exact I.ok.hd hc) i1 a ha its.toArray
    have D2 := Draws.tuple (prog := X.prog) (w := X.w) (A := X.A.in1) (by exact I.ok.hd hc) i2 b hb its2.toArray
    have b1 : i < its.toArray.size := by
      have := (List.getElem?_eq_some_iff.mp hu).1
      simpa using this
    have b2 : i < its2.toArray.size := by
      have := (List.getElem?_eq_some_iff.mp hu2).1
      simpa using this
    refine wpAny_pyNext_zipD2_item D D1 D2 s1 s2 s3 ⟨s4, pl.isList⟩ ⟨s5, pt⟩ b1 b2 fun x1 x2 h' tk y1 y2 n1 n2 n3 n4 n5 n6 n7 => ?_
    have g1 : x1 = u := by
      have e : its[i]? = some x1 := by simpa using y1
      rw [hu] at e; exact (Option.some.inj e).symm
    have g2 : x2 = u2 := by
      have e : its2[i]? = some x2 := by simpa using y2
      rw [hu2] at e; exact (Option.some.inj e).symm
    subst g1 g2
    refine ⟨_, rfl, wpAny_letOwnedTupleGo_zip (s := { s with heap := h', toks := tk }) n1 fun h2 z2 sb => ?_⟩
    have keepz : ∀ c o, c ≠ z → h'.get? c = some o → h2.get? c = some o := fun c o ne e => (sb.2 c ne).trans e
    have tup : h2.get? s.heap.objs.size = some { cls := .type "tuple", data := .seq #[x1, x2] } := keepz _ _ (Nat.ne_of_gt zlt) n5
    have new : ObjOk X.prog X.w (upd H s.heap.objs.size (.tup [p, q])) h2 s.heap.objs.size (.tup [p, q]) :=
      ⟨by show 2 ≤ sizeLine; decide, [x1, x2], .cons ru (.cons ru2 .nil), ⟨_, tup, rfl, _, rfl⟩⟩
    have I1 : Inv X pins σ (upd H s.heap.objs.size (.tup [p, q])) { s with heap := h2, toks := tk } :=
      I.turnedNew (ch := [z, TI, TO, i1, i2]) (fun c o off e => keepz c o (fun z => off (by simp [z])) (n7 c o (fun z => off (by simp [z])) (fun z => off (by simp [z])) (fun z => off (by simp [z])) (fun z => off (by simp [z])) e)) hf (Nat.le_refl _) new
    refine ⟨.ref s.heap.objs.size, _, I1, rfl, ⟨_, p, q, rfl, I.hok.fresh (Nat.le_refl _), rfl, fun l hl => ?_, fun l hl => ?_⟩, ⟨z2, ?_, ⟨x1, x2, ?_⟩, ?_, ?_⟩, fun c hcm => ?_⟩
    · rw [I.list_inj hl hps]; exact hp
    · rw [I.tuple_inj hl hqs]; exact hq
    · exact keepz _ _ D.TIz (n7 _ _ D.TIz D.TITO D.TIi1 D.TIi2 s2)
    · exact keepz _ _ D.TOz n2
    · exact n3.1.at fun o e => keepz _ o (Ne.symm D.zi1) e
    · exact n4.1.at fun o e => keepz _ o (Ne.symm D.zi2) e
    · have hlt : c < s.heap.objs.size := by
        rcases five hcm with rfl | rfl | rfl | rfl | rfl
        · exact zlt
        · exact Heap.lt_size s2
        · exact Heap.lt_size s3
        · obtain ⟨_, e1, _⟩ := s4; exact Heap.lt_size e1
        · obtain ⟨_, e2, _⟩ := s5; exact Heap.lt_size e2
      rw [upd_ne (Nat.ne_of_lt hlt)]
      exact (hf c hcm).1
  done := by
    intro X hP hw hK hc i pins s σ H E I hf st hg
    subst hP hw hK
    obtain ⟨s1, s2, ⟨p0, q0, s3⟩, s4, s5⟩ := st
    obtain ⟨ps, qs, hps, hqs, le1, le2, he⟩ := hg
    obtain ⟨its, rv, pl, _⟩ := I.list hps
    obtain ⟨its2, rv2, pt, _⟩ := I.tuple hqs
    have l1 := rv.length
    have l2 := rv2.length
    have D1 := Draws.list (prog := X.prog) (w := X.w) (A := X.A.in1) (by exact I.ok.hd hc) i1 a ha its.toArray
    have D2 := Draws.tuple (prog := X.prog) (w := X.w) (A := X.A.in1) (by exact I.ok.hd hc) i2 b hb its2.toArray
    refine wpAny_pyNext_zipD2_end D D1 D2 s1 s2 s3 ⟨s4, pl.isList⟩ ⟨s5, pt⟩ (by simp; omega) (by simp; omega) (by simp; omega) fun h' tk hk => ⟨rfl, ?_⟩
    exact I.turnedL (ch := [z, TI, TO, i1, i2]) (fun c o off e => hk c o (fun z => off (by simp [z])) (fun z => off (by simp [z])) (fun z => off (by simp [z])) (fun z => off (by simp [z])) e) hf
  self := fun A i s Q E st h => wpAny_pyIter_zip st.1 h
theorem zsep (n a b : Nat) (la : a < n) (lb : b < n) : ZipSep2 (n + 4) (n + 2) (n + 3) n (n + 1) [n, a] [n + 1, b] := by
  have e1 : n + 4 ≠ a ∧ n + 3 ≠ a ∧ n + 1 ≠ a ∧ n + 4 ≠ b ∧ n + 3 ≠ b ∧ n ≠ b := by omega
  obtain ⟨k1, k2, k3, k4, k5, k6⟩ := e1
  exact ⟨Nat.ne_of_lt (by omega), Nat.ne_of_lt (by omega), Nat.ne_of_lt (by omega), Nat.ne_of_gt (by omega), by simp, by simp [k1], by simp [k2], Nat.ne_of_gt (by omega), by simp, by simp [k4], by simp [k5], by simp [k6], by simp [k3]⟩
section
variable {X : Cx} {XP : Wish} {pos : Pos}
def iZipM (K : Fg) (ta : TA) : TI := fun σ H R => ta σ H fun vs H1 => ∃ a b ps qs, vs = [.ref a, .ref b] ∧ SqL K H1 a ps ∧ SqT K H1 b qs ∧ R (ItzM K a b) H1
theorem pi_zipM {e e2 : Expr} {ta : TA} {p tpos : Pos} {elts : List Expr} {kk : Nat} (hg : Gl X "zip") (hm : X.mg "zip" = none) (ha : PA X [e, e2] ta)
    (hs : starEach [e, e2] X.env = (false, eval e X.env) :: starEach [e2] X.env) (hpl : (backTo pos (starEach [e2] X.env)).any (·.1) = false) : PI X (.Tuple elts kk tpos) (.Call (.Name "zip" p) [e, e2] [] pos) (iZipM X.K ta) := by
  refine ⟨fun pins s σ H R I h => Call_ (ld_blt I hg hm PyProof.Rows.boot_zip (PyProof.Rows.callWith_type1 (thn (ha.run pos pins s σ H _ I h) fun us s1 ⟨vs, H1, I1, r1, q1⟩ => ?_) hs hpl))⟩
  obtain ⟨a, b, ps, qs, rfl, hps, hqs, q⟩ := q1
  cases r1 with
  | cons ra rr =>
    cases rr with
    | cons rb rr =>
      cases rr
      cases ra
      cases rb
      obtain ⟨its, rv, pl, _⟩ := I1.list hps
      obtain ⟨its2, rv2, pt, _⟩ := I1.tuple hqs
      have la : a < s1.heap.objs.size := pl.lt
      have lb : b < s1.heap.objs.size := pt.lt
      refine zip_begins2 (begins_list a its.toArray) (begins_tuple b its2.toArray) pl.isList pt fun h' hz hTI hTO h1 h2 hsz hk => wpAny_pyIter_zip hz ?_
      have hn := hsz
      refine ⟨s1.heap.objs.size + 4, [s1.heap.objs.size + 4, s1.heap.objs.size + 2, s1.heap.objs.size + 3, s1.heap.objs.size, s1.heap.objs.size + 1], _, _, H1, rfl, I1.kept (t' := s1.toks) hk, turn_zipM (zsep _ a b la lb) (Nat.ne_of_lt la) (Nat.ne_of_lt (Nat.lt_succ_of_lt lb)), ⟨hz, hTI, ⟨_, _, hTO⟩, ⟨_, h1, rfl, rfl⟩, ⟨_, h2, rfl, rfl⟩⟩, ?_, q⟩
      intro c hc
      have hle : s1.heap.objs.size ≤ c := by rcases five hc with rfl | rfl | rfl | rfl | rfl <;> first | exact Nat.le_add_right _ _ | exact Nat.le_refl _
      exact I1.fpOk hle (I1.hok.fresh hle)
theorem itr_zipM {K : Fg} {ρ : List Addr} {H : Hp} {n : Nat} {us : List W} {zs : List V} {a b : Addr} (h1 : ρ[n]? = some a) (g1 : H b = some (.tup zs)) (g2 : VRs K ρ H us zs) : ItR K ρ H (.zipM n us) (ItzM K a b) := by
  intro ρ' G' H' e s i
  have h1' := e.rho _ _ h1
  have g1' : SqT K H' b zs := .of (e.tups _ _ g1)
  have g2' := g2.mono e
  have gl := g2'.length
  simp only [PIt.at]
  cases hr : rdL G' n with
  | none => exact ⟨fun h => by simp at h, fun w h => by simp at h⟩
  | some ws =>
    obtain ⟨vs, q1, q2⟩ := rdL_ok s h1' hr
    have vl := q2.length
    simp only [Option.bind_some]
    by_cases hc : i ≤ ws.length ∧ i ≤ us.length
    · rw [if_pos hc]
      cases hx : ws[i]? with
      | none =>
        have := List.getElem?_eq_none_iff.mp hx
        exact ⟨fun h => ⟨vs, zs, q1, g1', by omega, by omega, .inl (by omega)⟩, fun w h => by simp at h⟩
      | some w0 =>
        cases hy : us[i]? with
        | none =>
          have := List.getElem?_eq_none_iff.mp hy
          exact ⟨fun h => ⟨vs, zs, q1, g1', by omega, by omega, .inr (by omega)⟩, fun w h => by simp at h⟩
        | some u0 =>
          refine ⟨fun h => by simp at h, fun w h => ?_⟩
          have : w = .tup [w0, u0] := by simp at h; exact h.symm
          subst this
          obtain ⟨v, k1, k2⟩ := q2.get hx
          obtain ⟨z, k3, k4⟩ := g2'.get hy
          refine ⟨⟨vs, zs, v, z, q1, g1', k1, k3⟩, fun v' H2 hh => ?_⟩
          obtain ⟨T, x, y, rfl, hT, rfl, hy1, hy2⟩ := hh
          have t1 := hy1 vs q1
          have t2 := hy2 zs g1'
          rw [k1] at t1; cases t1
          rw [k3] at t2; cases t2
          have ex : Ext K ρ' H' ρ' (upd H' T (.tup [v, z])) := ext_upd (.inl hT) fun _ _ h => h
          exact ⟨ex, s.fresh hT, .tup upd_same (.cons (k2.mono ex) (.cons (k4.mono ex) .nil))⟩
    · rw [if_neg hc]
      exact ⟨fun h => by simp at h, fun w h => by simp at h⟩
/-- zip of a list and a tuple, known to be so -/
def mZipL (m : MA) : MI := fun E G => (m E G).bind fun ws G' => match ws with
  | [.ref n, .tup ys] => (match rdL G' n with | some _ => .ok (.zipM n ys) G' | none => .no)
  | _ => .no
theorem hi_zipL {e e2 : Expr} {m : MA} {p tpos : Pos} {elts : List Expr} {kk : Nat} (hg : Gl X "zip") (hm : X.mg "zip" = none) (ha : HA X XP [e, e2] m)
    (hs : starEach [e, e2] X.env = (false, eval e X.env) :: starEach [e2] X.env := by rfl) (hpl : (backTo pos (starEach [e2] X.env)).any (·.1) = false := by rfl) : HI X XP (.Tuple elts kk tpos) (.Call (.Name "zip" p) [e, e2] [] pos) (mZipL m) := by
  obtain ⟨t, h1, h2⟩ := ha.ex
  refine ⟨_, pi_zipM hg hm h1 hs hpl, fun ρ E G σ H R er sr q => h2 ρ E G σ H _ er sr (q.bind fun ws G1 ρ1 H1 vs e1 s1 r1 k1 => ?_)⟩
  split at k1
  · split at k1
    · rename_i xs hr
      cases r1 with
      | cons r rr =>
        cases rr with
        | cons r' rr =>
          cases rr
          cases r with
          | ref hn =>
            cases r' with
            | tup g1 g2 =>
              obtain ⟨vs, q1, q2⟩ := rdL_ok s1 hn hr
              exact ⟨_, _, vs, _, rfl, q1, .of g1, k1.ok s1 (itr_zipM hn g1 g2)⟩
    · exact k1.elim
  · exact k1.elim
end
theorem s_zipL {E : PEnv} {G : Cells} {QI : PIt → Cells → Prop} (m m' : ME) : (mZipL (mCons m (mCons m' mNil)) E G).sat QI = (m E G).sat fun w G1 => (m' E G1).sat fun u G2 => ∃ n, w = .ref n ∧ ∃ ys, u = .tup ys ∧ (rdL G2 n).isSome = true ∧ QI (.zipM n ys) G2 := by
  unfold mZipL; rw [sat_bind, s_cons]; congr; funext x G1; rw [s_cons]; congr; funext y G2; rw [s_nil]
  cases x <;> cases y <;> simp
  rename_i i ys
  cases h : rdL G2 i <;> simp [h]
theorem s_zip {E : PEnv} {G : Cells} {QI : PIt → Cells → Prop} (m m' : ME) : (mZip (mCons m (mCons m' mNil)) E G).sat QI = (m E G).sat fun w G1 => (m' E G1).sat fun u G2 => (∃ xs, w = .tup xs ∧ ∃ ys, u = .tup ys ∧ QI (.zipT xs ys) G2) ∨ (∃ n, w = .ref n ∧ ∃ k, u = .ref k ∧ (rdL G2 n).isSome = true ∧ (rdL G2 k).isSome = true ∧ QI (.zipL n k) G2) := by
  unfold mZip; rw [sat_bind, s_cons]; congr; funext x G1; rw [s_cons]; congr; funext y G2; rw [s_nil]
  cases x <;> cases y <;> simp
  rename_i i k
  cases h : rdL G2 i <;> cases h' : rdL G2 k <;> simp [h, h']
theorem it_zipM {S : List Nat} {G : Cells} {n : Nat} {xs ys : List W} (h : G[n]? = some (.lst xs)) (hn : n ∉ S) (hl : xs.length = ys.length) : (PIt.zipM n ys).len G = (ziW xs ys).length ∧ ∀ G' i, i ≤ xs.length → Fr S G G' → (PIt.zipM n ys).at G' i = some (ziW xs ys)[i]? :=
  ⟨by rw [ziW_len]; simp [PIt.len, rdL, h], fun G' i hi f => by
    have h1 := f.get h hn
    rw [ziW_get]
    simp only [PIt.at, rdL, h1, Option.bind_some]
    rw [if_pos ⟨hi, by omega⟩]⟩
end PL
/- part PLy -/
set_option maxHeartbeats 1000000
namespace PL
open PySem PySem.Spec PyProof.Rows L2
section
variable {X : Cx} {XP : Wish} {pos : Pos} {k : Nat}
/-! ### dict(pairs), sorted(dict) -/
def pairsW : List W → Option (List (Key × W))
  | [] => some []
  | .tup [a, b] :: ws => (match keyW a, pairsW ws with | some k, some r => some ((k, b) :: r) | _, _ => none)
  | _ => none
theorem pairs_ok {K : Fg} {ρ : List Addr} {H : Hp} : ∀ {ws : List W} {vs : List V} {kvs : List (Key × W)}, VRs K ρ H ws vs → pairsW ws = some kvs →
    ∃ (ps : List Addr) (q : List (Key × V)), vs = ps.map V.ref ∧ Paired (fun p kv => SqT K H p [kV kv.1, kv.2]) ps q ∧ KVR K ρ H kvs q := by
  intro ws
  induction ws with
  | nil => intro vs kvs r h; cases r; cases h; exact ⟨[], [], rfl, .nil, .nil⟩
  | cons w ws ih =>
    intro vs kvs r h
    cases r with
    | cons r1 r2 =>
      cases w with
      | tup us =>
        match us, r1, h with
        | [a, b], r1, h =>
          simp only [pairsW] at h
          cases ha : keyW a with
          | none => rw [ha] at h; cases h
          | some ka =>
            cases hp : pairsW ws with
            | none => rw [ha, hp] at h; cases h
            | some rest =>
              rw [ha, hp] at h
              cases h
              cases r1 with
              | tup s1 s2 =>
                cases s2 with
                | cons t1 t2 =>
                  cases t2 with
                  | cons t3 t4 =>
                    cases t4
                    obtain ⟨ps, q, e1, e2, e3⟩ := ih r2 hp
                    have := keyW_ok t1 ha
                    subst this
                    exact ⟨_ :: ps, (ka, _) :: q, by rw [e1]; rfl, .cons (.of s1) e2, .cons t3 e3⟩
        | [], _, h => cases h
        | [_], _, h => cases h
        | _ :: _ :: _ :: _, _, h => cases h
      | _ => cases h
def dictW : GCall := fun G ws => match ws with
  | [.ref n] => (match rdL G n with | some xs => (match pairsW xs with | some kvs => .ok (.ref G.length) (G ++ [.dct (mergeW [] kvs)]) | none => .no) | none => .no)
  | _ => .no
theorem cg_dict (c : GC X XP k) : CaG X XP (.type "dict") dictW := by
  refine ⟨_, call_dictP c.calm, fun ρ G σ H ws vs Q s r o => ?_⟩
  unfold dictW at o
  split at o
  · cases r with
    | cons r rr =>
      cases rr
      cases r with
      | ref hn =>
        split at o
        · rename_i xs hx
          split at o
          · rename_i kvs hk
            obtain ⟨us, q1, q2⟩ := rdL_ok s hn hx
            obtain ⟨ps, q, rfl, e2, e3⟩ := pairs_ok q2 hk
            refine ⟨_, ps, q, rfl, q1, e2, fun p hp => ?_⟩
            have ex : Ext X.K ρ H (ρ ++ [p]) (upd H p (.dK (mergeK [] q))) := ext_alloc hp
            exact o (ρ ++ [p]) _ _ ex (s.alloc hp ⟨_, upd_same, KVR.merge (e3.mono ex) .nil⟩) (.ref (by rw [← s.len]; exact last_get _ _))
          · exact o.elim
        · exact o.elim
  · exact o.elim
def keysI : List (Key × W) → Option (List Int)
  | [] => some []
  | (.inl i, _) :: r => (keysI r).map (i :: ·)
  | _ => none
theorem keysI_ok {K : Fg} {ρ : List Addr} {H : Hp} : ∀ {kvs : List (Key × W)} {q : List (Key × V)} {ks : List Int}, KVR K ρ H kvs q → keysI kvs = some ks → q.map (·.1) = ks.map Sum.inl := by
  intro kvs
  induction kvs with
  | nil => intro q ks r h; cases r; cases h; rfl
  | cons p r ih =>
    intro q ks hr h
    cases hr with
    | cons h1 h2 =>
      rename_i key _ _ _
      cases key with
      | inl i =>
        simp only [keysI] at h
        cases hk : keysI r with
        | none => rw [hk] at h; cases h
        | some js => rw [hk] at h; cases h; rw [List.map_cons, List.map_cons, ih h2 hk]
      | inr x => cases h
def sortedDW : GCall := fun G ws => match ws with
  | [.ref n] => (match G[n]? with | some (.dct kvs) => (match keysI kvs with | some ks => if ks.length < 64 then .ok (.ref G.length) (G ++ [.lst ((ks.mergeSort leB).map W.int)]) else .no | none => .no) | _ => .no)
  | _ => .no
theorem cg_sortedD (c : GC X XP k) : CaG X XP (.builtin "sorted") sortedDW := by
  refine ⟨_, call_sortedDI c.calm, fun ρ G σ H ws vs Q s r o => ?_⟩
  unfold sortedDW at o
  split at o
  · cases r with
    | cons r rr =>
      cases rr
      cases r with
      | ref hn =>
        split at o
        · rename_i kvs hc
          split at o
          · rename_i ks hk
            split at o
            · rename_i h64
              obtain ⟨q, q1, q2⟩ := cell_dct s hn hc
              exact ⟨_, q, ks, rfl, .of q1, keysI_ok q2 hk, h64, fun ys p h1 h2 hp => by rw [sort_is h1 h2]; exact out_lst o s (vrs_ints _) hp⟩
            · exact o.elim
          · exact o.elim
        · exact o.elim
  · exact o.elim
end
end PL
/- part PLA -/
set_option maxHeartbeats 1000000
namespace PL
open PySem PySem.Spec PyProof.Rows L2
/-! ### a list put into two names -/
def gLstW (n : Nat) (m : MGs) : MG := fun w E G => match w with
  | .ref k => (match G[k]? with | some (.lst ws) => if ws.length = n then m ws E G else .no | _ => .no)
  | _ => .no
section
variable {X : Cx} {XP : Wish} {pos : Pos}
theorem hg_lst {es : List Expr} {kk : Nat} {n : Nat} {sl : List Nat} {m : MGs} (hc : X.calm = true) (h : HGs X XP es sl m) (hn : (assignEach es X.env).length = n := by rfl) (hst : (assignEach es X.env).findIdx? (·.1) = none := by rfl) : HG X XP (.Tuple es kk pos) sl (gLstW n m) := by
  obtain ⟨g, h1, h2⟩ := h.ex
  refine ⟨_, pg_lst hc h1 hn hst, fun ρ w E G v σ H Q r er sr q => ?_⟩
  unfold gLstW at q
  split at q
  · cases r with
    | ref ha =>
      split at q
      · rename_i hG
        split at q
        · rename_i hn
          obtain ⟨vs, e, rs⟩ := sr.cell _ _ _ hG ha
          exact ⟨_, _, rfl, .inl (.inl e), by rw [← rs.length]; exact hn, h2 ρ _ E G _ σ σ H Q rs er rfl (fun _ _ => rfl) sr q⟩
        · exact q.elim
      · exact q.elim
  · exact q.elim
end
section
variable {E : PEnv} {G : Cells} {N : PEnv → Cells → Prop} {R : W → Cells → Prop}
theorem g_lst2 {i j k : Nat} {x y : W} (h : G[k]? = some (.lst [x, y])) : (gLstW 2 (gsCons i (gsCons j gsNil)) (.ref k) E G).sat N = N ((E.set i (some x)).set j (some y)) G := by
  unfold gLstW
  simp only [h]
  rfl
end
end PL
/- part PLB -/
set_option maxHeartbeats 1000000
namespace PL
open PySem PySem.Spec PyProof.Rows L2
/-! ### functions handed in -/
section
variable {X : Cx} {XP : Wish} {pos p : Pos} {k : Nat} {f : Addr} {fd : FuncData} {ps : List Str} {F : PF} {x : Str}
theorem he_fn (hg : Gl X x) (hm : X.mg x = some (.ref f)) (hdb : (x == ("__debug__" : Str)) = false := by decide) : HE X XP (.Name x pos) (mC (.fn f)) :=
  ⟨_, pe_glob hg hm (show RelV (.ref f) (.ref f) from rfl) hdb, fun ρ E G σ H Q er sr q => q.ok sr (.fn f)⟩
/-- the call of a local name that holds a function that is known -/
def mDefL (i : Nat) (f : Addr) (F : PF) (m : MA) : ME := fun E G => match E[i]? with
  | some (some (.fn g)) => if g = f then (m E G).bind fun ws G' => F ws G' else .no
  | _ => .no
theorem he_callL {i : Nat} {e : Expr} {es : List Expr} {m : MA} (h : FnG X.prog X.w X.K X.mg X.base k f fd ps F) (c : GC X XP k) (hN : X.N[i]? = some x) (hv : Vis X.env.scope x) (hk : PySem.W.keepIn X.K (.ref f) = true) (hb : Binds X.K fd ps []) (ha : HA X XP (e :: es) m)
    (hdb : (x == ("__debug__" : Str)) = false := by decide) (hcd : (x == ("__classdict__" : Str)) = false := by decide) (he : starEach (e :: es) X.env = (false, eval e X.env) :: starEach es X.env := by rfl) (hpl : (backTo pos (starEach es X.env)).any (·.1) = false := by rfl) : HE X XP (.Call (.Name x p) (e :: es) [] pos) (mDefL i f F m) := by
  obtain ⟨t, a1, a2⟩ := ha.ex
  refine ⟨fun σ H Q => tVar i σ H fun v H0 => v = .ref f ∧ t σ H0 fun vs H1 => ∃ ρ G ws, VRs X.K ρ H1 ws vs ∧ SR X.K ρ G H1 ∧ Out X.K XP (VR X.K) σ ρ H1 (F ws G) Q, ⟨fun pins s σ H Q I q => ?_⟩, fun ρ E G σ H Q er sr q => ?_⟩
  · refine wpAny_Call_Name_kw (thn ((pe_var hN hv hdb hcd).run pins s σ H _ I q) fun u s0 ⟨v, H0, I0, r0, hv0, q0⟩ => ?_)
    subst hv0
    obtain rfl : u = .ref f := r0
    refine PySem.W.callWith_K (h₀ := X.base) I0.ok.mod.kin hk (thn (a1.run pos pins s0 σ H0 _ I0 q0) fun us s1 ⟨vs, H1, I1, r, ρ, G, ws, q1, q2, q3⟩ => ⟨I1.kIn, ?_⟩) he hpl
    exact h.runC c (args := ⟨us, []⟩) I1 (fun hl => by have := hb s1 us I1.kIn (by rw [List.append_nil]; exact hl); rwa [List.append_nil] at this) r q1 q2 q3
  · unfold mDefL at q
    split at q
    · rename_i g hg
      split at q
      · rename_i hgf
        subst hgf
        obtain ⟨v, hv1, hv2⟩ := er.get hg
        cases hv2
        exact ⟨_, hv1, rfl, a2 ρ E G σ H _ er sr (q.bind fun ws G1 ρ1 H1 vs e1 s1 q1 k1 => ⟨ρ1, G1, ws, q1, s1, k1⟩)⟩
      · exact q.elim
    · exact q.elim
end
end PL
/- part PLC -/
set_option maxHeartbeats 1000000
namespace PL
open PySem PySem.Spec PyProof.Rows L2
/-! ### dict comprehensions -/
section
variable {X : Cx} {XP : Wish} {pos : Pos}
/-- the dict at the cell n is filled -/
def dcL (pit : PIt) (g : MG) (t : MT) (mk mv : ME) (n : Nat) (E : PEnv) : Nat → Nat → Cells → Option Cells
  | fuel, i, G => match pit.at G i with
    | none => none
    | some none => some G
    | some (some w) => match fuel with
      | 0 => none
      | k + 1 => match g w E G with
        | .ok E1 G1 => (match t E1 G1 with
          | .ok true G2 => (match mk E1 G2 with
            | .ok y G3 => (match mv E1 G3 with
              | .ok z G4 => (match keyW y with
                | some ky => (match G4[n]? with
                  | some (.dct kvs) => if kvs.length < sizeLine then dcL pit g t mk mv n E k (i + 1) (G4.set n (.dct (putW kvs ky z))) else none
                  | _ => none)
                | none => none)
              | _ => none)
            | _ => none)
          | .ok false G2 => dcL pit g t mk mv n E k (i + 1) G2
          | _ => none)
        | _ => none
@[irreducible] def mDc (mi : MI) (g : MG) (t : MT) (mk mv : ME) (vs : List Nat) : ME := fun E G => (mi E G).bind fun pit G1 =>
  match dcL pit g t mk mv G1.length (wipeE E vs) (pit.len G1) 0 (G1 ++ [.dct []]) with
  | some G2 => .ok (.ref G1.length) G2
  | none => .no
theorem dc_runA (A : List Addr → PEnv → Cells → St → Hp → Prop) {wi : TI} {mi : MI} {g : MG} {t : MT} {mk mv : ME} {vs sl : List Nat} (hsl : ∀ i ∈ sl, i ∈ vs)
    (i2 : ∀ ρ E G σ H R, A ρ E G σ H → ER X.K ρ H E σ → SR X.K ρ G H → Out X.K XP (ItR X.K) σ ρ H (mi E G) R → wi σ H R) :
    ∀ ρ E G σ H Q, A ρ E G σ H → ER X.K ρ H E σ → SR X.K ρ G H → Out X.K XP (VR X.K) σ ρ H (mDc mi g t mk mv vs E G) Q → tDc wi (rdG X.K noX sl g) (rdT X.K noX t) (rdE X.K noX mk) (rdE X.K noX mv) vs σ H Q := by
  intro ρ E G σ H Q ha0 er sr q
  unfold mDc at q
  refine i2 ρ E G σ H _ ha0 er sr (q.bind fun pit G1 ρ1 H1 J e1 s1 r1 k1 => ?_)
  intro D hD
  have hcell : CR X.K (ρ1 ++ [D]) (upd H1 D (.dK [])) (.dct []) D := ⟨[], upd_same, .nil⟩
  have sA := s1.alloc hD hcell
  have eA : Ext X.K ρ1 H1 (ρ1 ++ [D]) (upd H1 D (.dK [])) := ext_alloc hD
  have hn : (ρ1 ++ [D])[G1.length]? = some D := by rw [← s1.len]; exact last_get _ _
  refine ⟨fun i k H' => ∃ ρ' G', Ext X.K (ρ1 ++ [D]) (upd H1 D (.dK [])) ρ' H' ∧ SR X.K ρ' G' H' ∧ ∃ G2, dcL pit g t mk mv G1.length (wipeE E vs) k i G' = some G2 ∧ Out X.K XP (VR X.K) σ ρ' H' (.ok (.ref G1.length) G2) Q, ?_, ?_⟩
  · cases hr : dcL pit g t mk mv G1.length (wipeE E vs) (pit.len G1) 0 (G1 ++ [.dct []]) with
    | none => rw [hr] at k1; exact k1.elim
    | some G2 => rw [hr] at k1; exact ⟨_, ρ1 ++ [D], G1 ++ [.dct []], .refl, sA, G2, hr, Out.mono k1 eA⟩
  · rintro i k H' ⟨ρ', G', ex, s', G2, hl, o⟩
    obtain ⟨hstop, hgo⟩ := r1 ρ' G' H' (eA.trans ex) s' i
    have hn' := ex.rho _ _ hn
    unfold dcL at hl
    split at hl
    · cases hl
    · rename_i ha
      cases hl
      exact .inl ⟨hstop ha, o.ok s' (.ref hn')⟩
    · rename_i w ha
      obtain ⟨go, hy⟩ := hgo w ha
      split at hl
      · cases hl
      · rename_i k0
        refine .inr ⟨go, fun H2 => ∃ ρ2 G3, Ext X.K (ρ1 ++ [D]) (upd H1 D (.dK [])) ρ2 H2 ∧ SR X.K ρ2 G3 H2 ∧ ∃ G2, dcL pit g t mk mv G1.length (wipeE E vs) k0 (i + 1) G3 = some G2 ∧ Out X.K XP (VR X.K) σ ρ2 H2 (.ok (.ref G1.length) G2) Q, fun H2 h => ⟨k0, Nat.lt_succ_self _, h⟩, fun x H2 y => ?_⟩
        obtain ⟨y1, y2, y3⟩ := hy x H2 y
        have erw : ER X.K ρ' H2 (wipeE E vs) (L2.wipe σ vs) := ((er.mono (e1.trans (eA.trans (ex.trans y1)))).wipe vs)
        refine ⟨ρ', w, wipeE E vs, G', y3, erw, y2, ?_⟩
        split at hl
        · rename_i E1 G3 hg
          rw [hg]
          intro ρ3 H3 σ3 e3 s3 r3
          refine ⟨wipe_again ?_ r3.2.2 hsl, ρ3, E1, G3, r3.1, s3, ?_⟩
          · rw [r3.2.1, L2.wipe_length]
          · split at hl
            · rename_i G4 ht
              rw [ht]
              intro ρ4 H4 b e4 s4 hb
              cases hb
              rw [if_pos rfl]
              refine ⟨ρ4, E1, G4, r3.1.mono e4, s4, ?_⟩
              split at hl
              · rename_i yw G5 hm
                rw [hm]
                intro ρ5 H5 v e5 s5 r5
                refine ⟨ρ5, E1, G5, (r3.1.mono e4).mono e5, s5, ?_⟩
                split at hl
                · rename_i zw G6 hm2
                  rw [hm2]
                  intro ρ6 H6 z e6 s6 r6
                  have ext6 : Ext X.K ρ' H' ρ6 H6 := y1.trans (e3.trans (e4.trans (e5.trans e6)))
                  have hn6 := ext6.rho _ _ hn'
                  split at hl
                  · rename_i ky hky
                    split at hl
                    · rename_i acc hc
                      split at hl
                      · rename_i hz
                        obtain ⟨us, q1, q2⟩ := cell_dct s6 hn6 hc
                        have exw : Ext X.K ρ6 H6 ρ6 (upd H6 D (.dK (putK us ky z))) := s6.ext_write hc hn6 rfl
                        refine ⟨us, ky, keyW_ok r5 hky, q1, by rw [← q2.length]; exact hz, ρ6, _, (ex.trans ext6).trans exw, s6.write (c' := .dct (putW acc ky zw)) hc hn6 rfl rfl ⟨putK us ky z, upd_same, (q2.mono exw).put (r6.mono exw)⟩, G2, hl, Out.mono o (ext6.trans exw)⟩
                      · cases hl
                    · cases hl
                  · cases hl
                · cases hl
              · cases hl
            · rename_i G4 ht
              rw [ht]
              intro ρ4 H4 b e4 s4 hb
              cases hb
              rw [if_neg Bool.false_ne_true]
              have ext4 : Ext X.K ρ' H' ρ4 H4 := y1.trans (e3.trans e4)
              exact ⟨ρ4, G4, ex.trans ext4, s4, G2, hl, Out.mono o ext4⟩
            · cases hl
        · cases hl
theorem dc_run {wi : TI} {mi : MI} {g : MG} {t : MT} {mk mv : ME} {vs sl : List Nat} (hsl : ∀ i ∈ sl, i ∈ vs)
    (i2 : ∀ ρ E G σ H R, ER X.K ρ H E σ → SR X.K ρ G H → Out X.K XP (ItR X.K) σ ρ H (mi E G) R → wi σ H R) :
    ∀ ρ E G σ H Q, ER X.K ρ H E σ → SR X.K ρ G H → Out X.K XP (VR X.K) σ ρ H (mDc mi g t mk mv vs E G) Q → tDc wi (rdG X.K noX sl g) (rdT X.K noX t) (rdE X.K noX mk) (rdE X.K noX mv) vs σ H Q :=
  fun ρ E G σ H Q => dc_runA (fun _ _ _ _ _ => True) hsl (fun ρ E G σ H R _ => i2 ρ E G σ H R) ρ E G σ H Q trivial
theorem he_dc {kx vx tg iter : Expr} {ifs : List Expr} {scope : Scope} {own : List (Str × Nat)} {mi : MI} {g : MG} {t : MT} {mk mv : ME} {sl : List Nat} {k : Nat} (c : GC X XP k) (hi : HI X XP tg iter mi) (ok : blkC X.N X.env.scope scope own = true)
    (hg : ∀ (s : Shared) (H : Hp) (C : Addr) (cl : List (Str × Addr)) (fp : List Addr), HG (X.blk s H scope (compEnvC scope cl C X.env) fp) noX tg sl g)
    (ht : ∀ (s : Shared) (H : Hp) (C : Addr) (cl : List (Str × Addr)) (fp : List Addr), HTs (X.blk s H scope (compEnvC scope cl C X.env) fp) noX ifs t)
    (hk : ∀ (s : Shared) (H : Hp) (C : Addr) (cl : List (Str × Addr)) (fp : List Addr), HE (X.blk s H scope (compEnvC scope cl C X.env) fp) noX kx mk)
    (hv : ∀ (s : Shared) (H : Hp) (C : Addr) (cl : List (Str × Addr)) (fp : List Addr), HE (X.blk s H scope (compEnvC scope cl C X.env) fp) noX vx mv)
    (hsl : (sl.all fun i => (own.map (·.2)).contains i) = true := by rfl) (hs : ∀ x, foldedSetIterable iter X.env x = pure x := by intro _; rfl) : HE X XP (.DictComp kx vx [⟨tg, iter, ifs, 0⟩] scope pos) (mDc mi g t mk mv (own.map (·.2))) := by
  obtain ⟨wi, i1, i2⟩ := hi.ex
  have hsl' : ∀ i ∈ sl, i ∈ own.map (·.2) := fun i h => by simpa using List.all_eq_true.mp hsl i h
  exact ⟨_, pe_dc c.calm c.nd i1 (blkOk_by ok) (fun s H C cl fp => (hg s H C cl fp).rd) (fun s H C cl fp => (ht s H C cl fp).rd) (fun s H C cl fp => (hk s H C cl fp).rd) (fun s H C cl fp => (hv s H C cl fp).rd) hs, dc_run hsl' i2⟩
end
end PL
/- part PLD -/
set_option maxHeartbeats 1000000
namespace PL
open PySem PySem.Spec PyProof.Rows L2
/-! ### sorted of a tuple of ints -/
section
variable {prog : Program} {w : World} {A : Around} {E : Value → Shared → Prop} {s : Shared}
theorem collect_tup {l : Addr} {vs : List Value} {Q : List Value → Shared → Prop} (hl : IsTup s.heap l vs.toArray) (hz : vs.length ≤ sizeLine)
    (h : Q vs { s with heap := (s.heap.push (seqObj "list" #[] 0)).update s.heap.objs.size (Obj.mapSeq (· ++ vs.toArray)) }) :
    wpAny (model prog w) A (collect (.ref l)) Q E s := by
  obtain ⟨o, ho, hc, n, hd⟩ := hl
  have hu := get?_update_seq (h := s.heap.push (seqObj "list" #[] 0)) (xs := #[]) (n := 0) (Heap.get?_push_size _ rfl) (· ++ vs.toArray)
  have hnew : (s.heap.push (seqObj "list" #[] 0)).get? s.heap.objs.size = some (seqObj "list" #[] 0) := Heap.get?_push_size _ rfl
  unfold collect
  refine wpAny_bind (wpAny_runValue (codeAny_builtin entry_proto_collect' ?_))
  refine wpAny_bind (wpAny_newList (wpAny_pure ⟨Code.quiet_builtin _ (by decide +kernel), codeAny_builtin entry_list_iadd' ?_⟩))
  show wpAny _ _ (Builtin.List.listExtendWith (.ref s.heap.objs.size) (.ref l) (.ref s.heap.objs.size)) _ _ { s with heap := s.heap.push (seqObj "list" #[] 0) }
  unfold Builtin.List.listExtendWith
  have old : (s.heap.push (seqObj "list" #[] 0)).get? l = some o := Heap.get?_push_of_some _ ho
  refine wpAny_bind (wpAny_typeOf (T := "tuple") ⟨o, old, hc⟩ ?_)
  rw [if_pos (by rw [show (Value.type "tuple" == Value.type "tuple") = true from rfl]; simp)]
  refine wpAny_bind (listItems_at old hd (wpAny_bind (listItems_at hnew rfl ?_)))
  rw [if_neg (by simp)]
  refine wpAny_bind (listUpdate_at hnew rfl (wpAny_pure ?_) (Nat.zero_le _) (by show (#[] ++ vs.toArray).size ≤ sizeLine + 1; simp only [Array.size_append, List.size_toArray, List.length_nil]; omega))
  refine wpAny_bind (wpAny_load hu ?_)
  show wpAny _ _ (pure ((#[] : Array Value) ++ vs.toArray).toList) Q E _
  rw [show ((#[] : Array Value) ++ vs.toArray).toList = vs by simp]
  exact wpAny_pure h
theorem sorted_tup {l : Addr} {vs : List Value} {ns : List Int} {Q : Value → Shared → Prop} (hl : IsTup s.heap l vs.toArray) (hI : IntsAre vs ns) (h64 : vs.length < 64)
    (h : ∀ (out : Array Value) (ns' : List Int), IntsAre out.toList ns' → ns'.Perm ns → ns'.Pairwise (· ≤ ·) → Q (.ref (s.heap.objs.size + 1)) { s with heap := sortedAll s.heap vs out }) :
    wpAny (model prog w) A (call (.builtin "sorted") [.ref l]) Q E s := by
  have hsz : ((s.heap.push (seqObj "list" #[] 0)).update s.heap.objs.size (Obj.mapSeq (· ++ vs.toArray))).objs.size = s.heap.objs.size + 1 := by
    rw [Heap.size_update, size_push']
  refine Calls.call_function_entry kind_sorted plain_sorted entry_sorted (args_sorted1 _) ?_
  unfold Builtin.«sorted»
  refine wpAny_bind (m := checkCount "sorted" 1 1 _) (wpAny_pure ?_)
  refine wpAny_bind (collect_tup hl (by rw [sizeLine_eq]; omega) (wpAny_bind (wpAny_newList ?_)))
  have hnew : (((s.heap.push (seqObj "list" #[] 0)).update s.heap.objs.size (Obj.mapSeq (· ++ vs.toArray))).push (seqObj "list" vs.toArray 0)).get? (s.heap.objs.size + 1) = some (seqObj "list" vs.toArray 0) := by
    rw [← hsz]; exact Heap.get?_push_size _ rfl
  show wpAny _ _ _ _ _ { s with heap := ((s.heap.push (seqObj "list" #[] 0)).update s.heap.objs.size (Obj.mapSeq (· ++ vs.toArray))).push (seqObj "list" vs.toArray 0) }
  rw [hsz]
  exact wpAny_bind (wpAny_holding (wpAny_call_entry slot_list_sort ⟨_, hnew, rfl⟩ entry_list_sort (list_sort_tree hnew hI h64 fun out ns' a1 a2 a3 => ⟨_, rfl, wpAny_pure ⟨_, rfl, h out ns' a1 a2 a3⟩⟩) (args_list_sort _)))
end
section
variable {X : Cx} {XP : Wish}
def rSortedTu (K : PySem.W.Frag) : List V → Hp → VK → Prop := fun vs H Q => ∃ (a : Addr) (ns : List Int), vs = [V.ref a] ∧ SqT K H a (ns.map V.int) ∧ ns.length < 64 ∧
  ∀ (ns' : List Int) (p : Addr), ns'.Perm ns → ns'.Pairwise (· ≤ ·) → H p = none → Q (.ref p) (upd H p (.lst (ns'.map V.int)))
theorem cr_sortedTu : CallR X (.builtin "sorted") (rSortedTu X.K) := by
  intro pins s σ H vs us Q I r h
  obtain ⟨a, ns, rfl, hs, h64, q⟩ := h
  obtain ⟨its, rv, hl, _⟩ := I.tuple hs
  rw [Vals.ref1 r]
  have hi := rv.ints
  refine sorted_tup hl hi (by rw [hi.length]; exact h64) fun out ns' h1 h2 h3 => ?_
  obtain ⟨ep, he'⟩ := PyProof.Rows.sortedAll_at s.heap its out
  have hlen : (ns'.map V.int).length ≤ sizeLine := by rw [List.length_map, h2.length_eq]; exact small64 h64
  exact ⟨.ref _, upd H (s.heap.objs.size + 1) (.lst (ns'.map V.int)), I.laid (t' := s.toks) (fun _ _ => PyProof.Rows.sortedAll_old) (Nat.le_succ _) ⟨hlen, out.toList, ep, vals_of_ints h1, he'⟩, rfl, q ns' _ h2 h3 (I.hok.fresh (Nat.le_succ _))⟩
def sortedTW : GCall := fun G ws => match ws with
  | [.tup xs] => (match intsW xs with | some is => if is.length < 64 then .ok (.ref G.length) (G ++ [.lst ((is.mergeSort leB).map W.int)]) else .no | none => .no)
  | _ => .no
theorem cg_sortedT : CaG X XP (.builtin "sorted") sortedTW := by
  refine ⟨_, cr_sortedTu, fun ρ G σ H ws vs Q s r o => ?_⟩
  unfold sortedTW at o
  split at o
  · cases r with
    | cons r rr =>
      cases rr
      cases r with
      | tup h1 h2 =>
        split at o
        · rename_i is hi
          split at o
          · rename_i h64
            exact ⟨_, is, rfl, by rw [← intsW_ok h2 hi]; exact SqT.of h1, h64, fun ns' p h1 h2 hp => by rw [sort_is h1 h2]; exact out_lst o s (vrs_ints _) hp⟩
          · exact o.elim
        · exact o.elim
  · exact o.elim
end
end PL
/- part PLE -/
set_option maxHeartbeats 1000000
namespace PL
open PySem PySem.Spec PyProof.Rows L2
/-! ### in and not in of a dict -/
section
variable {X : Cx} {XP : Wish} {pos : Pos}
def inDW (neg : Bool) : GOp := fun G x y => match y with
  | .ref n => (match G[n]? with
    | some (.dct kvs) => (match keyW x with | some k => .ok (.bl (if neg then !(valW kvs k).isSome else (valW kvs k).isSome)) G | none => .no)
    | some (.lkd kvs) => (match keyW x with | some k => .ok (.bl (if neg then !(valW kvs k).isSome else (valW kvs k).isSome)) G | none => .no)
    | some (.tct kvs) => (match tkW x with | some k => .ok (.bl (if neg then !(valW kvs k).isSome else (valW kvs k).isSome)) G | none => .no)
    | _ => .no)
  | _ => .no
theorem KVR.vals {κ : Type} [DecidableEq κ] {K : Fg} {ρ : List Addr} {H : Hp} {k : κ} : ∀ {r : List (κ × W)} {q : List (κ × V)}, KVR K ρ H r q → (valV q k).isSome = (valW r k).isSome := by
  intro r q h
  cases hw : valW r k with
  | some w =>
    obtain ⟨v, e, _⟩ := h.val hw
    rw [e]; rfl
  | none => rw [h.val_none hw]; rfl
theorem ind_run {neg : Bool} {ta tb : TE} {ma mb : ME}
    (a2 : ∀ ρ E G σ H Q, ER X.K ρ H E σ → SR X.K ρ G H → Out X.K XP (VR X.K) σ ρ H (ma E G) Q → ta σ H Q)
    (b2 : ∀ ρ E G σ H Q, ER X.K ρ H E σ → SR X.K ρ G H → Out X.K XP (VR X.K) σ ρ H (mb E G) Q → tb σ H Q) :
    ∀ ρ E G σ H Q, ER X.K ρ H E σ → SR X.K ρ G H → Out X.K XP (VR X.K) σ ρ H (mBin (inDW neg) ma mb E G) Q → ta σ H fun y H1 => tb σ H1 fun x H2 => ∃ a o, x = .ref a ∧ DGet H2 a y o ∧ Q (.bl (if neg then !o.isSome else o.isSome)) H2 := by
  intro ρ E G σ H Q er sr q
  refine a2 ρ E G σ H _ er sr (q.bind fun x G1 ρ1 H1 v e1 s1 r1 k1 => b2 ρ1 E G1 σ H1 _ (er.mono e1) s1 (k1.bind fun y G2 ρ2 H2 u e2 s2 r2 k2 => ?_))
  unfold inDW at k2
  split at k2
  · cases r2 with
    | ref hn =>
      split at k2
      · rename_i kvs hk
        obtain ⟨q1, f1, f2⟩ := cell_dct s2 hn hk
        split at k2
        · rename_i k ek
          refine ⟨_, valV q1 k, rfl, .inl ⟨q1, k, .inl f1, keyW_ok (r1.mono e2) ek, rfl⟩, ?_⟩
          rw [f2.vals]
          exact k2.ok s2 (.bl _)
        · exact k2.elim
      · rename_i kvs hk
        obtain ⟨o1, q1, f1, f2⟩ := cell_lkd s2 hn hk
        split at k2
        · rename_i k ek
          refine ⟨_, valV q1 k, rfl, .inl ⟨q1, k, .inr ⟨o1, f1⟩, keyW_ok (r1.mono e2) ek, rfl⟩, ?_⟩
          rw [f2.vals]
          exact k2.ok s2 (.bl _)
        · exact k2.elim
      · rename_i kvs hk
        obtain ⟨q1, f1, f2⟩ := cell_tct s2 hn hk
        split at k2
        · rename_i k ek
          obtain ⟨b, eb, hb⟩ := tkW_ok (r1.mono e2) ek
          refine ⟨_, valV q1 k, rfl, .inr ⟨q1, k, b, .inl f1, eb, hb, rfl⟩, ?_⟩
          rw [f2.vals]
          exact k2.ok s2 (.bl _)
        · exact k2.elim
      · exact k2.elim
  · exact k2.elim
theorem he_inD {a b : Expr} {ma mb : ME} (hu : X.A.units + 1 < cLine) (ha : HE X XP a ma) (hb : HE X XP b mb) (hm : behindInMarks .In b = false := by rfl) : HE X XP (.Compare a [.In] [b] pos) (mBin (inDW false) ma mb) := by
  obtain ⟨ta, a1, a2⟩ := ha.ex
  obtain ⟨tb, b1, b2⟩ := hb.ex
  exact ⟨_, pe_cmp (pc_din hu a1 b1) hm, ind_run a2 b2⟩
theorem he_notinD {a b : Expr} {ma mb : ME} (hu : X.A.units + 1 < cLine) (ha : HE X XP a ma) (hb : HE X XP b mb) (hm : behindInMarks .NotIn b = false := by rfl) : HE X XP (.Compare a [.NotIn] [b] pos) (mBin (inDW true) ma mb) := by
  obtain ⟨ta, a1, a2⟩ := ha.ex
  obtain ⟨tb, b1, b2⟩ := hb.ex
  exact ⟨_, pe_cmp (pc_dnotin hu a1 b1) hm, ind_run a2 b2⟩
theorem ht_inD {a b : Expr} {ma mb : ME} (hu : X.A.units + 1 < cLine) (ha : HE X XP a ma) (hb : HE X XP b mb) (hm : behindInMarks .In b = false := by rfl) : HT X XP (.Compare a [.In] [b] pos) (mTest (mBin (inDW false) ma mb)) := by
  obtain ⟨ta, a1, a2⟩ := ha.ex
  obtain ⟨tb, b1, b2⟩ := hb.ex
  exact ⟨_, pt_cmp (pc_din hu a1 b1) hm, test_run (ind_run a2 b2)⟩
theorem ht_notinD {a b : Expr} {ma mb : ME} (hu : X.A.units + 1 < cLine) (ha : HE X XP a ma) (hb : HE X XP b mb) (hm : behindInMarks .NotIn b = false := by rfl) : HT X XP (.Compare a [.NotIn] [b] pos) (mTest (mBin (inDW true) ma mb)) := by
  obtain ⟨ta, a1, a2⟩ := ha.ex
  obtain ⟨tb, b1, b2⟩ := hb.ex
  exact ⟨_, pt_cmp (pc_dnotin hu a1 b1) hm, test_run (ind_run a2 b2)⟩
end
/-! ### a loop that ends, by a measure -/
theorem so_while {c : MT} {b : MS} {N : PEnv → Cells → Prop} {R : W → Cells → Prop} (I : Nat → PEnv → Cells → Prop)
    (h : ∀ m E G, I m E G → (c E G).sat fun k G1 => if k = true then ∃ m', m = m' + 1 ∧ (b E G1).sat (I m') R else N E G1) :
    ∀ m E G, I m E G → (sWhile c b E G).sat N R := by
  have key : ∀ m E G, I m E G → (whL c b (m + 1) E G).sat N R := by
    intro m
    induction m with
    | zero =>
      intro E G hI
      have q := h 0 E G hI
      unfold whL liftS
      cases hc : c E G with
      | ok k G1 =>
        rw [hc] at q
        cases k with
        | true => obtain ⟨m', e, _⟩ := q; omega
        | false => exact q
      | ex e G1 => rw [hc] at q; exact q.elim
      | no => rw [hc] at q; exact q.elim
    | succ m ih =>
      intro E G hI
      have q := h (m + 1) E G hI
      unfold whL liftS
      cases hc : c E G with
      | ok k G1 =>
        rw [hc] at q
        cases k with
        | true =>
          obtain ⟨m', e, q⟩ := q
          obtain rfl : m' = m := by omega
          show So.sat (match b E G1 with | .nx E2 G2 => whL c b (m' + 1) E2 G2 | .ct E2 G2 => whL c b (m' + 1) E2 G2 | .bk E2 G2 => .nx E2 G2 | r => r) N R
          cases hb : b E G1 with
          | nx E2 G2 => rw [hb] at q; exact ih E2 G2 q
          | rt w2 G2 => rw [hb] at q; exact q
          | ct E2 G2 => rw [hb] at q; exact q.elim
          | bk E2 G2 => rw [hb] at q; exact q.elim
          | ex e2 E2 G2 => rw [hb] at q; exact q.elim
          | no => rw [hb] at q; exact q.elim
        | false => exact q
      | ex e G1 => rw [hc] at q; exact q.elim
      | no => rw [hc] at q; exact q.elim
  intro m E G hI
  have q := key m E G hI
  rw [sWhile_of rfl (n := m + 1) fun z => by rw [z] at q; exact q]
  exact q
/-! ### the end, where functions are handed in -/
theorem law_walkV {ι : Type} {l : PySem.W.OpenLaw} {n k : Nat} {q : Program} {loose : List Str} {XP : (Str → Option Value) → Heap → Prop} {YP : World → Heap → Prop} {d : DefRec} {K : Params → Fg} {x : Str} {F : ι → PF}
    (hn : l.most = some n) (hn2 : n ≤ sizeLine) (hdf : d.params.defaults = []) (himp : importsNone q = true) (hr : Room k callerA) (hY : ∀ (w : World) (h : Heap), YP w h → (K w.params).In h)
    (hF : ∀ (w : World) (mg : Str → Option Value) (fa : Addr) (h : Heap), (K w.params).In h → h.Ns mainGlobals mg → mg d.name = some (.ref fa) →
      ∃ (v : ι) (fd : FuncData), (∀ (s : Shared) (u : Value), BindsTo s fd ⟨[u], []⟩ [(x, u)]) ∧ ∀ base : Heap, (K w.params).In base → base.Ns mainGlobals mg → SysD base → FnG l.prog w (K w.params) mg base k fa fd [x] (F v))
    (hlaw : ∀ (v : ι) (ns : List Int), ns.length ≤ n → ∃ G, F v [.ref 0] [.rol (ns.map W.int)] = .ok (.bl true) G) :
    PySem.W.WalkO q loose XP YP l.row.toRowW d [] (fun f vs => PySem.call f vs) := by
  refine Att.attach_call hn hdf fun w s₀ s₁ mg mb fa o pm cd doc a vs ns G Y ho hd hcd hmg hobj hints hlen hg => ?_
  obtain ⟨v, fd, hb, hf⟩ := hF w mg fa _ (hY w _ Y) G.T.g hmg
  exact law_run (hY w _ Y) G.T.g G.T.b G.T.builtins G.T.nolimit hg hobj hints (Nat.le_trans hlen hn2) hr (sys_of (G.T.seer himp)) hf hb (hlaw v ns hlen)
end PL
/- part PL1 -/
set_option maxHeartbeats 1000000
namespace PL
open PySem PySem.Spec PyProof.Rows L2
/-! ### a dict comprehension that tells f of each item, writing only new cells -/
theorem putW_len (kvs : List (Key × W)) (k : Key) (w : W) : (putW kvs k w).length ≤ kvs.length + 1 := by
  unfold putW; split <;> simp
theorem mergeW_snoc (a b : List (Key × W)) (x : Key × W) : mergeW a (b ++ [x]) = putW (mergeW a b) x.1 x.2 := by unfold mergeW; rw [List.foldl_append]; rfl
theorem mergeW_len (b : List (Key × W)) : ∀ a, (mergeW a b).length ≤ a.length + b.length := by
  induction b with
  | nil => intro a; exact Nat.le_refl _
  | cons x b ih =>
    intro a
    have h1 := ih (putW a x.1 x.2)
    have h2 := putW_len a x.1 x.2
    show (mergeW (putW a x.1 x.2) b).length ≤ _
    simp only [List.length_cons]
    omega
theorem take_filterMap' {α β : Type} (f : α → Option β) (xs : List α) (i : Nat) (w : α) (h : xs[i]? = some w) : (xs.take (i + 1)).filterMap f = (xs.take i).filterMap f ++ (f w).toList := by
  rw [take_filterMap f xs i w h]; cases f w <;> rfl
theorem dc_pure {mi : MI} {g : MG} {t : MT} {mk mv : ME} {vs : List Nat} {E : PEnv} {G : Cells} {Q : W → Cells → Prop} (xs : List W) (f : W → Option (Key × W))
    (h : (mi E G).sat fun pit G1 => Fr [] G G1 ∧ ItOk [] pit G1 xs) (hb : xs.length ≤ 100000)
    (hs : ∀ (i : Nat) w G', xs[i]? = some w → Fr [] G G' → (g w (wipeE E vs) G').sat fun E1 G2 => (t E1 G2).sat fun k G3 => if k = true then (mk E1 G3).sat fun y G4 => (mv E1 G4).sat fun z G5 => (∃ ky, keyW y = some ky ∧ f w = some (ky, z)) ∧ Fr [] G' G5 else f w = none ∧ Fr [] G' G3)
    (hq : ∀ n G', Fr [] G G' → G.length ≤ n → G'[n]? = some (.dct (mergeW [] (xs.filterMap f))) → Q (.ref n) G') : (mDc mi g t mk mv vs E G).sat Q := by
  unfold mDc
  rw [sat_bind]
  refine h.mono fun pit G1 q => ?_
  obtain ⟨f1, it⟩ := q
  have key : ∀ (fuel i : Nat) (G' : Cells), xs.length ≤ i + fuel → i ≤ xs.length → Fr [] G1 G' → G1.length < G'.length → G'[G1.length]? = some (.dct (mergeW [] ((xs.take i).filterMap f))) →
      ∃ G2, dcL pit g t mk mv G1.length (wipeE E vs) fuel i G' = some G2 ∧ Fr [] G1 G2 ∧ G2[G1.length]? = some (.dct (mergeW [] (xs.filterMap f))) := by
    intro fuel
    induction fuel with
    | zero =>
      intro i G' h1 h2 f2 hl hc
      have hi : xs[i]? = none := List.getElem?_eq_none_iff.mpr (by omega)
      have ha := it.at' G' i f2
      rw [hi] at ha
      refine ⟨G', ?_, f2, ?_⟩
      · unfold dcL; rw [ha]
      · rw [List.take_of_length_le (by omega)] at hc; exact hc
    | succ fuel ih =>
      intro i G' h1 h2 f2 hl hc
      have ha := it.at' G' i f2
      cases hi : xs[i]? with
      | none =>
        rw [hi] at ha
        have := List.getElem?_eq_none_iff.mp hi
        refine ⟨G', ?_, f2, ?_⟩
        · unfold dcL; rw [ha]
        · rw [List.take_of_length_le (by omega)] at hc; exact hc
      | some w =>
        rw [hi] at ha
        have hlt := (List.getElem?_eq_some_iff.mp hi).1
        have tk := take_filterMap' f xs i w hi
        obtain ⟨E1, G2, e1, s1⟩ := (hs i w G' hi (f1.trans f2)).get
        obtain ⟨k, G3, e2, s2⟩ := s1.get
        unfold dcL
        rw [ha]
        simp only [e1, e2]
        cases k with
        | true =>
          rw [if_pos rfl] at s2
          obtain ⟨y, G4, e3, s3⟩ := s2.get
          obtain ⟨z, G5, e4, ⟨ky, k1, k2⟩, f5⟩ := s3.get
          have hc5 := f5.get hc (by simp)
          have hml := mergeW_len ((xs.take i).filterMap f) []
          have hfl := List.length_filterMap_le f (xs.take i)
          simp only [List.length_nil, List.length_take] at hml hfl
          have hz : (mergeW [] ((xs.take i).filterMap f)).length < sizeLine := big_le (m := 100000) (by omega)
          simp only [e3, e4, k1, hc5, hz, if_true]
          have hl5 : G1.length < G5.length := Nat.lt_of_lt_of_le hl f5.1
          refine ih (i + 1) _ (by omega) (by omega) ((f2.trans f5).fresh (Nat.le_refl _) (Fr.set (by simp))) (by simpa using hl5) ?_
          rw [get_set hl5, tk, k2, Option.toList_some, mergeW_snoc]
        | false =>
          simp only [Bool.false_eq_true, if_false] at s2
          simp only
          refine ih (i + 1) _ (by omega) (by omega) (f2.trans s2.2) (Nat.lt_of_lt_of_le hl s2.2.1) ?_
          rw [tk, s2.1, Option.toList_none, List.append_nil]
          exact s2.2.get hc (by simp)
  obtain ⟨G2, a1, a2, a3⟩ := key (pit.len G1) 0 (G1 ++ [.dct []]) (by rw [it.len]; omega) (by omega) Fr.push (by simp) (push_get G1 _)
  rw [a1]
  exact hq _ _ (f1.trans a2) f1.1 a3
end PL
/- part PLF -/
set_option maxHeartbeats 1000000
namespace PL
open PySem PySem.Spec PyProof.Rows L2
/-! ### a dict that is walked: locked meanwhile -/
section
variable {K : Fg} {ρ ρ' : List Addr} {H H' : Hp} {G : Cells} {n : Nat} {d : Addr} {od : Obj}
mutual
theorem VR.mono0 (hr : ∀ (n : Nat) (a : Addr), ρ[n]? = some a → ρ'[n]? = some a) (ht : ∀ a vs, H a = some (.tup vs) → H' a = some (.tup vs)) : ∀ {w : W} {v : V}, VR K ρ H w v → VR K ρ' H' w v
  | _, _, .non => .non
  | _, _, .bl b => .bl b
  | _, _, .int i => .int i
  | _, _, .str x => .str x
  | _, _, .ty s => .ty s
  | _, _, .fn a => .fn a
  | _, _, .tup h k => .tup (ht _ _ h) (VRs.mono0 hr ht k)
  | _, _, .ref h => .ref (hr _ _ h)
theorem VRs.mono0 (hr : ∀ (n : Nat) (a : Addr), ρ[n]? = some a → ρ'[n]? = some a) (ht : ∀ a vs, H a = some (.tup vs) → H' a = some (.tup vs)) : ∀ {ws : List W} {vs : List V}, VRs K ρ H ws vs → VRs K ρ' H' ws vs
  | _, _, .nil => .nil
  | _, _, .cons h k => .cons (VR.mono0 hr ht h) (VRs.mono0 hr ht k)
end
theorem KVR.mono0 {κ : Type} (hr : ∀ (n : Nat) (a : Addr), ρ[n]? = some a → ρ'[n]? = some a) (ht : ∀ a vs, H a = some (.tup vs) → H' a = some (.tup vs)) : ∀ {r : List (κ × W)} {q : List (κ × V)}, KVR K ρ H r q → KVR K ρ' H' r q
  | _, _, .nil => .nil
  | _, _, .cons h k => .cons (h.mono0 hr ht) (k.mono0 hr ht)
theorem ER.mono0 (hr : ∀ (n : Nat) (a : Addr), ρ[n]? = Option.some a → ρ'[n]? = Option.some a) (ht : ∀ a vs, H a = Option.some (HO.tup vs) → H' a = Option.some (HO.tup vs)) : ∀ {E : PEnv} {σ : St}, ER K ρ H E σ → ER K ρ' H' E σ
  | _, _, .nil => .nil
  | _, _, .none k => .none (k.mono0 hr ht)
  | _, _, .some h k => .some (h.mono0 hr ht) (k.mono0 hr ht)
theorem ext_lock {q : List (Key × V)} (hd : H d = some (.dK q)) : Ext K ρ H ρ (upd H d (.frz od (.dK q))) := ext_upd (.inr (by rw [hd]; exact trivial)) fun _ _ h => h
theorem SR.lock {kvs : List (Key × W)} (s : SR K ρ G H) (hn : ρ[n]? = some d) (hc : G[n]? = some (.dct kvs)) : ∃ q, H d = some (.dK q) ∧ KVR K ρ H kvs q ∧ ∀ od, SR K ρ (G.set n (.lkd kvs)) (upd H d (.frz od (.dK q))) := by
  obtain ⟨q, hd, hk⟩ := cell_dct s hn hc
  refine ⟨q, hd, hk, fun od => ⟨by simp [s.len], fun m c b h1 h2 => ?_, fun i j b x y h1 h2 h3 h4 h5 h6 => ?_⟩⟩
  · by_cases e : m = n
    · subst e
      rw [List.getElem?_set_self (List.getElem?_eq_some_iff.mp hc).1] at h1
      cases h1
      rw [hn] at h2; cases h2
      exact ⟨od, q, upd_same, hk.mono (ext_lock hd)⟩
    · rw [List.getElem?_set_ne (Ne.symm e)] at h1
      exact (s.cell m c b h1 h2).mono (ext_lock hd) fun mc => upd_ne fun z => e (s.inj m n d c _ (by rw [← z]; exact h2) hn h1 (Cell.own_of mc) hc rfl)
  · have back : ∀ (i : Nat) (x : Cell), (G.set n (.lkd kvs))[i]? = some x → x.own = true → ∃ y, G[i]? = some y ∧ y.own = true := fun i x h m => by
      by_cases e : i = n
      · subst e; exact ⟨_, hc, rfl⟩
      · rw [List.getElem?_set_ne (Ne.symm e)] at h; exact ⟨x, h, m⟩
    obtain ⟨x', q1, q2⟩ := back i x h3 h4
    obtain ⟨y', q3, q4⟩ := back j y h5 h6
    exact s.inj i j b x' y' h1 h2 q1 q2 q3 q4
/-- what stays when the lock goes -/
theorem tups_unlock {q : List (Key × V)} (hd : H d = some (.frz od (.dK q))) : ∀ a vs, H a = some (.tup vs) → (upd H d (.dK q)) a = some (.tup vs) := fun a vs h => by
  rw [upd_ne fun z => by subst z; rw [hd] at h; cases h]; exact h
theorem SR.unlock {kvs kvs' : List (Key × W)} {q : List (Key × V)} (s : SR K ρ G H) (hn : ρ[n]? = some d) (hc : G[n]? = some (.lkd kvs')) (hd : H d = some (.frz od (.dK q))) (hk : KVR K ρ H kvs q) : SR K ρ (G.set n (.dct kvs)) (upd H d (.dK q)) := by
  have ht := tups_unlock hd
  have hr : ∀ (n : Nat) (a : Addr), ρ[n]? = some a → ρ[n]? = some a := fun _ _ h => h
  refine ⟨by simp [s.len], fun m c b h1 h2 => ?_, fun i j b x y h1 h2 h3 h4 h5 h6 => ?_⟩
  · by_cases e : m = n
    · subst e
      rw [List.getElem?_set_self (List.getElem?_eq_some_iff.mp hc).1] at h1
      cases h1
      rw [hn] at h2; cases h2
      exact ⟨q, upd_same, hk.mono0 hr ht⟩
    · rw [List.getElem?_set_ne (Ne.symm e)] at h1
      have k := s.cell m c b h1 h2
      have ne : c.own = true → b ≠ d := fun oc z => e (s.inj m n d c _ (by rw [← z]; exact h2) hn h1 oc hc rfl)
      cases c with
      | lst ws => obtain ⟨vs, a1, a2⟩ := k; exact ⟨vs, by rw [upd_ne (ne rfl)]; exact a1, a2.mono0 hr ht⟩
      | dct ws => obtain ⟨vs, a1, a2⟩ := k; exact ⟨vs, by rw [upd_ne (ne rfl)]; exact a1, a2.mono0 hr ht⟩
      | tct ws => obtain ⟨vs, a1, a2⟩ := k; exact ⟨vs, by rw [upd_ne (ne rfl)]; exact a1, a2.mono0 hr ht⟩
      | lkd ws => obtain ⟨o, vs, a1, a2⟩ := k; exact ⟨o, vs, by rw [upd_ne (ne rfl)]; exact a1, a2.mono0 hr ht⟩
      | rol ws =>
        obtain ⟨vs, a1, a2⟩ := k
        refine ⟨vs, ?_, a2.mono0 hr ht⟩
        rcases a1 with ⟨o, a1⟩ | a1
        · refine .inl ⟨o, ?_⟩
          rw [upd_ne fun z => by subst z; rw [hd] at a1; cases a1]; exact a1
        · exact .inr a1
  · have back : ∀ (i : Nat) (x : Cell), (G.set n (.dct kvs))[i]? = some x → x.own = true → ∃ y, G[i]? = some y ∧ y.own = true := fun i x h m => by
      by_cases e : i = n
      · subst e; exact ⟨_, hc, rfl⟩
      · rw [List.getElem?_set_ne (Ne.symm e)] at h; exact ⟨x, h, m⟩
    obtain ⟨x', q1, q2⟩ := back i x h3 h4
    obtain ⟨y', q3, q4⟩ := back j y h5 h6
    exact s.inj i j b x' y' h1 h2 q1 q2 q3 q4
theorem ext_unlock {q : List (Key × V)} (hd : H d = some (.dK q)) (e : Ext K ρ (upd H d (.frz od (.dK q))) ρ' H') : Ext K ρ H ρ' (upd H' d (.dK q)) := by
  have el : Ext K ρ H ρ (upd H d (.frz od (.dK q))) := ext_lock hd
  have hf := e.frz _ _ _ (upd_same (H := H) (a := d))
  refine ⟨e.rho, fun a vs h => tups_unlock hf _ _ (e.tups _ _ (el.tups _ _ h)), fun a o u h => ?_⟩
  have ne : a ≠ d := fun z => by subst z; rw [hd] at h; cases h
  rw [upd_ne ne]
  exact e.frz _ _ _ (el.frz _ _ _ h)
def unS (n : Nat) (kvs : List (Key × W)) (r : So) : So := match r with
  | .nx E G => (match G[n]? with | some (.lkd _) => .nx E (G.set n (.dct kvs)) | _ => .no)
  | .rt w G => (match G[n]? with | some (.lkd _) => .rt w (G.set n (.dct kvs)) | _ => .no)
  | .bk E G => (match G[n]? with | some (.lkd _) => .bk E (G.set n (.dct kvs)) | _ => .no)
  | .ct E G => (match G[n]? with | some (.lkd _) => .ct E (G.set n (.dct kvs)) | _ => .no)
  | _ => .no
def unR (n : Nat) (kvs : List (Key × W)) (r : Rs W) : Rs W := match r with
  | .ok w G => (match G[n]? with | some (.lkd _) => .ok w (G.set n (.dct kvs)) | _ => .no)
  | _ => .no
theorem unlk {q : List (Key × V)} {kvs kvs' : List (Key × W)} (hn : ρ[n]? = some d) (hd : H d = some (.dK q)) (hk : KVR K ρ H kvs q) (e : Ext K ρ (upd H d (.frz od (.dK q))) ρ' H') (s : SR K ρ' G H') (hc : G[n]? = some (.lkd kvs')) :
    H' d = some (.frz od (.dK q)) ∧ Ext K ρ H ρ' (upd H' d (.dK q)) ∧ SR K ρ' (G.set n (.dct kvs)) (upd H' d (.dK q)) ∧ (∀ {E : PEnv} {σ : St}, ER K ρ' H' E σ → ER K ρ' (upd H' d (.dK q)) E σ) ∧ ∀ {w : W} {v : V}, VR K ρ' H' w v → VR K ρ' (upd H' d (.dK q)) w v := by
  have hf := e.frz _ _ _ (upd_same (H := H) (a := d))
  have ht := tups_unlock hf
  exact ⟨hf, ext_unlock hd e, s.unlock (e.rho _ _ hn) hc hf ((hk.mono (ext_lock hd)).mono e), fun er => er.mono0 (fun _ _ h => h) ht, fun r => r.mono0 (fun _ _ h => h) ht⟩
def lockD (d : Addr) (od : Obj) (u : HO) (D : Ends) : Ends :=
  ⟨fun σ' H' => H' d = some (.frz od u) ∧ D.nx σ' (upd H' d u), fun v H' => H' d = some (.frz od u) ∧ D.rt v (upd H' d u), fun σ' H' => H' d = some (.frz od u) ∧ D.bk σ' (upd H' d u), fun σ' H' => H' d = some (.frz od u) ∧ D.ct σ' (upd H' d u)⟩
theorem outS_lock {XP : Wish} {q : List (Key × V)} {kvs : List (Key × W)} {r : So} {D : Ends} (hn : ρ[n]? = some d) (hd : H d = some (.dK q)) (hk : KVR K ρ H kvs q) (h : OutS K XP ρ H (unS n kvs r) D) : OutS K XP ρ (upd H d (.frz od (.dK q))) r (lockD d od (.dK q) D) := by
  cases r with
  | nx E G =>
      intro ρ' H' σ' e s er
      simp only [unS] at h
      split at h
      · rename_i hc; obtain ⟨z1, z2, z3, z4, z5⟩ := unlk hn hd hk e s hc; exact ⟨z1, h _ _ _ z2 z3 (z4 er)⟩
      · exact h.elim
  | bk E G =>
      intro ρ' H' σ' e s er
      simp only [unS] at h
      split at h
      · rename_i hc; obtain ⟨z1, z2, z3, z4, z5⟩ := unlk hn hd hk e s hc; exact ⟨z1, h _ _ _ z2 z3 (z4 er)⟩
      · exact h.elim
  | ct E G =>
      intro ρ' H' σ' e s er
      simp only [unS] at h
      split at h
      · rename_i hc; obtain ⟨z1, z2, z3, z4, z5⟩ := unlk hn hd hk e s hc; exact ⟨z1, h _ _ _ z2 z3 (z4 er)⟩
      · exact h.elim
  | rt w G =>
      intro ρ' H' v e s rv
      simp only [unS] at h
      split at h
      · rename_i hc; obtain ⟨z1, z2, z3, z4, z5⟩ := unlk hn hd hk e s hc; exact ⟨z1, h _ _ _ z2 z3 (z5 rv)⟩
      · exact h.elim
  | ex x E G => exact h.elim
  | no => exact h
theorem outR_lock {XP : Wish} {σ : St} {Q : VK} {q : List (Key × V)} {kvs : List (Key × W)} {r : Rs W} (hn : ρ[n]? = some d) (hd : H d = some (.dK q)) (hk : KVR K ρ H kvs q) (h : Out K XP (VR K) σ ρ H (unR n kvs r) Q) : Out K XP (VR K) σ ρ (upd H d (.frz od (.dK q))) r (fun v H' => H' d = some (.frz od (.dK q)) ∧ Q v (upd H' d (.dK q))) := by
  cases r with
  | ok w G =>
      intro ρ' H' v e s rv
      simp only [unR] at h
      split at h
      · rename_i hc; obtain ⟨z1, z2, z3, z4, z5⟩ := unlk hn hd hk e s hc; exact ⟨z1, h _ _ _ z2 z3 (z5 rv)⟩
      · exact h.elim
  | ex x G => exact h.elim
  | no => exact h
end
/-! ### the walks -/
def kW : Key → W
  | .inl i => .int i
  | .inr x => .str x
theorem kW_ok {K : Fg} {ρ : List Addr} {H : Hp} (k : Key) : VR K ρ H (kW k) (kV k) := by cases k <;> constructor
def vwV (kvs : List (Key × W)) : List W := kvs.map (·.2)
def vwI (kvs : List (Key × W)) : List W := kvs.map fun kv => .tup [kW kv.1, kv.2]
def vwK (kvs : List (Key × W)) : List W := kvs.map fun kv => kW kv.1
section
variable {K : Fg} {ρ : List Addr} {H : Hp} {d : Addr} {od : Obj} {kvs : List (Key × W)} {q : List (Key × V)}
theorem KVR.getK {κ : Type} {K : Fg} {ρ : List Addr} {H : Hp} : ∀ {r : List (κ × W)} {q : List (κ × V)} {i : Nat} {p : κ × W}, KVR K ρ H r q → r[i]? = some p → ∃ v, q[i]? = some (p.1, v) ∧ VR K ρ H p.2 v
  | _, _, _, _, .nil, h => by simp at h
  | _, _, 0, _, .cons h _, e => by simp at e; subst e; exact ⟨_, rfl, h⟩
  | _, _, i + 1, p, .cons _ t, e => by
    obtain ⟨v, e1, e2⟩ := KVR.getK (i := i) (p := p) t (by simpa using e)
    exact ⟨v, by simpa using e1, e2⟩
theorem itr_vals (hd : H d = some (.frz od (.dK q))) (hk : KVR K ρ H kvs q) : ItR K ρ H (.tup (vwV kvs)) (Itd d od q) := by
  intro ρ' G' H' e s i
  have hd' := e.frz _ _ _ hd
  have hk' := hk.mono e
  have hl := hk'.length
  simp only [PIt.at]
  refine ⟨fun h => ?_, fun w h => ?_⟩
  · have hx : (vwV kvs)[i]? = none := by simpa using h
    have := get?_none_le hx
    rw [vwV, List.length_map] at this
    exact ⟨hd', by omega⟩
  · have hx : (vwV kvs)[i]? = some w := by simpa using h
    rw [vwV, List.getElem?_map, Option.map_eq_some_iff] at hx
    obtain ⟨p, hp, rfl⟩ := hx
    obtain ⟨v, q1, q2⟩ := hk'.getK hp
    have := (List.getElem?_eq_some_iff.mp q1).1
    refine ⟨⟨hd', this⟩, fun v' H2 hy => ?_⟩
    obtain ⟨rfl, k, hy⟩ := hy
    rw [q1] at hy; cases hy
    exact ⟨.refl, s, q2⟩
theorem itr_keys (hd : H d = some (.frz od (.dK q))) (hk : KVR K ρ H kvs q) : ItR K ρ H (.tup (vwK kvs)) (Itk d od q) := by
  intro ρ' G' H' e s i
  have hd' := e.frz _ _ _ hd
  have hk' := hk.mono e
  have hl := hk'.length
  simp only [PIt.at]
  refine ⟨fun h => ?_, fun w h => ?_⟩
  · have hx : (vwK kvs)[i]? = none := by simpa using h
    have := get?_none_le hx
    rw [vwK, List.length_map] at this
    exact ⟨hd', by omega⟩
  · have hx : (vwK kvs)[i]? = some w := by simpa using h
    rw [vwK, List.getElem?_map, Option.map_eq_some_iff] at hx
    obtain ⟨p, hp, rfl⟩ := hx
    obtain ⟨v, q1, q2⟩ := hk'.getK hp
    have := (List.getElem?_eq_some_iff.mp q1).1
    refine ⟨⟨hd', this⟩, fun v' H2 hy => ?_⟩
    obtain ⟨rfl, k, v2, hy, rfl⟩ := hy
    rw [q1] at hy; cases hy
    exact ⟨.refl, s, kW_ok _⟩
theorem itr_items (hd : H d = some (.frz od (.dK q))) (hk : KVR K ρ H kvs q) : ItR K ρ H (.tup (vwI kvs)) (Iti d od q) := by
  intro ρ' G' H' e s i
  have hd' := e.frz _ _ _ hd
  have hk' := hk.mono e
  have hl := hk'.length
  simp only [PIt.at]
  refine ⟨fun h => ?_, fun w h => ?_⟩
  · have hx : (vwI kvs)[i]? = none := by simpa using h
    have := get?_none_le hx
    rw [vwI, List.length_map] at this
    exact ⟨hd', by omega⟩
  · have hx : (vwI kvs)[i]? = some w := by simpa using h
    rw [vwI, List.getElem?_map, Option.map_eq_some_iff] at hx
    obtain ⟨p, hp, rfl⟩ := hx
    obtain ⟨v, q1, q2⟩ := hk'.getK hp
    have := (List.getElem?_eq_some_iff.mp q1).1
    refine ⟨⟨hd', this⟩, fun v' H2 hy => ?_⟩
    obtain ⟨T, k, v2, hy, rfl, hT, rfl⟩ := hy
    rw [q1] at hy; cases hy
    exact pair_fresh s hT (kW_ok _) q2
end
section
variable {X : Cx} {XP : Wish} {pos p : Pos} {x : Str} {i : Nat}
/-- iterators over the dict in the slot i, while it is locked -/
structure HID (X : Cx) (i : Nat) (tg iter : Expr) (vw : List (Key × W) → List W) : Prop where
  ex : ∃ wi, PI X tg iter wi ∧ ∀ (ρ : List Addr) (H : Hp) (σ : St) (d : Addr) (o : Obj) (kvs : List (Key × W)) (q : List (Key × V)) (R : It → Hp → Prop), σ[i]? = some (some (.ref d)) → H d = some (.frz o (.dK q)) → KVR X.K ρ H kvs q →
    (∀ J, ItR X.K ρ H (.tup (vw kvs)) J → R J H) → wi σ H R
theorem hid_vals {tg : Expr} {apos cpos : Pos} (hN : X.N[i]? = some x) (hv : Vis X.env.scope x) (hdb : (x == ("__debug__" : Str)) = false := by decide) (hcd : (x == ("__classdict__" : Str)) = false := by decide)
    (hbase : attributeBase (.Name x p) "values" X.env (eval (.Name x p) X.env) = eval (.Name x p) X.env := by rfl) (hline : (apos.endLine == cpos.line) = true := by rfl) : HID X i tg (.Call (.Attribute (.Name x p) "values" apos) [] [] cpos) vwV :=
  ⟨_, pi_values (pe_var hN hv hdb hcd) hbase hline, fun ρ H σ d o kvs q R hσ hd hk h => ⟨_, hσ, d, o, q, rfl, hd, h _ (itr_vals hd hk)⟩⟩
theorem hid_items {elts : List Expr} {kk : Nat} {tpos : Pos} {apos cpos : Pos} (hN : X.N[i]? = some x) (hv : Vis X.env.scope x) (hdb : (x == ("__debug__" : Str)) = false := by decide) (hcd : (x == ("__classdict__" : Str)) = false := by decide)
    (hbase : attributeBase (.Name x p) "items" X.env (eval (.Name x p) X.env) = eval (.Name x p) X.env := by rfl) (hline : (apos.endLine == cpos.line) = true := by rfl) : HID X i (.Tuple elts kk tpos) (.Call (.Attribute (.Name x p) "items" apos) [] [] cpos) vwI :=
  ⟨_, pi_items (pe_var hN hv hdb hcd) hbase hline, fun ρ H σ d o kvs q R hσ hd hk h => ⟨_, hσ, d, o, q, rfl, hd, h _ (itr_items hd hk)⟩⟩
theorem hid_keys {tg : Expr} (hN : X.N[i]? = some x) (hv : Vis X.env.scope x) (hdb : (x == ("__debug__" : Str)) = false := by decide) (hcd : (x == ("__classdict__" : Str)) = false := by decide) : HID X i tg (.Name x p) vwK :=
  ⟨_, pi_keys (pe_var hN hv hdb hcd), fun ρ H σ d o kvs q R hσ hd hk h => ⟨_, hσ, d, o, rfl, .inl ⟨q, hd, h _ (itr_keys hd hk)⟩⟩⟩
/-- for over a dict's view -/
def sForD (i : Nat) (vw : List (Key × W) → List W) (g : MG) (b : MS) : MS := fun E G => match E[i]? with
  | some (some (.ref n)) => (match G[n]? with
    | some (.dct kvs) => unS n kvs (sForI (fun _ G' => .ok (.tup (vw kvs)) G') g b E (G.set n (.lkd kvs)))
    | _ => .no)
  | _ => .no
theorem hs_forD {tg iter : Expr} {body : List Stmt} {vw : List (Key × W) → List W} {g : MG} {b : MS} {sl : List Nat} (hp : PassesOwn (model X.prog X.w) X.A X.env X.xe) (hc : X.calm = true) (hi : HID X i tg iter vw) (hg : HG X XP tg sl g) (hb : HB X XP body b)
    (hs : ∀ x, foldedSetIterable iter X.env x = pure x := by intro _; rfl) : HS X XP (.For tg iter body [] pos) (sForD i vw g b) := by
  obtain ⟨wi, i1, i2⟩ := hi.ex
  obtain ⟨tg', g1, g2⟩ := hg.ex
  obtain ⟨tb, b1, b2⟩ := hb.ex
  refine ⟨_, ps_lock (ps_for hp hc i1 g1 b1 hs), fun ρ E G σ H D er sr q => ?_⟩
  unfold sForD at q
  split at q
  · rename_i n hE
    split at q
    · rename_i kvs hc
      obtain ⟨v, hσ, rv⟩ := er.get hE
      cases rv with
      | @ref _ d hn =>
        obtain ⟨qv, hd, hk, hlk⟩ := sr.lock hn hc
        refine ⟨d, _, hd, trivial, fun od => ?_⟩
        have q' := outS_lock (od := od) hn hd hk q
        have el : Ext X.K ρ H ρ (upd H d (.frz od (.dK qv))) := ext_lock hd
        refine i2 ρ _ σ d od kvs qv _ hσ upd_same (hk.mono el) fun J r1 => ?_
        rw [sForI_eq] at q'
        have q2 : OutS X.K XP ρ (upd H d (.frz od (.dK qv))) (forL (.tup (vw kvs)) g b (PIt.len (G.set n (.lkd kvs)) (.tup (vw kvs))) 0 E (G.set n (.lkd kvs))) (lockD d od (.dK qv) D) := q'
        generalize hm : PIt.len (G.set n (.lkd kvs)) (.tup (vw kvs)) = m0 at q2
        refine ⟨fun i m σ' H' => ∃ ρ' E' G', Ext X.K ρ (upd H d (.frz od (.dK qv))) ρ' H' ∧ ER X.K ρ' H' E' σ' ∧ SR X.K ρ' G' H' ∧ OutS X.K XP ρ' H' (forL (.tup (vw kvs)) g b m i E' G') (lockD d od (.dK qv) D), ⟨m0, ρ, E, _, .refl, er.mono el, hlk od, q2⟩, ?_⟩
        rintro i m σ' H' ⟨ρ', E', G', ex, er', s', o⟩
        obtain ⟨hstop, hgo⟩ := r1 ρ' G' H' ex s' i
        unfold forL at o
        split at o
        · exact o.elim
        · rename_i ha
          exact .inl ⟨hstop ha, o ρ' H' σ' .refl s' er'⟩
        · rename_i w ha
          obtain ⟨go, hy⟩ := hgo w ha
          split at o
          · exact o.elim
          · rename_i k
            refine .inr ⟨go, fun σ2 H2 => ∃ ρ2 E2 G2, Ext X.K ρ (upd H d (.frz od (.dK qv))) ρ2 H2 ∧ ER X.K ρ2 H2 E2 σ2 ∧ SR X.K ρ2 G2 H2 ∧ OutS X.K XP ρ2 H2 (forL (.tup (vw kvs)) g b k (i + 1) E2 G2) (lockD d od (.dK qv) D), fun σ2 H2 h => ⟨k, Nat.lt_succ_self _, h⟩, fun x H2 y => ?_⟩
            obtain ⟨y1, y2, y3⟩ := hy x H2 y
            refine g2 ρ' w E' G' x σ' H2 _ y3 (er'.mono y1) y2 (OutS.lift (er'.mono y1) (OutS.mono o y1) fun E3 G3 ρ3 H3 σ3 e3 s3 r3 k3 => ?_)
            refine b2 ρ3 E3 G3 σ3 H3 _ r3.1 s3 ?_
            have ext := ex.trans (y1.trans e3)
            cases hr : b E3 G3 with
            | nx E4 G4 => rw [hr] at k3; exact fun ρ4 H4 σ4 e4 s4 r4 => ⟨ρ4, E4, G4, ext.trans e4, r4, s4, OutS.mono k3 e4⟩
            | ct E4 G4 => rw [hr] at k3; exact fun ρ4 H4 σ4 e4 s4 r4 => ⟨ρ4, E4, G4, ext.trans e4, r4, s4, OutS.mono k3 e4⟩
            | bk E4 G4 => rw [hr] at k3; exact k3
            | rt w4 G4 => rw [hr] at k3; exact k3
            | ex x4 E4 G4 => rw [hr] at k3; exact k3
            | no => rw [hr] at k3; exact k3
    · exact q.elim
  · exact q.elim
/-- a dict comprehension over a dict's view -/
def mDcD (i : Nat) (vw : List (Key × W) → List W) (g : MG) (t : MT) (mk mv : ME) (vs : List Nat) : ME := fun E G => match E[i]? with
  | some (some (.ref n)) => (match G[n]? with
    | some (.dct kvs) => unR n kvs (mDc (fun _ G' => .ok (.tup (vw kvs)) G') g t mk mv vs E (G.set n (.lkd kvs)))
    | _ => .no)
  | _ => .no
/-- a list comprehension over a dict's view -/
def mLcD (i : Nat) (vw : List (Key × W) → List W) (g : MG) (t : MT) (m : ME) (vs : List Nat) : ME := fun E G => match E[i]? with
  | some (some (.ref n)) => (match G[n]? with
    | some (.dct kvs) => unR n kvs (mLcI (fun _ G' => .ok (.tup (vw kvs)) G') g t m vs E (G.set n (.lkd kvs)))
    | _ => .no)
  | _ => .no
def atLk (K : Fg) (i : Nat) (d : Addr) (od : Obj) (q : List (Key × V)) (kvs : List (Key × W)) (ρ0 : List Addr) (G0 : Cells) : List Addr → PEnv → Cells → St → Hp → Prop :=
  fun ρ _ G σ H => ρ = ρ0 ∧ G = G0 ∧ σ[i]? = some (some (.ref d)) ∧ H d = some (.frz od (.dK q)) ∧ KVR K ρ H kvs q
theorem he_dcD {kx vx tg iter : Expr} {ifs : List Expr} {scope : Scope} {own : List (Str × Nat)} {vw : List (Key × W) → List W} {g : MG} {t : MT} {mk mv : ME} {sl : List Nat} {k : Nat} (c : GC X XP k) (hi : HID X i tg iter vw) (ok : blkC X.N X.env.scope scope own = true)
    (hg : ∀ (s : Shared) (H : Hp) (C : Addr) (cl : List (Str × Addr)) (fp : List Addr), HG (X.blk s H scope (compEnvC scope cl C X.env) fp) noX tg sl g)
    (ht : ∀ (s : Shared) (H : Hp) (C : Addr) (cl : List (Str × Addr)) (fp : List Addr), HTs (X.blk s H scope (compEnvC scope cl C X.env) fp) noX ifs t)
    (hk : ∀ (s : Shared) (H : Hp) (C : Addr) (cl : List (Str × Addr)) (fp : List Addr), HE (X.blk s H scope (compEnvC scope cl C X.env) fp) noX kx mk)
    (hv : ∀ (s : Shared) (H : Hp) (C : Addr) (cl : List (Str × Addr)) (fp : List Addr), HE (X.blk s H scope (compEnvC scope cl C X.env) fp) noX vx mv)
    (hsl : (sl.all fun i => (own.map (·.2)).contains i) = true := by rfl) (hs : ∀ x, foldedSetIterable iter X.env x = pure x := by intro _; rfl) : HE X XP (.DictComp kx vx [⟨tg, iter, ifs, 0⟩] scope pos) (mDcD i vw g t mk mv (own.map (·.2))) := by
  obtain ⟨wi, i1, i2⟩ := hi.ex
  have hsl' : ∀ i ∈ sl, i ∈ own.map (·.2) := fun i h => by simpa using List.all_eq_true.mp hsl i h
  refine ⟨_, pe_lock (pe_dc (g := rdG X.K noX sl g) (tt := rdT X.K noX t) (tk := rdE X.K noX mk) (tv := rdE X.K noX mv) c.calm c.nd i1 (blkOk_by ok) (fun s H C cl fp => (hg s H C cl fp).rd) (fun s H C cl fp => (ht s H C cl fp).rd) (fun s H C cl fp => (hk s H C cl fp).rd) (fun s H C cl fp => (hv s H C cl fp).rd) hs), fun ρ E G σ H Q er sr q => ?_⟩
  unfold mDcD at q
  split at q
  · rename_i n hE
    split at q
    · rename_i kvs hc
      obtain ⟨v, hσ, rv⟩ := er.get hE
      cases rv with
      | @ref _ d hn =>
        obtain ⟨qv, hd, hk, hlk⟩ := sr.lock hn hc
        refine ⟨d, _, hd, trivial, fun od => ?_⟩
        have el : Ext X.K ρ H ρ (upd H d (.frz od (.dK qv))) := ext_lock hd
        refine dc_runA (atLk X.K i d od qv kvs ρ (G.set n (.lkd kvs))) (mi := fun _ G' => .ok (.tup (vw kvs)) G') hsl' (fun ρ2 E2 G2 σ2 H2 R z er2 sr2 o => ?_) ρ E (G.set n (.lkd kvs)) σ _ _ ⟨rfl, rfl, hσ, upd_same, hk.mono el⟩ (er.mono el) (hlk od) (outR_lock hn hd hk q)
        obtain ⟨_, _, z1, z2, z3⟩ := z
        exact i2 ρ2 H2 σ2 d od kvs qv R z1 z2 z3 fun J hJ => o ρ2 H2 J .refl sr2 hJ
    · exact q.elim
  · exact q.elim
theorem he_lcD {elt tg iter : Expr} {ifs : List Expr} {scope : Scope} {own : List (Str × Nat)} {vw : List (Key × W) → List W} {g : MG} {t : MT} {m : ME} {sl : List Nat} {k : Nat} (c : GC X XP k) (hi : HID X i tg iter vw) (ok : blkC X.N X.env.scope scope own = true)
    (hg : ∀ (s : Shared) (H : Hp) (C : Addr) (cl : List (Str × Addr)) (fp : List Addr), HG (X.blk s H scope (compEnvC scope cl C X.env) fp) noX tg sl g)
    (ht : ∀ (s : Shared) (H : Hp) (C : Addr) (cl : List (Str × Addr)) (fp : List Addr), HTs (X.blk s H scope (compEnvC scope cl C X.env) fp) noX ifs t)
    (he : ∀ (s : Shared) (H : Hp) (C : Addr) (cl : List (Str × Addr)) (fp : List Addr), HE (X.blk s H scope (compEnvC scope cl C X.env) fp) noX elt m)
    (hsl : (sl.all fun i => (own.map (·.2)).contains i) = true := by rfl) (hs : ∀ x, foldedSetIterable iter X.env x = pure x := by intro _; rfl) : HE X XP (.ListComp elt [⟨tg, iter, ifs, 0⟩] scope pos) (mLcD i vw g t m (own.map (·.2))) := by
  obtain ⟨wi, i1, i2⟩ := hi.ex
  have hsl' : ∀ i ∈ sl, i ∈ own.map (·.2) := fun i h => by simpa using List.all_eq_true.mp hsl i h
  refine ⟨_, pe_lock (pe_lc (g := rdG X.K noX sl g) (tt := rdT X.K noX t) (te := rdE X.K noX m) c.calm c.nd i1 (blkOk_by ok) (fun s H C cl fp => (hg s H C cl fp).rd) (fun s H C cl fp => (ht s H C cl fp).rd) (fun s H C cl fp => (he s H C cl fp).rd) hs), fun ρ E G σ H Q er sr q => ?_⟩
  unfold mLcD at q
  split at q
  · rename_i n hE
    split at q
    · rename_i kvs hc
      obtain ⟨v, hσ, rv⟩ := er.get hE
      cases rv with
      | @ref _ d hn =>
        obtain ⟨qv, hd, hk, hlk⟩ := sr.lock hn hc
        refine ⟨d, _, hd, trivial, fun od => ?_⟩
        have el : Ext X.K ρ H ρ (upd H d (.frz od (.dK qv))) := ext_lock hd
        rw [mLcI_eq] at q
        refine lc_runA (atLk X.K i d od qv kvs ρ (G.set n (.lkd kvs))) (mi := fun _ G' => .ok (.tup (vw kvs)) G') hsl' (fun ρ2 E2 G2 σ2 H2 R z er2 sr2 o => ?_) ρ E (G.set n (.lkd kvs)) σ _ _ ⟨rfl, rfl, hσ, upd_same, hk.mono el⟩ (er.mono el) (hlk od) (outR_lock hn hd hk q)
        obtain ⟨_, _, z1, z2, z3⟩ := z
        exact i2 ρ2 H2 σ2 d od kvs qv R z1 z2 z3 fun J hJ => o ρ2 H2 J .refl sr2 hJ
    · exact q.elim
  · exact q.elim
/-! ### {t: v}, t a tuple -/
def tDispT (tk tv : TE) : TE := fun σ H Q => ∀ p, H p = none → tk σ (upd H p (.dT [])) fun x H1 => tv σ H1 fun y H2 => H2 p = some (.dT []) ∧ ∃ (b : Addr) (k : List Key), x = .ref b ∧ H2 b = some (.tup (k.map kV)) ∧ Q (.ref p) (upd H2 p (.dT [(k, y)]))
theorem pe_dispT {k v : Expr} {tk tv : TE} (hu : X.A.units < cLine) (hk : PE X k tk) (hv : PE X v tv) : PE X (.Dict [some k] [v] pos) (tDispT tk tv) := by
  refine ⟨fun pins s σ H Q I q => ?_⟩
  have hn := I.hok.fresh (Nat.le_refl s.heap.objs.size)
  have I1 := I.laid (a := s.heap.objs.size) (o := .dT []) (h' := s.heap.push { cls := .type "dict", data := .dict #[] }) (t' := s.toks) (fun _ _ q => Heap.get?_push_of_some _ q) (Nat.le_refl _) (dt_empty s.heap I.big)
  have pp : PPs X pos [some k] [v] [(tk, tv)] := pps_cons hk hv pps_nil
  have hp0 : pairTrees [some k] [v] X.env pos ≠ [] := fun he => by
    have hl := pairTrees_length [some k] [v] X.env pos rfl rfl
    rw [he] at hl; cases hl
  have hlen : (pairTrees [some k] [v] X.env pos).length = 1 := pairTrees_length [some k] [v] X.env pos rfl rfl
  rw [arm_eval_Dict, zip_pairTrees [some k] [v] X.env pos rfl rfl, dictDisplay_pairs _ hp0 (by rw [hlen]; decide)]
  refine wpAny_bind (wpAny_standAt (wpAny_bind (wpAny_subDictH (knd := tupleKind (mixKind X.prog X.w)) (Q := fun d s' => wpAny (model X.prog X.w) X.A (pure (Value.ref d)) _ X.xe s') hu (by rw [hlen]; decide) ?_)))
  have q0 := q _ hn
  refine thn (pp.run pins _ σ _ (fun ps H2 => match ps with
    | [(x, y)] => H2 s.heap.objs.size = some (.dT []) ∧ ∃ (b : Addr) (k : List Key), x = .ref b ∧ H2 b = some (.tup (k.map kV)) ∧ Q (.ref s.heap.objs.size) (upd H2 s.heap.objs.size (.dT [(k, y)]))
    | _ => False) I1 q0) fun ws s2 ⟨ps, H2, I2, rel, q1⟩ => ?_
  split at q1
  · rename_i x y
    obtain ⟨e, b, ks, rfl, hb, q2⟩ := q1
    cases rel with
    | @cons p1 p2 ps1 ps2 h1 h2 =>
      cases h2
      obtain ⟨w1, w2⟩ := p2
      obtain ⟨r1, r2⟩ := h1
      cases r1
      obtain ⟨z, hd, xs, rel, dd⟩ := dt_of I2.hok e
      cases rel
      refine ⟨[(ks, b, w2)], ⟨rfl, rfl, key_of I2.hok hb, trivial⟩, dd, fun h' tk dd' hs => wpAny_pure ⟨.ref s.heap.objs.size, _, ?_, rfl, q2⟩⟩
      obtain ⟨o, es, ep, hq, g2, g3, g4, _, g5⟩ := dd'
      refine d_write I2 (by rw [e]; exact True.intro) hs ⟨o, hq⟩ ⟨(by show 1 ≤ sizeLine; decide), hd, _, .cons ⟨rfl, ?_, r2⟩ .nil, o, es, ep, hq, g2, g3, g4, g5⟩
      rw [upd_ne (ne_of hb e (fun z => nomatch z))]
      exact hb
  · exact q1.elim
/-- {t: v} -/
def mDispT (mk mv : ME) : ME := fun E G => (mk E (G ++ [.tct []])).bind fun x G1 => (mv E G1).bind fun y G2 => match tkW x with
  | some k => (match G2[G.length]? with | some (.tct []) => .ok (.ref G.length) (G2.set G.length (.tct [(k, y)])) | _ => .no)
  | none => .no
theorem he_dispT {k v : Expr} {mk mv : ME} (hu : X.A.units < cLine) (hk : HE X XP k mk) (hv : HE X XP v mv) : HE X XP (.Dict [some k] [v] pos) (mDispT mk mv) := by
  obtain ⟨tk, a1, a2⟩ := hk.ex
  obtain ⟨tv, b1, b2⟩ := hv.ex
  refine ⟨_, pe_dispT hu a1 b1, fun ρ E G σ H Q er sr q => ?_⟩
  intro p hp
  have hcell : PL.CR X.K (ρ ++ [p]) (upd H p (.dT [])) (.tct []) p := ⟨[], upd_same, .nil⟩
  have sA := sr.alloc hp hcell
  have eA : Ext X.K ρ H (ρ ++ [p]) (upd H p (.dT [])) := ext_alloc hp
  have hn : (ρ ++ [p])[G.length]? = some p := by rw [← sr.len]; exact last_get _ _
  refine a2 (ρ ++ [p]) E (G ++ [.tct []]) σ _ _ (er.mono eA) sA ((Out.mono q eA).bind fun x G1 ρ1 H1 xv e1 s1 r1 k1 => ?_)
  refine b2 ρ1 E G1 σ H1 _ (er.mono (eA.trans e1)) s1 (k1.bind fun y G2 ρ2 H2 yv e2 s2 r2 k2 => ?_)
  have hn2 := e2.rho _ _ (e1.rho _ _ hn)
  split at k2
  · rename_i ks hks
    obtain ⟨b, rfl, hb⟩ := tkW_ok (r1.mono e2) hks
    split at k2
    · rename_i hc
      obtain ⟨z, z1, z2⟩ := cell_tct s2 hn2 hc
      cases z2
      have ex : Ext X.K ρ2 H2 ρ2 (upd H2 p (.dT [(ks, yv)])) := s2.ext_write hc hn2 rfl
      exact ⟨z1, b, ks, rfl, hb, k2 ρ2 _ _ ex (s2.write (c' := .tct [(ks, y)]) hc hn2 rfl rfl ⟨_, upd_same, .cons (r2.mono ex) .nil⟩) (.ref hn2)⟩
    · exact k2.elim
  · exact k2.elim
/-! ### a local name that holds one of two functions -/
variable {f f' : Addr} {fd fd' : FuncData} {ps ps' : List Str} {F F' : PF} {k k' : Nat}
def mDefL2 (i : Nat) (f : Addr) (F : PF) (f' : Addr) (F' : PF) (m : MA) : ME := fun E G => match E[i]? with
  | some (some (.fn g)) => if g = f then (m E G).bind fun ws G' => F ws G' else if g = f' then (m E G).bind fun ws G' => F' ws G' else .no
  | _ => .no
theorem he_callL2 {e : Expr} {es : List Expr} {m : MA} (h : FnG X.prog X.w X.K X.mg X.base k f fd ps F) (h' : FnG X.prog X.w X.K X.mg X.base k' f' fd' ps' F') (c : GC X XP k) (c' : GC X XP k') (hN : X.N[i]? = some x) (hv : Vis X.env.scope x) (hk : PySem.W.keepIn X.K (.ref f) = true) (hk' : PySem.W.keepIn X.K (.ref f') = true)
    (hb : Binds X.K fd ps []) (hb' : Binds X.K fd' ps' []) (ha : HA X XP (e :: es) m)
    (hdb : (x == ("__debug__" : Str)) = false := by decide) (hcd : (x == ("__classdict__" : Str)) = false := by decide) (he : starEach (e :: es) X.env = (false, eval e X.env) :: starEach es X.env := by rfl) (hpl : (backTo pos (starEach es X.env)).any (·.1) = false := by rfl) : HE X XP (.Call (.Name x p) (e :: es) [] pos) (mDefL2 i f F f' F' m) := by
  obtain ⟨t, a1, a2⟩ := ha.ex
  refine ⟨fun σ H Q => tVar i σ H fun v H0 => ∃ (g : Addr) (Fg : PF), v = .ref g ∧ (g = f ∧ Fg = F ∨ g = f' ∧ Fg = F') ∧ t σ H0 fun vs H1 => ∃ ρ G ws, VRs X.K ρ H1 ws vs ∧ SR X.K ρ G H1 ∧ Out X.K XP (VR X.K) σ ρ H1 (Fg ws G) Q, ⟨fun pins s σ H Q I q => ?_⟩, fun ρ E G σ H Q er sr q => ?_⟩
  · refine wpAny_Call_Name_kw (thn ((pe_var hN hv hdb hcd).run pins s σ H _ I q) fun u s0 ⟨v, H0, I0, r0, g, Fg, hv0, hg, q0⟩ => ?_)
    subst hv0
    obtain rfl : u = .ref g := r0
    rcases hg with ⟨rfl, rfl⟩ | ⟨rfl, rfl⟩
    · refine PySem.W.callWith_K (h₀ := X.base) I0.ok.mod.kin hk (thn (a1.run pos pins s0 σ H0 _ I0 q0) fun us s1 ⟨vs, H1, I1, r, ρ, G, ws, q1, q2, q3⟩ => ⟨I1.kIn, ?_⟩) he hpl
      exact h.runC c (args := ⟨us, []⟩) I1 (fun hl => by have := hb s1 us I1.kIn (by rw [List.append_nil]; exact hl); rwa [List.append_nil] at this) r q1 q2 q3
    · refine PySem.W.callWith_K (h₀ := X.base) I0.ok.mod.kin hk' (thn (a1.run pos pins s0 σ H0 _ I0 q0) fun us s1 ⟨vs, H1, I1, r, ρ, G, ws, q1, q2, q3⟩ => ⟨I1.kIn, ?_⟩) he hpl
      exact h'.runC c' (args := ⟨us, []⟩) I1 (fun hl => by have := hb' s1 us I1.kIn (by rw [List.append_nil]; exact hl); rwa [List.append_nil] at this) r q1 q2 q3
  · unfold mDefL2 at q
    split at q
    · rename_i g hg
      obtain ⟨v, hv1, hv2⟩ := er.get hg
      cases hv2
      split at q
      · rename_i hgf
        exact ⟨_, hv1, _, F, rfl, .inl ⟨hgf, rfl⟩, a2 ρ E G σ H _ er sr (q.bind fun ws G1 ρ1 H1 vs e1 s1 q1 k1 => ⟨ρ1, G1, ws, q1, s1, k1⟩)⟩
      · split at q
        · rename_i hgf
          exact ⟨_, hv1, _, F', rfl, .inr ⟨hgf, rfl⟩, a2 ρ E G σ H _ er sr (q.bind fun ws G1 ρ1 H1 vs e1 s1 q1 k1 => ⟨ρ1, G1, ws, q1, s1, k1⟩)⟩
        · exact q.elim
    · exact q.elim
/-! ### shifts to the left -/
def shlW : GOp := fun G x y => match x, y with
  | .int i, .int j => if 0 ≤ j ∧ j ≤ 1000000 ∧ i.natAbs < 2 ^ 64 then .ok (.int (i * 2 ^ j.toNat)) G else .no
  | _, _ => .no
theorem og_shl : OpG X XP (binaryOp .LShift) shlW := by
  refine ⟨_, op_shl, fun ρ G σ H x y v u Q s rx ry h => ?_⟩
  unfold shlW at h
  split at h
  · cases rx; cases ry
    split at h
    · rename_i hj; exact ⟨_, _, rfl, rfl, hj, h.ok s (.int _)⟩
    · exact h.elim
  · exact h.elim
end
end PL
/- part PLG -/
set_option maxHeartbeats 1000000
namespace PL
open PySem PySem.Spec PyProof.Rows L2
/-! ### name = {..} on one line -/
section
variable {X : Cx} {XP : Wish}
theorem sw_trueD {kx vx : Expr} {gs : List Comprehension} {scope : Scope} {pos py : Pos} {y : Str} {l : Nat} {env : Env} (hk : env.scope.kind = .function) (hy : env.scope.names.lookup y = some .local) (hl : (py.line == pos.line) = true)
    (ha : (scope.names.any fun (n, k) => n == y && (k == .local || k == .cell)) = false) : swapsWith (.DictComp kx vx gs scope pos) (some (.Name y py)) l env = pure true := by
  have ky : env.kindOf y = some .local := hy
  have hb : env.blockKind = .function := by unfold Env.blockKind; rw [hk]; rfl
  unfold swapsWith
  simp only [hb, ky, ha, Expr.pos, hl]
  rfl
theorem ps_setDc {i : Nat} {y : Str} {py : Pos} {kx vx tg iter : Expr} {ifs : List Expr} {scope : Scope} {own : List (Str × Nat)} {pos spos : Pos} {wi : TI} {g : TG} {tt : TT} {tk tv : TE} (hc : X.calm = true) (hN : X.N.Nodup) (hy : X.N[i]? = some y) (hyl : X.env.scope.names.lookup y = some .local)
    (hsw : swapsWith (.DictComp kx vx [⟨tg, iter, ifs, 0⟩] scope pos) (some (.Name y py)) spos.line X.env = pure true) (hi : PI X tg iter wi) (ok : BlkOk X.N X.env.scope scope own)
    (hg : ∀ (s : Shared) (H : Hp) (C : Addr) (cl : List (Str × Addr)) (fp : List Addr), PG (X.blk s H scope (compEnvC scope cl C X.env) fp) tg g) (ht : ∀ (s : Shared) (H : Hp) (C : Addr) (cl : List (Str × Addr)) (fp : List Addr), PTs (X.blk s H scope (compEnvC scope cl C X.env) fp) ifs tt)
    (hk : ∀ (s : Shared) (H : Hp) (C : Addr) (cl : List (Str × Addr)) (fp : List Addr), PE (X.blk s H scope (compEnvC scope cl C X.env) fp) kx tk)
    (he : ∀ (s : Shared) (H : Hp) (C : Addr) (cl : List (Str × Addr)) (fp : List Addr), PE (X.blk s H scope (compEnvC scope cl C X.env) fp) vx tv) (hs : ∀ x, foldedSetIterable iter X.env x = pure x := by intro _; rfl) :
    PS X (.Assign [.Name y py] (.DictComp kx vx [⟨tg, iter, ifs, 0⟩] scope pos) spos) (tAsg (tDc wi g tt tk tv (own.map (·.2))) (gName i)) := by
  refine ⟨fun pins s σ H D I h => ?_⟩
  rw [exec_Assign_Name_used _ _ _ _ hsw]
  refine wpAny_bind (wpAny_standAt (wpAny_bind ?_))
  show wpAny _ X.A (do let _ ← comprehension (.DictComp kx vx [⟨tg, iter, ifs, 0⟩] scope pos) scope X.env (firstIterPos [⟨tg, iter, ifs, 0⟩] pos) newDict false (eval iter X.env) (some (assign (.Name y py) X.env))) _ _ s
  have h : tDc wi g tt tk tv (own.map (·.2)) σ H (fun x H1 => gName i x σ H1 D.nx) := h
  refine wpAny_bind (thn (dc_core (Qf := fun _ s' => SP X pins D .next s') hc hN I hi ok hg ht hk he hs h fun L C s' m H' I' q hn f => ?_) fun _ s' hq => wpAny_pure (wpAny_pure hq))
  show wpAny _ _ (assign (.Name y py) X.env (.ref L)) _ _ _
  refine wpAny_assign_Name (store_ok2 (v := V.ref L) I' hN hy (.inl hyl) rfl (fun s2 I2 ⟨a, sb, ha⟩ => ?_) (.inr hyl))
  obtain ⟨f0, f1, f2, f3, f4, f5⟩ := f
  have haC : C ≠ a := by
    rcases ha with z | z
    · rw [z]; exact f1
    · exact fun e => f4 y a z e.symm
  refine ⟨m, hn.sameBut sb haC, fun h3 sb3 => ?_⟩
  exact ⟨_, H', I2.turned (t' := s2.toks) (fun b o hb e => (sb3.2 b hb).trans e) f0 f1 f3 f4 f5, q⟩
theorem hs_setDc {i : Nat} {y : Str} {py pos spos : Pos} {kx vx tg iter : Expr} {ifs : List Expr} {scope : Scope} {own : List (Str × Nat)} {mi : MI} {g : MG} {t : MT} {mk mv : ME} {sl : List Nat} {k : Nat} (c : GC X XP k) (hy : X.N[i]? = some y) (hyl : X.env.scope.names.lookup y = some .local)
    (hsw : swapsWith (.DictComp kx vx [⟨tg, iter, ifs, 0⟩] scope pos) (some (.Name y py)) spos.line X.env = pure true) (hi : HI X XP tg iter mi) (ok : blkC X.N X.env.scope scope own = true)
    (hg : ∀ (s : Shared) (H : Hp) (C : Addr) (cl : List (Str × Addr)) (fp : List Addr), HG (X.blk s H scope (compEnvC scope cl C X.env) fp) noX tg sl g)
    (ht : ∀ (s : Shared) (H : Hp) (C : Addr) (cl : List (Str × Addr)) (fp : List Addr), HTs (X.blk s H scope (compEnvC scope cl C X.env) fp) noX ifs t)
    (hk : ∀ (s : Shared) (H : Hp) (C : Addr) (cl : List (Str × Addr)) (fp : List Addr), HE (X.blk s H scope (compEnvC scope cl C X.env) fp) noX kx mk)
    (hv : ∀ (s : Shared) (H : Hp) (C : Addr) (cl : List (Str × Addr)) (fp : List Addr), HE (X.blk s H scope (compEnvC scope cl C X.env) fp) noX vx mv)
    (hsl : (sl.all fun i => (own.map (·.2)).contains i) = true := by rfl) (hs : ∀ x, foldedSetIterable iter X.env x = pure x := by intro _; rfl) : HS X XP (.Assign [.Name y py] (.DictComp kx vx [⟨tg, iter, ifs, 0⟩] scope pos) spos) (sAsg (mDc mi g t mk mv (own.map (·.2))) (gSet i)) := by
  obtain ⟨wi, i1, i2⟩ := hi.ex
  have hsl' : ∀ i ∈ sl, i ∈ own.map (·.2) := fun i h => by simpa using List.all_eq_true.mp hsl i h
  exact ⟨_, ps_setDc c.calm c.nd hy hyl hsw i1 (blkOk_by ok) (fun s H C cl fp => (hg s H C cl fp).rd) (fun s H C cl fp => (ht s H C cl fp).rd) (fun s H C cl fp => (hk s H C cl fp).rd) (fun s H C cl fp => (hv s H C cl fp).rd) hs,
    asg_run (sl := [i]) (dc_run hsl' i2) fun ρ w E G v σ H Q r er sr q => q.ok sr ⟨er.set r i, List.length_set, fun j hj => set_other (by simpa using hj)⟩⟩
end
/-! ### two functions handed in are unlike -/
theorem fun_ne {K : Fg} {x qual x' qual' : Str} {st st' : Stmt} {f f' : Addr} {fd fd' : FuncData} (F : Fun K x qual st f fd) (F' : Fun K x' qual' st' f' fd') (hx : x ≠ x') : f ≠ f' := by
  rintro rfl
  obtain ⟨oc, od, kV, doc, pm, an, cdv, ct, osl, e1, lk, _⟩ := F.ex
  obtain ⟨oc', od', kV', doc', pm', an', cdv', ct', osl', e2, lk', _⟩ := F'.ex
  rw [lk] at lk'
  have e : fd = fd' := by
    injection lk' with h
    injection h with _ _ h3
    injection h3
  rw [e1, e2] at e
  have := congrArg FuncData.name e
  exact hx this
end PL
/- part PLH -/
set_option maxHeartbeats 1000000
namespace PL
open PySem PySem.Spec PyProof.Rows L2
/-! ### walks over dicts: pure rules -/
theorem Fr.lock {G : Cells} {n : Nat} {c : Cell} : Fr [n] G (G.set n c) := Fr.set (by simp)
theorem Fr.back {S : List Nat} {G G2 : Cells} {n : Nat} {kvs kvs' : List (Key × W)} (hc : G[n]? = some (.dct kvs)) (f : Fr S (G.set n (.lkd kvs)) G2) : Fr S G (G2.set n (.dct kvs)) := by
  refine ⟨by have := f.1; simpa using this, fun m hm hS => ?_⟩
  by_cases e : m = n
  · subst e
    rw [List.getElem?_set_self (by have := f.1; simp at this; omega)]; exact hc.symm
  · rw [List.getElem?_set_ne (Ne.symm e), f.2 m (by simpa using hm) hS, List.getElem?_set_ne (Ne.symm e)]
theorem lkd_get {S : List Nat} {G G2 : Cells} {n : Nat} {kvs : List (Key × W)} (hc : G[n]? = some (.dct kvs)) (hn : n ∉ S) (f : Fr S (G.set n (.lkd kvs)) G2) : G2[n]? = some (.lkd kvs) := f.get (List.getElem?_set_self (lt_of_get hc)) hn
theorem unR_sat {n : Nat} {kvs : List (Key × W)} {r : Rs W} {Q : W → Cells → Prop} (h : r.sat fun w G => (∃ k, G[n]? = some (.lkd k)) ∧ Q w (G.set n (.dct kvs))) : (unR n kvs r).sat Q := by
  cases r with
  | ok w G =>
    obtain ⟨⟨k, hk⟩, q⟩ := h
    show (match G[n]? with | some (.lkd _) => Rs.ok w (G.set n (.dct kvs)) | _ => .no).sat Q
    rw [hk]; exact q
  | ex e G => exact h.elim
  | no => exact h.elim
theorem unS_sat {n : Nat} {kvs : List (Key × W)} {r : So} {N : PEnv → Cells → Prop} {R : W → Cells → Prop} (h : r.sat (fun E G => (∃ k, G[n]? = some (.lkd k)) ∧ N E (G.set n (.dct kvs))) fun w G => (∃ k, G[n]? = some (.lkd k)) ∧ R w (G.set n (.dct kvs))) : (unS n kvs r).sat N R := by
  cases r with
  | nx E G =>
    obtain ⟨⟨k, hk⟩, q⟩ := h
    show (match G[n]? with | some (.lkd _) => So.nx E (G.set n (.dct kvs)) | _ => .no).sat N R
    rw [hk]; exact q
  | rt w G =>
    obtain ⟨⟨k, hk⟩, q⟩ := h
    show (match G[n]? with | some (.lkd _) => So.rt w (G.set n (.dct kvs)) | _ => .no).sat N R
    rw [hk]; exact q
  | bk E G => exact h.elim
  | ct E G => exact h.elim
  | ex e E G => exact h.elim
  | no => exact h.elim
theorem dcD_pure {i n : Nat} {vw : List (Key × W) → List W} {kvs : List (Key × W)} {g : MG} {t : MT} {mk mv : ME} {vs : List Nat} {E : PEnv} {G : Cells} {Q : W → Cells → Prop} (hE : E[i]? = some (some (.ref n))) (hc : G[n]? = some (.dct kvs)) (f : W → Option (Key × W)) (hb : (vw kvs).length ≤ 100000)
    (hs : ∀ (j : Nat) w G', (vw kvs)[j]? = some w → Fr [n] G G' → G'[n]? = some (.lkd kvs) → (g w (wipeE E vs) G').sat fun E1 G2 => (t E1 G2).sat fun k G3 => if k = true then (mk E1 G3).sat fun y G4 => (mv E1 G4).sat fun z G5 => (∃ ky, keyW y = some ky ∧ f w = some (ky, z)) ∧ Fr [] G' G5 else f w = none ∧ Fr [] G' G3)
    (hq : ∀ m G', Fr [] G G' → G.length ≤ m → G'[m]? = some (.dct (mergeW [] ((vw kvs).filterMap f))) → Q (.ref m) G') : (mDcD i vw g t mk mv vs E G).sat Q := by
  unfold mDcD
  simp only [hE, hc]
  refine unR_sat (dc_pure (vw kvs) f ⟨Fr.refl, it_tup _ _ _⟩ hb (fun j w G' hw fr => hs j w G' hw (Fr.lock.trans fr.of_nil) (lkd_get hc (by simp) fr)) fun m G' fr hm hg => ⟨⟨_, lkd_get hc (by simp) fr⟩, ?_⟩)
  have hlt := lt_of_get hc
  rw [List.length_set] at hm
  exact hq m _ (Fr.back (kvs' := kvs) hc fr) hm (by rw [List.getElem?_set_ne (by omega)]; exact hg)
theorem lcD_pure {i n : Nat} {vw : List (Key × W) → List W} {kvs : List (Key × W)} {g : MG} {t : MT} {m : ME} {vs : List Nat} {E : PEnv} {G : Cells} {Q : W → Cells → Prop} (hE : E[i]? = some (some (.ref n))) (hc : G[n]? = some (.dct kvs)) (f : W → Option W) (hb : (vw kvs).length ≤ 100000)
    (hs : ∀ (j : Nat) w G', (vw kvs)[j]? = some w → Fr [n] G G' → G'[n]? = some (.lkd kvs) → (g w (wipeE E vs) G').sat fun E1 G2 => (t E1 G2).sat fun k G3 => if k = true then (m E1 G3).sat fun y G4 => f w = some y ∧ Fr [] G' G4 else f w = none ∧ Fr [] G' G3)
    (hq : ∀ p G', Fr [] G G' → G.length ≤ p → G'[p]? = some (.lst ((vw kvs).filterMap f)) → Q (.ref p) G') : (mLcD i vw g t m vs E G).sat Q := by
  unfold mLcD
  simp only [hE, hc]
  refine unR_sat (lc_pure (vw kvs) f ⟨Fr.refl, it_tup _ _ _⟩ hb (fun j w G' hw fr => hs j w G' hw (Fr.lock.trans fr.of_nil) (lkd_get hc (by simp) fr)) fun m G' fr hm hg => ⟨⟨_, lkd_get hc (by simp) fr⟩, ?_⟩)
  have hlt := lt_of_get hc
  rw [List.length_set] at hm
  exact hq m _ (Fr.back (kvs' := kvs) hc fr) hm (by rw [List.getElem?_set_ne (by omega)]; exact hg)
/-- for over a dict's view: I speaks of the cells while the dict is locked -/
theorem so_forD {i n : Nat} {vw : List (Key × W) → List W} {kvs : List (Key × W)} {g : MG} {b : MS} {E : PEnv} {G : Cells} {N : PEnv → Cells → Prop} {R : W → Cells → Prop} (hE : E[i]? = some (some (.ref n))) (hc : G[n]? = some (.dct kvs)) (I : Nat → PEnv → Cells → Prop)
    (h0 : I 0 E (G.set n (.lkd kvs))) (hl : ∀ j E' G', I j E' G' → G'[n]? = some (.lkd kvs))
    (hstep : ∀ j w E G, (vw kvs)[j]? = some w → I j E G → (g w E G).sat fun E1 G1 => (b E1 G1).sat (I (j + 1)) fun w G => (∃ k, G[n]? = some (.lkd k)) ∧ R w (G.set n (.dct kvs)))
    (hend : ∀ E G, I (vw kvs).length E G → N E (G.set n (.dct kvs))) : (sForD i vw g b E G).sat N R := by
  unfold sForD
  simp only [hE, hc]
  refine unS_sat (so_forI (vw kvs) I ?_ hstep fun E G q => ⟨⟨_, hl _ _ _ q⟩, hend E G q⟩)
  exact ⟨rfl, h0, fun _ _ _ _ => rfl⟩
/-! ### dicts from lists with unlike keys -/
theorem putW_new {κ : Type} [DecidableEq κ] {kvs : List (κ × W)} {k : κ} {w : W} (h : ∀ p ∈ kvs, p.1 ≠ k) : putW kvs k w = kvs ++ [(k, w)] := by
  unfold putW
  rw [if_neg]
  intro z
  obtain ⟨p, hp, e⟩ := List.any_eq_true.mp z
  exact h p hp (of_decide_eq_true e)
theorem mergeW_nodup : ∀ (l acc : List (Key × W)), (l.map (·.1)).Nodup → (∀ p ∈ l, ∀ q ∈ acc, q.1 ≠ p.1) → mergeW acc l = acc ++ l
  | [], acc, _, _ => by show acc = acc ++ []; simp
  | p :: l, acc, hn, hd => by
    rw [List.map_cons, List.nodup_cons] at hn
    show mergeW (putW acc p.1 p.2) l = _
    rw [putW_new (hd p (by simp)), mergeW_nodup l _ hn.2 fun q hq r hr => ?_]
    · simp
    · rcases List.mem_append.mp hr with hr | hr
      · exact hd q (by simp [hq]) r hr
      · rw [List.mem_singleton.mp hr]
        intro e
        exact hn.1 (List.mem_map.mpr ⟨q, hq, e.symm⟩)
theorem mergeW_nil {l : List (Key × W)} (h : (l.map (·.1)).Nodup) : mergeW [] l = l := by
  rw [mergeW_nodup l [] h (by simp)]; rfl
theorem valW_map {α κ : Type} [DecidableEq κ] (f : α → κ) (g : α → W) (xs : List α) (hf : ∀ x ∈ xs, ∀ y ∈ xs, f x = f y → x = y) {x : α} (hx : x ∈ xs) : valW (xs.map fun x => (f x, g x)) (f x) = some (g x) := by
  induction xs with
  | nil => cases hx
  | cons y ys ih =>
    rw [List.map_cons]
    by_cases e : f y = f x
    · rw [e, valW_pos, hf y (by simp) x hx e]
    · rw [valW_neg e]
      rcases List.mem_cons.mp hx with h | h
      · exact absurd (by rw [h]) e
      · exact ih (fun a ha b hb => hf a (by simp [ha]) b (by simp [hb])) h
theorem valW_none {κ : Type} [DecidableEq κ] {kvs : List (κ × W)} {k : κ} (h : ∀ p ∈ kvs, p.1 ≠ k) : valW kvs k = none := by
  unfold valW
  rw [List.find?_eq_none.mpr]
  · rfl
  · intro p hp hd
    exact h p hp (of_decide_eq_true hd)
theorem s_defL2a {i : Nat} {f f' g : Addr} {F F' : PF} {m : MA} {E : PEnv} {G : Cells} {Q : W → Cells → Prop} (hi : E[i]? = some (some (.fn g))) (hg : g = f) : (mDefL2 i f F f' F' m E G).sat Q = (m E G).sat fun ws G1 => (F ws G1).sat Q := by
  unfold mDefL2
  simp only [hi, hg, if_true]
  rw [sat_bind]
theorem s_defL2b {i : Nat} {f f' g : Addr} {F F' : PF} {m : MA} {E : PEnv} {G : Cells} {Q : W → Cells → Prop} (hi : E[i]? = some (some (.fn g))) (hg : g = f') (hne : f ≠ f') : (mDefL2 i f F f' F' m E G).sat Q = (m E G).sat fun ws G1 => (F' ws G1).sat Q := by
  unfold mDefL2
  subst hg
  have : ¬ g = f := fun e => hne e.symm
  simp only [hi, this, if_false, if_true]
  rw [sat_bind]
theorem s_defL {i : Nat} {f : Addr} {F : PF} {m : MA} {E : PEnv} {G : Cells} {Q : W → Cells → Prop} (hi : E[i]? = some (some (.fn f))) : (mDefL i f F m E G).sat Q = (m E G).sat fun ws G1 => (F ws G1).sat Q := by
  unfold mDefL
  simp only [hi, if_true]
  rw [sat_bind]
end PL
/- part PLI -/
set_option maxHeartbeats 1000000
namespace PL
open PySem PySem.Spec PyProof.Rows L2 SrtO
/-! ### the order of lists of ints -/
theorem lx_irr : ∀ a : List Int, HT.lexLt a a = false
  | [] => rfl
  | x :: xs => by rw [HT.lexLt_cons, if_pos rfl]; exact lx_irr xs
theorem lx_asym : ∀ a b : List Int, HT.lexLt a b = true → HT.lexLt b a = false
  | [], [], h => rfl
  | [], _ :: _, h => rfl
  | _ :: _, [], h => by cases h
  | x :: xs, y :: ys, h => by
    rw [HT.lexLt_cons] at h ⊢
    by_cases e : x = y
    · subst e; rw [if_pos rfl] at h ⊢; exact lx_asym xs ys h
    · rw [if_neg e] at h; rw [if_neg (Ne.symm e)]; simp at h ⊢; omega
theorem lx_tot : ∀ a b : List Int, HT.lexLt a b = false → HT.lexLt b a = false → a = b
  | [], [], _, _ => rfl
  | [], _ :: _, h, _ => by cases h
  | _ :: _, [], _, h => by cases h
  | x :: xs, y :: ys, h, k => by
    rw [HT.lexLt_cons] at h k
    by_cases e : x = y
    · subst e; rw [if_pos rfl] at h k; rw [lx_tot xs ys h k]
    · rw [if_neg e] at h; rw [if_neg (Ne.symm e)] at k; simp at h k; omega
theorem lx_tr : ∀ a b c : List Int, HT.lexLt b a = false → HT.lexLt c b = false → HT.lexLt c a = false
  | [], b, c, h, k => by
    cases c with
    | nil => rfl
    | cons z zs => rfl
  | x :: xs, [], c, h, k => by cases h
  | x :: xs, y :: ys, [], h, k => by cases k
  | x :: xs, y :: ys, z :: zs, h, k => by
    rw [HT.lexLt_cons] at h k ⊢
    by_cases e : y = x
    · subst e
      rw [if_pos rfl] at h
      by_cases f : z = y
      · subst f
        rw [if_pos rfl] at k ⊢
        exact lx_tr xs ys zs h k
      · rw [if_neg f] at k ⊢; exact k
    · rw [if_neg e] at h
      by_cases f : z = y
      · subst f; rw [if_pos rfl] at k; rw [if_neg e]; exact h
      · rw [if_neg f] at k
        simp at h k
        rw [if_neg (by omega)]; simp; omega
theorem lx_swo {α : Type} (k : α → List Int) : Swo (fun x y => HT.lexLt (k x) (k y)) := ⟨fun x y h => lx_asym _ _ h, fun x y z h1 h2 => lx_tr _ _ _ h1 h2⟩
/-! ### the machine compares tuples of ints -/
section
variable {prog : Program} {w : World} {A : Around} {E : Value → Shared → Prop} {s : Shared}
theorem lex_intsA {b : Bool} {Q : Bool → Shared → Prop} {xs ys : List Value} {ns ms : List Int} (i : Nat) (hx : IntsAre xs ns) (hy : IntsAre ys ms) (fin : Bool) (hf : fin = decide (ns.length < ms.length)) (h : Q (HT.lexLt ns ms) s) : PySem.W.KatLex prog w A b fin Q (xs.zip ys) i s := by
  induction hx generalizing ys ms i with
  | nil =>
    cases hy with
    | nil => subst hf; exact PySem.W.kat_nil h
    | cons q u hy => subst hf; exact PySem.W.kat_nil h
  | @cons p t xs ns hx ih =>
    cases hy with
    | nil => subst hf; exact PySem.W.kat_nil h
    | @cons q u ys ms hy =>
      show PySem.W.KatLex prog w A b fin Q ((Value.int p t, Value.int q u) :: xs.zip ys) i s
      rw [HT.lexLt_cons] at h
      refine PySem.W.kat_cons (wpAny_eqBool_int ?_)
      by_cases e : p = q
      · subst e
        rw [beq_self_eq_true]
        rw [if_pos rfl] at h
        exact PySem.W.kat_yes (ih (i + 1) hy (by rw [hf]; simp) h)
      · rw [show (p == q) = false from beq_eq_false_iff_ne.mpr e]
        rw [if_neg e] at h
        exact PySem.W.kat_no (TS.oneLt_ints _ h)
theorem call_tuple_ltI {l b : Addr} {items items2 : Array Value} {ns ms : List Int} {Q : Value → Shared → Prop} (hl : IsTup s.heap l items) (hb : IsTup s.heap b items2) (hi : IntsAre items.toList ns) (hj : IntsAre items2.toList ms) (h : Q (.bool (HT.lexLt ns ms)) s) :
    wpAny (model prog w) A (call (.builtin "tuple.__lt__") [.ref l, .ref b]) Q E s := by
  obtain ⟨⟨cls, dd, data, sl⟩, ho, hc, n, hd⟩ := id hl
  obtain ⟨⟨cls2, dd2, data2, sl2⟩, ho2, hc2, n2, hd2⟩ := id hb
  simp only at hc hd hc2 hd2
  subst hc hd hc2 hd2
  exact call_meets F.slot_tuple_lt ⟨_, ho, rfl⟩ F.entry_tuple_lt (F.args_tuple_lt_2 _ _) (HT.tuple_lt_ints l b items items2 n n2 dd dd2 sl sl2 ns ms hi hj) ⟨ho, ho2, h⟩
theorem oneLt_tups {f : Bool} {l b : Addr} {items items2 : Array Value} {ns ms : List Int} {Q : Bool → Shared → Prop} (hu : A.units < cLine) (hl : IsTup s.heap l items) (hb : IsTup s.heap b items2) (hi : IntsAre items.toList ns) (hj : IntsAre items2.toList ms) (h : Q (HT.lexLt ns ms) s) :
    wpAny (model prog w) A (oneLt' f (.ref l) (.ref b)) Q E s := by
  cases f with
  | false => exact PySem.W.kat_one _ _ (HT.lt_tupInts hl hb hi hj hu h)
  | true =>
    have hty : s.TypeIs (.ref l) "tuple" := by obtain ⟨o, ho, hc, _⟩ := hl; exact ⟨o, ho, hc⟩
    rw [oneLt'_eq]
    simp only [if_true]
    refine wpAny_bind (wpAny_cRoomFor hu ?_)
    refine wpAny_bind (wpAny_callSpecialIfBound?_slot (T := "tuple") hty F.slot_tuple_lt (call_tuple_ltI hl hb hi hj ?_))
    exact wpAny_truthy_bool h
theorem key_tups {p q : Value} {κ : SortKind} {ns ms : List Int} (hκ : κ = general' ∨ κ = oneType' ∨ ∃ b, κ = tuples' b) (hu : A.units < cLine) (hp : TS.TupInts s.heap p ns) (hq : TS.TupInts s.heap q ms) :
    wpAny (model prog w) A (keyLt' κ p q) (fun r s' => s' = s ∧ r = HT.lexLt ns ms) (fun _ _ => False) s := by
  obtain ⟨a, xs, rfl, h1, i1⟩ := hp
  obtain ⟨b, ys, rfl, h2, i2⟩ := hq
  rcases hκ with rfl | rfl | ⟨f, rfl⟩
  · exact oneLt_tups (f := false) hu h1 h2 i1 i2 ⟨rfl, rfl⟩
  · rw [keyLt'_oneType]
    exact oneLt_tups (f := true) hu h1 h2 i1 i2 ⟨rfl, rfl⟩
  · obtain ⟨o, ho, hc, n, hd⟩ := h1
    obtain ⟨o2, ho2, hc2, n2, hd2⟩ := h2
    have l1 := i1.length
    have l2 := i2.length
    rw [Array.length_toList] at l1 l2
    exact PySem.W.kat_lt ho hd ho2 hd2 (lex_intsA 0 i1 i2 _ (by rw [l1, l2]) ⟨rfl, rfl⟩)
/-- a tuple's first item -/
def fOf (h : Heap) (v : Value) : Option Value := match v with
  | .ref a => match h.get? a with
    | some o => (match o.data with | .seq xs _ => xs[0]? | _ => none)
    | none => none
  | _ => none
theorem looks_tup {M : Model} {v : Value} {ns : List Int} (h : TS.TupInts s.heap v ns) : PySem.W.Looks M s.heap (typeOf v) (.type "tuple") := by
  obtain ⟨a, xs, rfl, ⟨o, ho, hc, n, hd⟩, i⟩ := h
  rw [← hc]
  exact (PySem.W.Looks.ld ho).andThen .now
theorem firsts2 {M : Model} {k : Value → List Int} : ∀ (vs : List Value) {Q : List (Option Value) → Shared → Prop}, (∀ v ∈ vs, TS.TupInts s.heap v (k v)) → Q (vs.map (fOf s.heap)) s → wpAny M A (vs.mapM firstOfTuple') Q E s
  | [], _, _, h => by rw [List.mapM_nil]; exact wpAny_pure h
  | v :: vs, Q, t, h => by
    have hl := looks_tup (M := M) (t v (by simp))
    obtain ⟨a, xs, rfl, ⟨o, ho, hc, n, hd⟩, i⟩ := t v (by simp)
    rw [List.mapM_cons]
    refine wpAny_bind ?_
    rw [PySem.W.kas_first_eq]
    refine wpAny_bind (hl.here ?_)
    rw [if_neg (by first | decide | simp)]
    refine wpAny_bind (listItems_at ho hd (wpAny_pure ?_))
    have e : fOf s.heap (.ref a) = xs[0]? := by simp only [fOf, ho, hd]
    rw [List.map_cons, e] at h
    exact wpAny_bind (firsts2 vs (Q := fun bs s' => wpAny M A (pure (xs[0]? :: bs)) Q E s') (fun v hv => t v (by simp [hv])) (wpAny_pure h))
theorem fOf_some {v : Value} {ns : List Int} (h : TS.TupInts s.heap v ns) : (fOf s.heap v).isSome = !ns.isEmpty := by
  obtain ⟨a, xs, rfl, ⟨o, ho, hc, n, hd⟩, i⟩ := h
  have e : fOf s.heap (.ref a) = xs[0]? := by simp only [fOf, ho, hd]
  rw [e]
  have l := i.length
  rw [Array.length_toList] at l
  cases ns with
  | nil => rw [Array.getElem?_eq_none (by rw [l]; exact Nat.zero_le _)]; rfl
  | cons x xs => rw [Array.getElem?_eq_getElem (by rw [l]; exact Nat.succ_pos _)]; rfl
theorem firsts_int {k : Value → List Int} : ∀ vs : List Value, (∀ v ∈ vs, TS.TupInts s.heap v (k v)) → (∀ v ∈ vs, k v ≠ []) → ∃ fs, PySem.W.KatTups s.heap vs fs ∧ fs.length = vs.length ∧ ∀ f, f ∈ fs → ∃ n t, f = Value.int n t
  | [], _, _ => ⟨[], PySem.W.KatTups.nil, rfl, fun f hf => by simp at hf⟩
  | v :: vs, x, ne => by
    obtain ⟨fs, kk, hl, hi⟩ := firsts_int vs (fun u hu => x u (List.mem_cons_of_mem _ hu)) fun u hu => ne u (List.mem_cons_of_mem _ hu)
    obtain ⟨a, xs, rfl, ⟨o, ho, hc, n, hdt⟩, i⟩ := x v (List.mem_cons_self ..)
    have hne := ne _ (List.mem_cons_self ..)
    obtain ⟨y, ys, e⟩ : ∃ y ys, xs.toList = y :: ys := by
      cases q : xs.toList with
      | nil =>
        rw [q] at i
        cases hk : k (.ref a) with
        | nil => exact absurd hk hne
        | cons z zs => rw [hk] at i; cases i
      | cons y ys => exact ⟨y, ys, rfl⟩
    obtain ⟨m, t, hy⟩ := i.all y (by rw [e]; exact List.mem_cons_self ..)
    refine ⟨y :: fs, PySem.W.KatTups.cons ho hc hdt ?_ kk, by simp [hl], ?_⟩
    · have z := congrArg (fun l : List Value => l[0]?) e
      simpa using z
    · intro f hf
      rcases List.mem_cons.mp hf with rfl | hf
      · exact ⟨m, t, hy⟩
      · exact hi f hf
theorem kind_tupsA {vs : List Value} {k : Value → List Int} (h2 : 2 ≤ vs.length) (x : ∀ v ∈ vs, TS.TupInts s.heap v (k v)) : ∃ κ, (κ = general' ∨ κ = oneType' ∨ ∃ b, κ = tuples' b) ∧ ∀ (Q : SortKind → Shared → Prop) (E : Value → Shared → Prop), Q κ s → wpAny (model prog w) A (keyKind' vs.toArray) Q E s := by
  by_cases hall : ∀ v ∈ vs, k v ≠ []
  · obtain ⟨fs, t, hl, hi⟩ := firsts_int vs x hall
    refine ⟨tuples' (Value.type "int" != Value.type "tuple"), .inr (.inr ⟨_, rfl⟩), fun Q E h => ?_⟩
    refine PySem.W.kat_kind (T := Value.type "int") t (by omega) (fun f hf => ?_) rfl h
    obtain ⟨n, t, rfl⟩ := hi f hf
    exact PySem.W.Looks.of_pure rfl
  · have hno : ¬ (((vs.map (fOf s.heap)).toArray.all fun x => x.isSome) = true) := by
      intro z
      apply hall
      intro v hv e
      simp only [List.all_toArray, List.all_map, List.all_eq_true] at z
      have := z v hv
      simp only [Function.comp] at this
      rw [fOf_some (x v hv), e] at this
      cases this
    by_cases h0 : (((vs.map (fOf s.heap)).toArray[0]?).bind id).isSome = true
    · refine ⟨general', .inl rfl, fun Q E h => ?_⟩
      rw [keyKind'_eq, List.mapM_toArray, map_eq_pure_bind]
      refine wpAny_bind (wpAny_bind (firsts2 vs x (wpAny_pure ?_)))
      rw [if_neg hno, if_pos h0]
      exact wpAny_pure h
    · refine ⟨oneType', .inr (.inl rfl), fun Q E h => ?_⟩
      rw [keyKind'_eq, List.mapM_toArray, map_eq_pure_bind]
      refine wpAny_bind (wpAny_bind (firsts2 vs x (wpAny_pure ?_)))
      rw [if_neg hno, if_neg h0]
      rw [oneTypeOnly'_eq, List.mapM_toArray, map_eq_pure_bind]
      refine wpAny_bind (wpAny_bind (wpAny_bind (PySem.W.kas_mapM (r := Value.type "tuple") _ (fun v hv Q' hq => (looks_tup (x v hv)).here hq) (wpAny_pure ?_))))
      have hall2 : ((List.map (fun _ => Value.type "tuple") vs).toArray.all fun x => x == Value.type "tuple") = true := by
        simp only [List.all_toArray, List.all_map, List.all_eq_true]
        intro _ _
        rfl
      have h0' : (List.map (fun _ => Value.type "tuple") vs).toArray[0]? = some (Value.type "tuple") := by
        obtain ⟨v, r, rfl⟩ : ∃ v r, vs = v :: r := by
          match vs, h2 with
          | v :: r, _ => exact ⟨v, r, rfl⟩
        simp
      rw [h0']
      simp only [hall2, if_true]
      exact wpAny_pure (wpAny_pure h)
theorem tups_sortableO {a : Addr} {vs : List Value} {k : Value → List Int} (h2 : 2 ≤ vs.length) (hu : A.units < cLine) (x : ∀ v ∈ vs, TS.TupInts s.heap v (k v)) (ha : ∀ o, s.heap.get? a = some o → o.cls ≠ .type "tuple") : SortableO prog w A s a vs (fun v u => HT.lexLt (k v) (k u)) := by
  intro h' keep
  have x' : ∀ v ∈ vs, TS.TupInts h' v (k v) := fun v hv => (x v hv).keeps fun b o e hc => keep b o (fun z => by subst z; exact ha o e hc) e
  obtain ⟨κ, hκ, hk⟩ := kind_tupsA (prog := prog) (w := w) (A := A) (s := { s with heap := h' }) h2 x'
  refine ⟨κ, hk, fun p q hp hq => ?_⟩
  exact key_tups (s := { s with heap := h' }) hκ hu (x' _ hp) (x' _ hq)
theorem sorted_tupsO {l : Addr} {vs : List Value} {k : Value → List Int} {Q : Value → Shared → Prop} (hu : A.units + 2 < cLine) (hl : s.heap.IsList l vs.toArray) (hz : vs.length ≤ sizeLine) (x : ∀ v ∈ vs, TS.TupInts s.heap v (k v))
    (h : ∀ (h' : Heap) (d : Addr) (out : List Value), out.Perm vs → (out.map k).Pairwise (fun a b => HT.lexLt b a = false) → (∀ b o, s.heap.get? b = some o → h'.get? b = some o) → s.heap.objs.size ≤ d → (∃ n, h'.get? d = some (seqObj "list" out.toArray n)) → Q (.ref d) { s with heap := h' }) :
    wpAny (model prog w) A (call (.builtin "sorted") [.ref l]) Q E s := by
  refine sorted_ord (lx_swo k) hl hz (fun h2 h₁ a ha kk => ?_) fun out hs hb => ?_
  · refine tups_sortableO (s := { s with heap := h₁ }) h2 hu (fun v hm => (x v hm).keeps fun b o e _ => (kk b o e).2) fun o e => ?_
    have e' : some o = some (seqObj "list" vs.toArray 0) := e.symm.trans ha
    cases e'
    intro c
    exact absurd (Value.type.inj c) (by decide)
  · refine h _ _ out hb.perm ?_ (fun b o e => PyProof.Rows.sortedAll_old e) (Nat.le_succ _) (PyProof.Rows.sortedAll_at s.heap vs out.toArray)
    rw [List.pairwise_map]
    exact hs
end
/-! ### sorted of a list of tuples of ints, as a rule -/
def numV : V → Int
  | .int i => i
  | _ => 0
def intsV (H : Hp) : V → List Int
  | .ref t => (match H t with | some (.tup us) => us.map numV | _ => [])
  | _ => []
theorem numV_map (ns : List Int) : (ns.map V.int).map numV = ns := by rw [List.map_map]; exact List.map_id' ns
theorem intsV_eq {H : Hp} {t : Addr} {ns : List Int} (h : H t = some (.tup (ns.map V.int))) : intsV H (.ref t) = ns := by simp only [intsV, h, numV_map]
section
variable {X : Cx} {XP : Wish} {k : Nat}
def rSortedTs (K : PySem.W.Frag) : List V → Hp → VK → Prop := fun vs H Q => ∃ (a : Addr) (xs : List V), vs = [V.ref a] ∧ SqL K H a xs ∧ (∀ x ∈ xs, ∃ (t : Addr) (ns : List Int), x = V.ref t ∧ H t = some (.tup (ns.map V.int))) ∧
  ∀ ys p, ys.Perm xs → (ys.map (intsV H)).Pairwise (fun a b => HT.lexLt b a = false) → H p = none → Q (.ref p) (upd H p (.lst ys))
theorem cr_sortedTs (hu : X.A.units + 2 < cLine) : CallR X (.builtin "sorted") (rSortedTs X.K) := by
  intro pins s σ H vs us Q I r h
  obtain ⟨a, xs, rfl, hs, hx, q⟩ := h
  obtain ⟨its, rv, hl, hz⟩ := I.list hs
  obtain ⟨u, rfl, ru⟩ := vals1 r
  obtain rfl : u = Value.ref a := ru
  obtain ⟨e1, e2⟩ := refs_back rv fun x m => by
    obtain ⟨t, ns, e, _⟩ := hx x m
    exact ⟨t, e⟩
  refine sorted_tupsO (k := fun u => intsV H (backV u)) hu hl.isList (by rw [← rv.length]; exact hz) (fun v hv => ?_) fun h' d out h1 h2 kp hd hn => ?_
  · obtain ⟨t, rfl⟩ := e2 v hv
    have hm : V.ref t ∈ xs := by rw [e1]; exact List.mem_map.mpr ⟨_, hv, rfl⟩
    obtain ⟨t', ns, e, ht⟩ := hx _ hm
    cases e
    obtain ⟨_, its2, r2, o, ho, hc, n, hd⟩ := I.hok _ _ ht
    show TS.TupInts s.heap (.ref t) (intsV H (.ref t))
    rw [intsV_eq ht]
    exact ⟨t, its2.toArray, rfl, ⟨o, ho, hc, n, hd⟩, intsAre_of r2⟩
  · have h3 : ∀ u ∈ out, ∃ a, u = Value.ref a := fun u hu => e2 u (h1.mem_iff.mp hu)
    obtain ⟨n, hn⟩ := hn
    have hb : (out.map backV).Perm xs := by rw [e1]; exact h1.map backV
    refine ⟨.ref d, upd H d (.lst (out.map backV)), I.laid (t' := s.toks) kp hd ⟨?_, out, n, vals_back h3, hn⟩, rfl, q _ d hb ?_ (I.hok.fresh hd)⟩
    · rw [hb.length_eq]; exact hz
    · rw [List.map_map]; exact h2
def leL (a b : List Int) : Bool := !HT.lexLt b a
theorem leL_sorted (nss : List (List Int)) : (nss.mergeSort leL).Pairwise (fun a b => HT.lexLt b a = false) := by
  have := List.pairwise_mergeSort (le := leL) (fun a b c h k => by unfold leL at *; simp at *; exact lx_tr _ _ _ h k) (fun a b => by
    unfold leL
    cases h : HT.lexLt b a with
    | false => simp
    | true => simp [lx_asym _ _ h]) nss
  exact this.imp fun h => by unfold leL at h; simpa using h
theorem sortL_is {ys nss : List (List Int)} (h1 : ys.Perm nss) (h2 : ys.Pairwise (fun a b => HT.lexLt b a = false)) : ys = nss.mergeSort leL := by
  refine (h1.trans (List.mergeSort_perm nss leL).symm).eq_of_pairwise (le := fun a b => HT.lexLt b a = false) (fun a b _ _ h k => lx_tot a b k h) h2 (leL_sorted nss)
def tsW : List W → Option (List (List Int))
  | [] => some []
  | .tup ws :: r => (match intsW ws, tsW r with | some ns, some q => some (ns :: q) | _, _ => none)
  | _ => none
abbrev tupsW (nss : List (List Int)) : List W := nss.map fun ns => .tup (ns.map W.int)
theorem tsW_map (nss : List (List Int)) : tsW (tupsW nss) = some nss := by
  induction nss with
  | nil => rfl
  | cons x xs ih => simp only [tupsW, List.map_cons, tsW, intsW_map]; rw [ih]
theorem vrs_intsL {K : Fg} {ρ : List Addr} {H : Hp} : ∀ (ns : List Int), VRs K ρ H (ns.map W.int) (ns.map V.int)
  | [] => .nil
  | n :: ns => .cons (.int n) (vrs_intsL ns)
theorem tsW_ok {K : Fg} {ρ : List Addr} {H : Hp} : ∀ {ws : List W} {vs : List V} {nss : List (List Int)}, VRs K ρ H ws vs → tsW ws = some nss → (∀ x ∈ vs, ∃ (t : Addr) (ns : List Int), x = V.ref t ∧ H t = some (.tup (ns.map V.int))) ∧ vs.map (intsV H) = nss
  | _, _, _, .nil, h => by cases h; exact ⟨by simp, rfl⟩
  | w :: ws, v :: vs, nss, .cons r rr, h => by
    cases r with
    | tup h1 h2 =>
      simp only [tsW] at h
      split at h
      · rename_i ns q e1 e2
        cases h
        obtain ⟨a, b⟩ := tsW_ok rr e2
        have e := intsW_ok h2 e1
        subst e
        refine ⟨fun x hx => ?_, ?_⟩
        · rcases List.mem_cons.mp hx with rfl | hx
          · exact ⟨_, ns, rfl, h1⟩
          · exact a x hx
        · rw [List.map_cons, b, intsV_eq h1]
      · cases h
    | _ => cases h
theorem vrs_back {K : Fg} {ρ : List Addr} {H : Hp} : ∀ (ys : List V), (∀ x ∈ ys, ∃ (t : Addr) (ns : List Int), x = V.ref t ∧ H t = some (.tup (ns.map V.int))) → VRs K ρ H (tupsW (ys.map (intsV H))) ys
  | [], _ => .nil
  | y :: ys, h => by
    obtain ⟨t, ns, rfl, ht⟩ := h y (by simp)
    rw [List.map_cons]
    refine .cons (.tup ht ?_) (vrs_back ys fun x hx => h x (by simp [hx]))
    rw [intsV_eq ht]
    exact vrs_intsL ns
def sortedLW : GCall := fun G ws => match ws with
  | [.ref n] => (match rdL G n with | some xs => (match tsW xs with | some nss => .ok (.ref G.length) (G ++ [.lst (tupsW (nss.mergeSort leL))]) | none => .no) | none => .no)
  | _ => .no
theorem cg_sortedL (c : GC X XP k) : CaG X XP (.builtin "sorted") sortedLW := by
  refine ⟨_, cr_sortedTs (by have := c.room.room.un; omega), fun ρ G σ H ws vs Q s r o => ?_⟩
  unfold sortedLW at o
  split at o
  · cases r with
    | cons r rr =>
      cases rr
      cases r with
      | ref hn =>
        split at o
        · rename_i xs hx
          split at o
          · rename_i nss hi
            obtain ⟨us, q1, q2⟩ := rdL_ok s hn hx
            obtain ⟨a, b⟩ := tsW_ok q2 hi
            refine ⟨_, us, rfl, q1, a, fun ys p h1 h2 hp => ?_⟩
            have hy : ∀ x ∈ ys, ∃ (t : Addr) (ns : List Int), x = V.ref t ∧ H t = some (.tup (ns.map V.int)) := fun x hx => a x (h1.mem_iff.mp hx)
            have e : ys.map (intsV H) = nss.mergeSort leL := sortL_is (by rw [← b]; exact h1.map _) h2
            have := vrs_back (K := X.K) (ρ := ρ) ys hy
            rw [e] at this
            exact out_lst o s this hp
          · exact o.elim
        · exact o.elim
  · exact o.elim
theorem e_sortL {G : Cells} {n : Nat} {nss : List (List Int)} (h : G[n]? = some (.lst (tupsW nss))) : sortedLW G [.ref n] = .ok (.ref G.length) (G ++ [.lst (tupsW (nss.mergeSort leL))]) := by
  unfold sortedLW
  simp only [rdL_lst h, tsW_map]
end
end PL
/- part PLJ -/
set_option maxHeartbeats 4000000
namespace PL
open PySem PySem.Spec PyProof.Rows L2
section
variable {X : Cx} {XP : Wish} {pos : Pos}
/-! ### comprehensions with two fors -/
def rdI (K : Fg) (XP : Wish) (m : MI) : TI := fun σ H R => ∃ ρ E G, ER K ρ H E σ ∧ SR K ρ G H ∧ Out K XP (ItR K) σ ρ H (m E G) R
theorem HI.rd {tg iter : Expr} {m : MI} (h : HI X XP tg iter m) : PI X tg iter (rdI X.K XP m) := by
  obtain ⟨wi, h1, h2⟩ := h.ex
  exact ⟨fun pins s σ H R I ⟨ρ, E, G, er, sr, q⟩ => h1.run pins s σ H R I (h2 ρ E G σ H R er sr q)⟩
def lcL2 (pit : PIt) (g : MG) (t : MT) (mi1 : MI) (g1 : MG) (t1 : MT) (m : ME) (vs1 : List Nat) (n : Nat) (E : PEnv) : Nat → Nat → Cells → Option Cells
  | fuel, i, G => match pit.at G i with
    | none => none
    | some none => some G
    | some (some w) => match fuel with
      | 0 => none
      | k + 1 => match g w E G with
        | .ok E1 G1 => (match t E1 G1 with
          | .ok true G2 => (match mi1 E1 G2 with
            | .ok pit1 G3 => (match lcL pit1 g1 t1 m n (wipeE E1 vs1) (pit1.len G3) 0 G3 with
              | some G4 => lcL2 pit g t mi1 g1 t1 m vs1 n E k (i + 1) G4
              | none => none)
            | _ => none)
          | .ok false G2 => lcL2 pit g t mi1 g1 t1 m vs1 n E k (i + 1) G2
          | _ => none)
        | _ => none
@[irreducible] def mLc2 (mi : MI) (g : MG) (t : MT) (mi1 : MI) (g1 : MG) (t1 : MT) (m : ME) (vs vs1 : List Nat) : ME := fun E G => (mi E G).bind fun pit G1 =>
  match lcL2 pit g t mi1 g1 t1 m vs1 G1.length (wipeE E vs) (pit.len G1) 0 (G1 ++ [.lst []]) with
  | some G2 => .ok (.ref G1.length) G2
  | none => .no
/-- the inner loop -/
theorem lc_inner {ρ0 : List Addr} {H0 : Hp} {pit1 : PIt} {J1 : It} {g1 : MG} {t1 : MT} {m : ME} {vs1 sl1 : List Nat} {E1 : PEnv} {σ2 : St} {n : Nat} {D : Addr} {Nx : Hp → Prop} {G4 : Cells} (hsl1 : ∀ i ∈ sl1, i ∈ vs1)
    (er : ER X.K ρ0 H0 E1 σ2) (r1 : ItR X.K ρ0 H0 pit1 J1) (hn : ρ0[n]? = some D)
    (hP : ∀ ρ' H', Ext X.K ρ0 H0 ρ' H' → SR X.K ρ' G4 H' → Nx H') {fuel : Nat} {G : Cells} (hl : lcL pit1 g1 t1 m n (wipeE E1 vs1) fuel 0 G = some G4) (s : SR X.K ρ0 G H0) :
    ∃ W1 : Nat → Nat → Hp → Prop, (∃ k, W1 0 k H0) ∧ ∀ j k H, W1 j k H →
      (J1.stop j H ∧ Nx H) ∨ (J1.go j H ∧ ∃ Nx1 : Hp → Prop, (∀ H', Nx1 H' → ∃ k', k' < k ∧ W1 (j + 1) k' H') ∧ ∀ x H', J1.yld j H x H' → rdG X.K noX sl1 g1 x (L2.wipe σ2 vs1) H' fun σ3 H5 => L2.wipe σ3 vs1 = L2.wipe σ2 vs1 ∧ rdT X.K noX t1 σ3 H5 fun b H6 =>
        if b = true then rdE X.K noX m σ3 H6 fun y H7 => ∃ acc, H7 D = some (.lst acc) ∧ acc.length < sizeLine ∧ Nx1 (upd H7 D (.lst (acc ++ [y]))) else Nx1 H6) := by
  refine ⟨fun j k H' => ∃ ρ' G', Ext X.K ρ0 H0 ρ' H' ∧ SR X.K ρ' G' H' ∧ lcL pit1 g1 t1 m n (wipeE E1 vs1) k j G' = some G4, ⟨fuel, ρ0, G, .refl, s, hl⟩, ?_⟩
  rintro i k H' ⟨ρ', G', ex, s', hl⟩
  obtain ⟨hstop, hgo⟩ := r1 ρ' G' H' ex s' i
  have hn' := ex.rho _ _ hn
  unfold lcL at hl
  split at hl
  · cases hl
  · rename_i ha
    cases hl
    exact .inl ⟨hstop ha, hP ρ' H' ex s'⟩
  · rename_i w ha
    obtain ⟨go, hy⟩ := hgo w ha
    split at hl
    · cases hl
    · rename_i k0
      refine .inr ⟨go, fun H2 => ∃ ρ2 G3, Ext X.K ρ0 H0 ρ2 H2 ∧ SR X.K ρ2 G3 H2 ∧ lcL pit1 g1 t1 m n (wipeE E1 vs1) k0 (i + 1) G3 = some G4, fun H2 h => ⟨k0, Nat.lt_succ_self _, h⟩, fun x H2 y => ?_⟩
      obtain ⟨y1, y2, y3⟩ := hy x H2 y
      have erw : ER X.K ρ' H2 (wipeE E1 vs1) (L2.wipe σ2 vs1) := ((er.mono (ex.trans y1)).wipe vs1)
      refine ⟨ρ', w, wipeE E1 vs1, G', y3, erw, y2, ?_⟩
      split at hl
      · rename_i E2 G3 hg
        rw [hg]
        intro ρ3 H3 σ3 e3 s3 r3
        refine ⟨wipe_again ?_ r3.2.2 hsl1, ρ3, E2, G3, r3.1, s3, ?_⟩
        · rw [r3.2.1, L2.wipe_length]
        · split at hl
          · rename_i G5 ht
            rw [ht]
            intro ρ4 H4 b e4 s4 hb
            cases hb
            rw [if_pos rfl]
            refine ⟨ρ4, E2, G5, r3.1.mono e4, s4, ?_⟩
            split at hl
            · rename_i yw G6 hm
              rw [hm]
              intro ρ5 H5 v e5 s5 r5
              have ext5 : Ext X.K ρ' H' ρ5 H5 := y1.trans (e3.trans (e4.trans e5))
              have hn5 := ext5.rho _ _ hn'
              split at hl
              · rename_i acc hc
                split at hl
                · rename_i hz
                  obtain ⟨us, q1, q2⟩ := cell_lst s5 hn5 hc
                  have exw : Ext X.K ρ5 H5 ρ5 (upd H5 D (.lst (us ++ [v]))) := s5.ext_write hc hn5 rfl
                  exact ⟨us, q1, by rw [← q2.length]; exact hz, ρ5, _, (ex.trans ext5).trans exw, s5.write (c' := .lst (acc ++ [yw])) hc hn5 rfl rfl ⟨us ++ [v], upd_same, (q2.mono exw).append (.cons (r5.mono exw) .nil)⟩, hl⟩
                · cases hl
              · cases hl
            · cases hl
          · rename_i G5 ht
            rw [ht]
            intro ρ4 H4 b e4 s4 hb
            cases hb
            rw [if_neg Bool.false_ne_true]
            exact ⟨ρ4, G5, ex.trans (y1.trans (e3.trans e4)), s4, hl⟩
          · cases hl
      · cases hl
theorem lc2_run {wi : TI} {mi mi1 : MI} {g g1 : MG} {t t1 : MT} {m : ME} {vs vs1 sl sl1 : List Nat} (hsl : ∀ i ∈ sl, i ∈ vs) (hsl1 : ∀ i ∈ sl1, i ∈ vs1)
    (i2 : ∀ ρ E G σ H R, ER X.K ρ H E σ → SR X.K ρ G H → Out X.K XP (ItR X.K) σ ρ H (mi E G) R → wi σ H R) :
    ∀ ρ E G σ H Q, ER X.K ρ H E σ → SR X.K ρ G H → Out X.K XP (VR X.K) σ ρ H (mLc2 mi g t mi1 g1 t1 m vs vs1 E G) Q → tLc2 wi (rdG X.K noX sl g) (rdT X.K noX t) (rdI X.K noX mi1) (rdG X.K noX sl1 g1) (rdT X.K noX t1) (rdE X.K noX m) vs vs1 σ H Q := by
  intro ρ E G σ H Q er sr q
  unfold mLc2 at q
  refine i2 ρ E G σ H _ er sr (q.bind fun pit G1 ρ1 H1 J e1 s1 r1 k1 => ?_)
  intro D hD
  have hcell : CR X.K (ρ1 ++ [D]) (upd H1 D (.lst [])) (.lst []) D := ⟨[], upd_same, .nil⟩
  have sA := s1.alloc hD hcell
  have eA : Ext X.K ρ1 H1 (ρ1 ++ [D]) (upd H1 D (.lst [])) := ext_alloc hD
  have hn : (ρ1 ++ [D])[G1.length]? = some D := by rw [← s1.len]; exact last_get _ _
  refine ⟨fun i k H' => ∃ ρ' G', Ext X.K (ρ1 ++ [D]) (upd H1 D (.lst [])) ρ' H' ∧ SR X.K ρ' G' H' ∧ ∃ G2, lcL2 pit g t mi1 g1 t1 m vs1 G1.length (wipeE E vs) k i G' = some G2 ∧ Out X.K XP (VR X.K) σ ρ' H' (.ok (.ref G1.length) G2) Q, ?_, ?_⟩
  · cases hr : lcL2 pit g t mi1 g1 t1 m vs1 G1.length (wipeE E vs) (pit.len G1) 0 (G1 ++ [.lst []]) with
    | none => rw [hr] at k1; exact k1.elim
    | some G2 => rw [hr] at k1; exact ⟨_, ρ1 ++ [D], G1 ++ [.lst []], .refl, sA, G2, hr, Out.mono k1 eA⟩
  · rintro i k H' ⟨ρ', G', ex, s', G2, hl, o⟩
    obtain ⟨hstop, hgo⟩ := r1 ρ' G' H' (eA.trans ex) s' i
    have hn' := ex.rho _ _ hn
    unfold lcL2 at hl
    split at hl
    · cases hl
    · rename_i ha
      cases hl
      exact .inl ⟨hstop ha, o.ok s' (.ref hn')⟩
    · rename_i w ha
      obtain ⟨go, hy⟩ := hgo w ha
      split at hl
      · cases hl
      · rename_i k0
        refine .inr ⟨go, fun H2 => ∃ ρ2 G3, Ext X.K (ρ1 ++ [D]) (upd H1 D (.lst [])) ρ2 H2 ∧ SR X.K ρ2 G3 H2 ∧ ∃ G2, lcL2 pit g t mi1 g1 t1 m vs1 G1.length (wipeE E vs) k0 (i + 1) G3 = some G2 ∧ Out X.K XP (VR X.K) σ ρ2 H2 (.ok (.ref G1.length) G2) Q, fun H2 h => ⟨k0, Nat.lt_succ_self _, h⟩, fun x H2 y => ?_⟩
        obtain ⟨y1, y2, y3⟩ := hy x H2 y
        have erw : ER X.K ρ' H2 (wipeE E vs) (L2.wipe σ vs) := ((er.mono (e1.trans (eA.trans (ex.trans y1)))).wipe vs)
        refine ⟨ρ', w, wipeE E vs, G', y3, erw, y2, ?_⟩
        split at hl
        · rename_i E1 G3 hg
          rw [hg]
          intro ρ3 H3 σ3 e3 s3 r3
          refine ⟨wipe_again ?_ r3.2.2 hsl, ρ3, E1, G3, r3.1, s3, ?_⟩
          · rw [r3.2.1, L2.wipe_length]
          · split at hl
            · rename_i G4 ht
              rw [ht]
              intro ρ4 H4 b e4 s4 hb
              cases hb
              rw [if_pos rfl]
              refine ⟨ρ4, E1, G4, r3.1.mono e4, s4, ?_⟩
              split at hl
              · rename_i pit1 G5 hm
                rw [hm]
                intro ρ5 H5 J1 e5 s5 r5
                have ext5 : Ext X.K ρ' H' ρ5 H5 := y1.trans (e3.trans (e4.trans e5))
                have hn5 := ext5.rho _ _ hn'
                split at hl
                · rename_i G6 hin
                  exact lc_inner hsl1 (r3.1.mono (e4.trans e5)) r5 hn5 (fun ρ6 H6 e6 s6 => ⟨ρ6, G6, (ex.trans ext5).trans e6, s6, G2, hl, Out.mono o (ext5.trans e6)⟩) hin s5
                · cases hl
              · cases hl
            · rename_i G4 ht
              rw [ht]
              intro ρ4 H4 b e4 s4 hb
              cases hb
              rw [if_neg Bool.false_ne_true]
              have ext4 : Ext X.K ρ' H' ρ4 H4 := y1.trans (e3.trans e4)
              exact ⟨ρ4, G4, ex.trans ext4, s4, G2, hl, Out.mono o ext4⟩
            · cases hl
        · cases hl
theorem he_lc2 {elt tg iter tg1 iter1 : Expr} {ifs ifs1 : List Expr} {scope : Scope} {own : List (Str × Nat)} {vs1 : List Nat} {mi mi1 : MI} {g g1 : MG} {t t1 : MT} {m : ME} {sl sl1 : List Nat} {k : Nat} (c : GC X XP k) (hi : HI X XP tg iter mi) (ok : blkC X.N X.env.scope scope own = true)
    (hg : ∀ (s : Shared) (H : Hp) (C : Addr) (cl : List (Str × Addr)) (fp : List Addr), HG (X.blk s H scope (compEnvC scope cl C X.env) fp) noX tg sl g)
    (ht : ∀ (s : Shared) (H : Hp) (C : Addr) (cl : List (Str × Addr)) (fp : List Addr), HTs (X.blk s H scope (compEnvC scope cl C X.env) fp) noX ifs t)
    (hi1 : ∀ (s : Shared) (H : Hp) (C : Addr) (cl : List (Str × Addr)) (fp : List Addr), HI (X.blk s H scope (compEnvC scope cl C X.env) fp) noX tg1 iter1 mi1)
    (hg1 : ∀ (s : Shared) (H : Hp) (C : Addr) (cl : List (Str × Addr)) (fp : List Addr), HG (X.blk s H scope (compEnvC scope cl C X.env) fp) noX tg1 sl1 g1)
    (ht1 : ∀ (s : Shared) (H : Hp) (C : Addr) (cl : List (Str × Addr)) (fp : List Addr), HTs (X.blk s H scope (compEnvC scope cl C X.env) fp) noX ifs1 t1)
    (he : ∀ (s : Shared) (H : Hp) (C : Addr) (cl : List (Str × Addr)) (fp : List Addr), HE (X.blk s H scope (compEnvC scope cl C X.env) fp) noX elt m)
    (hsl : (sl.all fun i => (own.map (·.2)).contains i) = true := by rfl) (hsl1 : (sl1.all fun i => vs1.contains i) = true := by rfl) (hv : (vs1.all fun i => (own.map (·.2)).contains i) = true := by rfl)
    (hs : ∀ x, foldedSetIterable iter X.env x = pure x := by intro _; rfl) (hs1 : ∀ env x, foldedSetIterable iter1 env x = pure x := by intro _ _; rfl) :
    HE X XP (.ListComp elt [⟨tg, iter, ifs, 0⟩, ⟨tg1, iter1, ifs1, 0⟩] scope pos) (mLc2 mi g t mi1 g1 t1 m (own.map (·.2)) vs1) := by
  obtain ⟨wi, i1, i2⟩ := hi.ex
  have hsl' : ∀ i ∈ sl, i ∈ own.map (·.2) := fun i h => by simpa using List.all_eq_true.mp hsl i h
  have hsl1' : ∀ i ∈ sl1, i ∈ vs1 := fun i h => by simpa using List.all_eq_true.mp hsl1 i h
  have hv' : ∀ i ∈ vs1, i ∈ own.map (·.2) := fun i h => by simpa using List.all_eq_true.mp hv i h
  exact ⟨_, pe_lc2 c.calm c.nd i1 (blkOk_by ok) hv' (fun s H C cl fp => (hg s H C cl fp).rd) (fun s H C cl fp => (ht s H C cl fp).rd) (fun s H C cl fp => (hi1 s H C cl fp).rd) (fun s H C cl fp => (hg1 s H C cl fp).rd) (fun s H C cl fp => (ht1 s H C cl fp).rd) (fun s H C cl fp => (he s H C cl fp).rd) hs hs1, lc2_run hsl' hsl1' i2⟩
end
end PL
/- part PLK -/
set_option maxHeartbeats 1000000
namespace PL
open PySem PySem.Spec PyProof.Rows L2
section
theorem take1 {α : Type} {xs : List α} {i : Nat} {w : α} (h : xs[i]? = some w) : xs.take (i + 1) = xs.take i ++ [w] := by rw [List.take_succ, h]; rfl
theorem lcL2_sat {pit : PIt} {g : MG} {t : MT} {mi1 : MI} {g1 : MG} {t1 : MT} {m : ME} {vs1 : List Nat} {n : Nat} {E : PEnv} {xs : List W} {J : Nat → List W → Cells → Prop}
    (hat : ∀ i acc G, J i acc G → G[n]? = some (.lst acc) → pit.at G i = some xs[i]?)
    (hstep : ∀ i w acc G, xs[i]? = some w → J i acc G → G[n]? = some (.lst acc) → (g w E G).sat fun E1 G1 => (t E1 G1).sat fun k G2 => if k = true then (mi1 E1 G2).sat fun pit1 G3 => ∃ G4 acc', lcL pit1 g1 t1 m n (wipeE E1 vs1) (pit1.len G3) 0 G3 = some G4 ∧ G4[n]? = some (.lst acc') ∧ J (i + 1) acc' G4 else G2[n]? = some (.lst acc) ∧ J (i + 1) acc G2) :
    ∀ k i acc G, J i acc G → G[n]? = some (.lst acc) → i + k = xs.length → ∃ G' acc', lcL2 pit g t mi1 g1 t1 m vs1 n E k i G = some G' ∧ G'[n]? = some (.lst acc') ∧ J xs.length acc' G' := by
  intro k
  induction k with
  | zero =>
    intro i acc G h hn e
    have q := hat i acc G h hn
    have hx : xs[i]? = none := List.getElem?_eq_none_iff.mpr (by omega)
    rw [hx] at q
    unfold lcL2
    rw [q]
    have : i = xs.length := by omega
    subst this
    exact ⟨G, acc, rfl, hn, h⟩
  | succ k ih =>
    intro i acc G h hn e
    have q := hat i acc G h hn
    have hi : i < xs.length := by omega
    have hx : xs[i]? = some xs[i] := List.getElem?_eq_getElem hi
    rw [hx] at q
    unfold lcL2
    rw [q]
    simp only
    obtain ⟨E1, G1, e1, h1⟩ := (hstep i _ acc G hx h hn).get
    rw [e1]
    obtain ⟨b, G2, e2, h2⟩ := h1.get
    simp only [e2]
    cases b with
    | true =>
      rw [if_pos rfl] at h2
      obtain ⟨pit1, G3, e3, G4, acc', h3, h4, h5⟩ := h2.get
      simp only [e3, h3]
      exact ih (i + 1) _ _ h5 h4 (by omega)
    | false =>
      simp only [Bool.false_eq_true, if_false] at h2
      exact ih (i + 1) _ _ h2.2 h2.1 (by omega)
/-- two fors that write only new cells -/
theorem lc2_pure {mi mi1 : MI} {g g1 : MG} {t t1 : MT} {m : ME} {vs vs1 : List Nat} {E : PEnv} {G : Cells} {Q : W → Cells → Prop} (xs : List W) (ys : W → List W) (f : W → W → Option W)
    (h : (mi E G).sat fun pit G1 => Fr [] G G1 ∧ ItOk [] pit G1 xs) (hb : xs.length ≤ 300) (hb2 : ∀ x, (ys x).length ≤ 300)
    (hs : ∀ (i n : Nat) w G', xs[i]? = some w → G.length ≤ n → n < G'.length → Fr [] G G' → (g w (wipeE E vs) G').sat fun E1 G2 => (t E1 G2).sat fun k G3 =>
      if k = true then (mi1 E1 G3).sat fun pit1 G4 => Fr [] G' G4 ∧ ItOk [n] pit1 G4 (ys w) ∧ ∀ (j : Nat) u G5, (ys w)[j]? = some u → Fr [n] G4 G5 → Fr [] G G5 → (g1 u (wipeE E1 vs1) G5).sat fun E2 G6 => (t1 E2 G6).sat fun k G7 => if k = true then (m E2 G7).sat fun y G8 => f w u = some y ∧ Fr [] G5 G8 else f w u = none ∧ Fr [] G5 G7
      else ys w = [] ∧ Fr [] G' G3)
    (hq : ∀ n G', Fr [] G G' → G.length ≤ n → G'[n]? = some (.lst (xs.flatMap fun x => (ys x).filterMap (f x))) → Q (.ref n) G') : (mLc2 mi g t mi1 g1 t1 m vs vs1 E G).sat Q := by
  unfold mLc2
  refine h.bind fun pit G1 q => ?_
  obtain ⟨f1, it⟩ := q
  have hl1 := f1.1
  have key : ∀ {G' : Cells}, Fr [G1.length] (G1 ++ [.lst []]) G' → Fr [] G G' := fun fr => (f1.trans Fr.push).fresh (n := G1.length) hl1 fr
  have hq2 : ∃ G' acc', lcL2 pit g t mi1 g1 t1 m vs1 G1.length (wipeE E vs) (pit.len G1) 0 (G1 ++ [.lst []]) = some G' ∧ G'[G1.length]? = some (.lst acc') ∧ acc' = (xs.take xs.length).flatMap (fun x => (ys x).filterMap (f x)) ∧ acc'.length ≤ 300 * xs.length ∧ Fr [G1.length] (G1 ++ [.lst []]) G' := ?main
  case main =>
   refine lcL2_sat (pit := pit) (g := g) (t := t) (mi1 := mi1) (g1 := g1) (t1 := t1) (m := m) (vs1 := vs1) (n := G1.length) (E := wipeE E vs) (xs := xs) (J := fun i acc G' => acc = (xs.take i).flatMap (fun x => (ys x).filterMap (f x)) ∧ acc.length ≤ 300 * i ∧ Fr [G1.length] (G1 ++ [.lst []]) G')
    (fun i acc G' q hn => it.at' _ _ ((Fr.push (S := [])).fresh (Nat.le_refl _) q.2.2))
    (fun i w acc G' hw q hn => ?_) (pit.len G1) 0 [] (G1 ++ [.lst []]) ⟨by simp, by simp, Fr.refl⟩ (push_get _ _) (by rw [it.len]; omega)
   obtain ⟨q1, q2, q3⟩ := q
   have hnl := lt_of_get hn
   refine (hs i G1.length w G' hw hl1 hnl (key q3)).mono fun E1 G2 r1 => r1.mono fun k G3 r2 => ?_
   have ht := take1 hw
   have hi : i < xs.length := (List.getElem?_eq_some_iff.mp hw).1
   cases k with
   | false =>
     simp only [Bool.false_eq_true, if_false] at r2 ⊢
     refine ⟨r2.2.get hn (by simp), ?_, by omega, q3.trans (r2.2.sub (by simp))⟩
     rw [ht, List.flatMap_append, ← q1]
     simp [r2.1]
   | true =>
     rw [if_pos rfl] at r2 ⊢
     refine r2.mono fun pit1 G4 r3 => ?_
     obtain ⟨f4, it1, hin⟩ := r3
     have hn4 := f4.get hn (by simp)
     have hyl := hb2 w
     obtain ⟨G5, acc5, l1, l2, l3, l4, l5⟩ := lcL_sat (pit := pit1) (g := g1) (t := t1) (m := m) (n := G1.length) (E := wipeE E1 vs1) (xs := ys w) (J := fun j acc5 G5 => acc5 = acc ++ ((ys w).take j).filterMap (f w) ∧ acc5.length ≤ 300 * i + j ∧ Fr [G1.length] G4 G5)
       (fun j acc5 G5 z hz => it1.at' _ _ z.2.2)
       (fun j u acc5 G5 hu z hz => by
         obtain ⟨z1, z2, z3⟩ := z
         have f5 : Fr [] G G5 := key (q3.trans ((f4.sub (by simp)).trans z3))
         have hj : j < (ys w).length := (List.getElem?_eq_some_iff.mp hu).1
         have htu := take1 hu
         refine (hin j u G5 hu z3 f5).mono fun E2 G6 s1 => s1.mono fun k G7 s2 => ?_
         cases k with
         | false =>
           simp only [Bool.false_eq_true, if_false] at s2 ⊢
           refine ⟨s2.2.get hz (by simp), ?_, by omega, z3.trans (s2.2.sub (by simp))⟩
           rw [htu, List.filterMap_append, z1]
           simp [s2.1]
         | true =>
           rw [if_pos rfl] at s2 ⊢
           refine s2.mono fun y G8 s3 => ?_
           have h8 := s3.2.get hz (by simp)
           refine ⟨h8, big_le (m := 100000) (by omega), ?_, by simp; omega, (z3.trans (s3.2.sub (by simp))).trans (Fr.set (by simp))⟩
           rw [htu, List.filterMap_append, z1]
           simp [s3.1])
       (pit1.len G4) 0 acc G4 ⟨by simp, by omega, Fr.refl⟩ hn4 (by rw [it1.len]; omega)
     refine ⟨G5, acc5, l1, l2, ?_, by omega, q3.trans ((f4.sub (by simp)).trans l5)⟩
     rw [List.take_length] at l3
     rw [ht, List.flatMap_append, ← q1, l3]
     simp
  obtain ⟨G', acc', e1, e2, e3⟩ := hq2
  rw [e1]
  rw [List.take_length] at e3
  exact hq _ _ (key e3.2.2) hl1 (by rw [e2, e3.1])
end
end PL
/- part PLL -/
set_option maxHeartbeats 1000000
namespace PL
open PySem PySem.Spec PyProof.Rows L2
/-! ### a tuple read backwards -/
section
variable {prog : Program} {w : World} {A : Around} {E : Value → Shared → Prop} {s : Shared}
theorem sliceApplied_rev {sl : Addr} {n : Nat} {vs : Value} {Q : Int × Int × Nat → Shared → Prop} (hs : s.heap.IsSliceOf sl .none .none vs) (ps : IsPart vs (some (-1)))
    (h : Q ((n : Int) - 1, -1, n) s) : wpAny (model prog w) A (Builtin.Slice.sliceApplied (.ref sl) (pure (n : Int))) Q E s := by
  obtain ⟨os, hos, hcs, hds⟩ := id hs
  unfold Builtin.Slice.sliceApplied Builtin.Slice.sliceFields
  refine wpAny_bind (wpAny_bind (wpAny_field hos hds (x := .none) rfl (wpAny_bind (wpAny_field hos hds (x := .none) rfl (wpAny_bind (wpAny_field hos hds (x := vs) rfl (wpAny_pure ?_)))))))
  refine wpAny_bind (HT.slicePart_ ps ?_)
  show wpAny _ _ (if ((-1 : Int) == 0) = true then _ else _) _ _ s
  rw [if_neg (by decide)]
  refine wpAny_bind (slicePart_none (wpAny_bind (slicePart_none (wpAny_bind (wpAny_pure ?_)))))
  have e1 : Builtin.Slice.sliceAdjust none none (-1) (n : Int) = ((n : Int) - 1, -1) := rfl
  have e2 : Builtin.Slice.slicePlaces ((n : Int) - 1) (-1) (-1) = n := by
    unfold Builtin.Slice.slicePlaces
    simp only [show ¬ ((-1 : Int) > 0) by decide, if_false]
    split
    · rw [show (- -1 : Int) = 1 from rfl, Int.ediv_one]; omega
    · omega
  show wpAny _ _ (match Builtin.Slice.sliceAdjust none none (-1) (n : Int) with | (lo, hi) => pure (lo, (-1 : Int), Builtin.Slice.slicePlaces lo hi (-1))) _ _ s
  rw [e1]
  show wpAny _ _ (pure ((n : Int) - 1, (-1 : Int), Builtin.Slice.slicePlaces ((n : Int) - 1) (-1) (-1))) _ _ s
  rw [e2]
  exact wpAny_pure h
theorem fm_congr {α β : Type} {f g : α → Option β} : ∀ {l : List α}, (∀ x ∈ l, f x = g x) → l.filterMap f = l.filterMap g
  | [], _ => rfl
  | x :: l, h => by rw [List.filterMap_cons, List.filterMap_cons, h x (by simp), fm_congr fun y hy => h y (by simp [hy])]
theorem range_all {α : Type} : ∀ l : List α, (List.range l.length).filterMap (fun k => l[k]?) = l
  | [] => rfl
  | x :: xs => by
    rw [List.length_cons, List.range_succ_eq_map, List.filterMap_cons]
    simp only [List.getElem?_cons_zero, List.filterMap_map]
    have := range_all xs
    congr 1
theorem rev_pick (xs : Array Value) : ((List.range xs.size).filterMap fun (k : Nat) => xs[((xs.size : Int) - 1 + (k : Int) * (-1)).toNat]?).toArray = xs.toList.reverse.toArray := by
  congr 1
  have e : ∀ k ∈ List.range xs.size, xs[((xs.size : Int) - 1 + (k : Int) * (-1)).toNat]? = xs.toList.reverse[k]? := by
    intro k hk
    have hk := List.mem_range.mp hk
    rw [List.getElem?_reverse (by simpa using hk)]
    rw [show ((xs.size : Int) - 1 + (k : Int) * (-1)).toNat = xs.size - 1 - k from by omega]
    simp
  rw [fm_congr e]
  have h := range_all xs.toList.reverse
  rw [show xs.toList.reverse.length = xs.size from by simp] at h
  exact h
theorem getItem_tuple_rev {sl t : Addr} {items : Array Value} {vs : Value} {Q : Value → Shared → Prop}
    (ht : IsTup s.heap t items) (hs : s.heap.IsSliceOf sl .none .none vs) (ps : IsPart vs (some (-1))) (hsz : items.size ≤ sizeLine)
    (h : Q (.ref s.heap.objs.size) { s with heap := s.heap.push { cls := .type "tuple", data := .seq items.toList.reverse.toArray } }) : wpAny (model prog w) A (getItem (.ref t) (.ref sl)) Q E s := by
  have htake : sizeOk (.seq items.toList.reverse.toArray) := by
    show items.toList.reverse.toArray.size ≤ sizeLine
    simpa using hsz
  obtain ⟨os, hos, hcs, hds⟩ := id hs
  have hTs : s.TypeIs (.ref sl) "slice" := ⟨os, hos, hcs⟩
  unfold getItem
  try with_reducible refine wpAny_holding ?_
  first | refine wpAny_bind (wpAny_pure ?_) | skip
  refine wpAny_bind (wpAny_sequenceKey ht.typeIs (by decide) ?_)
  refine wpAny_bind (wpAny_callSpecial?_slot (name := Str.ofString "__getitem__") ht.typeIs PyProof.Rows.slot_tuple_getitem
    (wpAny_call_entry PyProof.Rows.slot_tuple_getitem ht.typeIs entry_tuple_getitem ?_ (args_tuple_getitem _ _)))
  show wpAny _ _ (Builtin.Tuple.tupleItemsOf (.ref t) >>= _) _ _ s
  refine wpAny_bind (tupleItemsOf_ ht ?_)
  refine wpAny_bind (wpAny_typeOf hTs ?_)
  rw [if_pos (by decide)]
  refine wpAny_bind (sliceApplied_rev hs ps ?_)
  have hno : ¬ ((((items.size : Int) - 1) == 0 && (-1 : Int) == 1 && items.size == items.size) = true) := by
    intro q
    rw [Bool.and_eq_true, Bool.and_eq_true] at q
    exact absurd q.1.2 (by decide)
  show wpAny _ _ (if (((items.size : Int) - 1) == 0 && (-1 : Int) == 1 && items.size == items.size) = true then _ else _) _ _ s
  rw [if_neg hno, rev_pick]
  first
    | exact wpAny_bind (m := Builtin.Tuple.tupleExact _) (wpAny_newObj_type (wpAny_pure ⟨_, rfl, wpAny_pure h⟩) htake)
    | exact wpAny_bind (m := Builtin.Tuple.tupleExact _) (wpAny_newObj_type (wpAny_bind (wpAny_pure (wpAny_pure ⟨_, rfl, wpAny_pure h⟩))) htake)
    | exact wpAny_bind (wpAny_bind (m := Builtin.Tuple.tupleExact _) (wpAny_newObj_type (wpAny_pure (wpAny_pure ⟨_, rfl, wpAny_pure h⟩)) htake))
    | exact wpAny_bind (wpAny_bind (m := Builtin.Tuple.tupleExact _) (wpAny_newObj_type (wpAny_pure ⟨_, rfl, wpAny_pure h⟩) htake))
end
section
variable {X : Cx} {XP : Wish} {pos : Pos}
def tRevT (K : Fg) (te : TE) : TE := fun σ H Q => te σ H fun x H1 => ∃ a xs, x = .ref a ∧ SqT K H1 a xs ∧ ∀ p, H1 p = none → Q (.ref p) (upd H1 p (.tup xs.reverse))
theorem pe_revT {e : Expr} {te : TE} {k : Nat} {p1 p2 p3 pos : Pos} (he : PE X e te) : PE X (.Subscript e (.Slice none none (some (.UnaryOp .USub (.Constant (.int 1) k p1) p2)) p3) pos) (tRevT X.K te) := by
  refine ⟨fun pins s σ H Q I h => ?_⟩
  refine Subscript_ (thn (he.run pins s σ H _ I h) fun v s1 ⟨x, H1, I1, r1, q1⟩ => ?_)
  obtain ⟨a, xs, ex, hx, q⟩ := q1
  subst ex
  cases r1
  have hst : PO X (some (.UnaryOp .USub (.Constant (.int 1) k p1) p2)) (tPart (tUn (rU fun i => .int (-i)) (tC (.int 1)))) := po_some (pe_un un_neg pe_int)
  refine wpAny_Slice (thn (po_none.run pins s1 σ H1 (fun o H2 => o = none ∧ H2 = H1) I1 ⟨rfl, rfl⟩) fun vl s2 ⟨l, H2, I2, pl, el, e2⟩ => ?_)
  subst el e2
  refine thn (po_none.run pins s2 σ H2 (fun o H3 => o = none ∧ H3 = H2) I2 ⟨rfl, rfl⟩) fun vu s3 ⟨u, H3, I3, pu, eu, e3⟩ => ?_
  subst eu e3
  refine thn (hst.run pins s3 σ H3 (fun o H4 => o = some (-1) ∧ H4 = H3) I3 ⟨1, rfl, -1, rfl, rfl, rfl⟩) fun vs s4 ⟨o, H4, I4, ps, eo, e4⟩ => ?_
  subst eo e4
  cases pl
  cases pu
  have I5 : Inv X pins σ H4 { s4 with heap := s4.heap.push { cls := .type "slice", data := .fields #[.none, .none, vs] } } := I4.kept (t' := s4.toks) fun b ob q => Heap.get?_push_of_some _ q
  obtain ⟨its, r, ht, hz⟩ := I5.tuple hx
  have hlen := r.length
  show wpAny (model X.prog X.w) X.A (subscriptTail e (.Slice none none (some (.UnaryOp .USub (.Constant (.int 1) k p1) p2)) p3) (.ref a) (.ref s4.heap.objs.size)) (EP X pins σ Q) X.xe { s4 with heap := s4.heap.push { cls := .type "slice", data := .fields #[.none, .none, vs] } }
  refine tail_any (ops := [.ref a, .ref s4.heap.objs.size]) ht.typeIs (PyProof.Rows.slot_tuple_getitem.lookup) ?_ (by with_unfolding_all rfl)
  refine getItem_tuple_rev ht (Heap.IsSliceOf.new _ .none .none vs) ps (by rw [List.size_toArray]; omega) ?_
  refine ⟨.ref _, _, I5.laid (t' := s4.toks) (o := .tup xs.reverse) (fun b ob q => Heap.get?_push_of_some _ q) (Nat.le_refl _) ?_, rfl, q _ (I5.hok.fresh (Nat.le_refl _))⟩
  exact ⟨by rw [List.length_reverse]; exact hz, its.reverse, r.reverse, IsTup.new _ _⟩
def mRev (ma : ME) : ME := fun E G => (ma E G).bind fun x G1 => match x with | .tup ws => .ok (.tup ws.reverse) G1 | _ => .no
theorem he_rev {a : Expr} {ma : ME} {k : Nat} {p1 p2 p3 : Pos} (ha : HE X XP a ma) : HE X XP (.Subscript a (.Slice none none (some (.UnaryOp .USub (.Constant (.int 1) k p1) p2)) p3) pos) (mRev ma) := by
  obtain ⟨ta, a1, a2⟩ := ha.ex
  refine ⟨_, pe_revT a1, fun ρ E G σ H Q er sr q => a2 ρ E G σ H _ er sr (q.bind fun x G1 ρ1 H1 v e1 s1 r1 k1 => ?_)⟩
  split at k1
  · cases r1 with
    | tup b1 b2 => exact ⟨_, _, rfl, .of b1, fun p hp => out_tup k1 s1 b2.reverse hp⟩
  · exact k1.elim
theorem s_rev {E : PEnv} {G : Cells} {Q : W → Cells → Prop} (ma : ME) : (mRev ma E G).sat Q = (ma E G).sat fun w G1 => match w with | .tup ws => Q (.tup ws.reverse) G1 | _ => False := by
  unfold mRev; rw [sat_bind]; congr; funext w G1; cases w <;> rfl
end
end PL
/- part PLM -/
set_option maxHeartbeats 1000000
namespace PL
open PySem PySem.Spec PyProof.Rows L2
section
variable {X : Cx} {XP : Wish}
/-! ### bool(x) of an int or a bool -/
def boolW : GCall := fun G ws => match ws with
  | [.int i] => .ok (.bl (i != 0)) G
  | [.bl b] => .ok (.bl b) G
  | _ => .no
theorem cg_bool : CaG X XP (.type "bool") boolW := by
  refine ⟨_, call_bool1, fun ρ G σ H ws vs Q s r o => ?_⟩
  unfold boolW at o
  split at o
  · cases r with
    | cons r1 r2 => cases r2; cases r1; exact .inl ⟨_, rfl, o.ok s (.bl _)⟩
  · cases r with
    | cons r1 r2 => cases r2; cases r1; exact .inr ⟨_, rfl, o.ok s (.bl _)⟩
  · exact o.elim
end
end PL
/- part K20m -/
set_option maxHeartbeats 4000000
namespace NS
open PySem PySem.Spec PyProof.Rows L2 PL
/-! ### the text: mirrors -/
def topS (i : Nat) : Stmt := PySem.Challenge.pw_longernearer_k20_rows_judged_and_spoilt.main.body.getD i (.Pass ⟨0, 0, 0, 0⟩)
def Bis_integer : MS := sRet (mAnd (mCall isiW (mCons (mVar 0) (mCons (mC (.ty "int")) (mNil)))) (mNot (mCall isiW (mCons (mVar 0) (mCons (mC (.ty "bool")) (mNil))))))
def Mis_integer : PF := mFun 1 1 Bis_integer
def Bjumps_of : MS := sRet (mCall tupleW (mCons (mLcI (mEnum (mCons (mVar 0) (mNil))) (gTupW 2 (gsCons 1 (gsCons 2 (gsNil)))) (mTest (mBin eqOp (mBin getW (mVar 2) (mC (.int 0))) (mC (.str "jump")))) (mVar 1) [1, 2]) (mNil)))
def Mjumps_of : PF := mFun 1 3 Bjumps_of
def Bown_bytes : MS := sSeq (sIf (mTest (mBin eqOp (mBin getW (mVar 0) (mC (.int 0))) (mC (.str "label")))) (sRet (mC (.int 0))) (sNext)) (sSeq (sIf (mTest (mBin eqOp (mBin getW (mVar 0) (mC (.int 0))) (mC (.str "fill")))) (sRet (mBin modW (mNeg (mVar 1)) (mBin getW (mVar 0) (mC (.int 1))))) (sNext)) (sRet (mIf (mTru (mVar 2)) (mBin getW (mVar 0) (mC (.int 3))) (mBin getW (mVar 0) (mC (.int 2))))))
def Mown_bytes : PF := mFun 3 3 Bown_bytes
def Blaid : MS := sSeq (sAsg (mLst (mNil)) (gSet 3)) (sSeq (sAsg (mC (.int 0)) (gSet 4)) (sSeq (sForI (mEnum (mCons (mVar 0) (mNil))) (gTupW 2 (gsCons 5 (gsCons 6 (gsNil)))) (sSeq (sAsg (mBin addW (mVar 4) (mBin getW (mVar 1) (mVar 5))) (gSet 7)) (sSeq (sAsg (mBin addW (mVar 7) (mDef Mown_bytes (mCons (mVar 6) (mCons (mVar 7) (mCons (mBin (inW false) (mVar 5) (mVar 2)) (mNil)))))) (gSet 4)) (sExpr (mMeth "list" appendW (mVar 3) (mCons (mTup (mCons (mVar 7) (mCons (mVar 4) (mNil)))) (mNil))))))) (sRet (mCall tupleW (mCons (mVar 3) (mNil))))))
def Mlaid : PF := mFun 3 8 Blaid
def B_way : MS := sSeq (sAsg (mBin getW (mBin getW (mVar 0) (mVar 2)) (mC (.int 1))) (gSet 3)) (sSeq (sIf (mTest (mBin gtW (mVar 3) (mVar 2))) (sRet (mBin subW (mBin getW (mBin getW (mVar 1) (mVar 3)) (mC (.int 0))) (mBin getW (mBin getW (mVar 1) (mVar 2)) (mC (.int 1))))) (sNext)) (sRet (mBin subW (mBin getW (mBin getW (mVar 1) (mVar 2)) (mC (.int 1))) (mBin getW (mBin getW (mVar 1) (mVar 3)) (mC (.int 0))))))
def M_way : PF := mFun 3 4 B_way
def Bstuck : MS := sSeq (sAsg (mVar 0) (gTupW 3 (gsCons 2 (gsCons 3 (gsCons 4 (gsNil)))))) (sSeq (sAsg (mDef Mlaid (mCons (mVar 2) (mCons (mVar 3) (mCons (mVar 1) (mNil))))) (gSet 5)) (sSeq (sAsg (mLst (mNil)) (gSet 6)) (sSeq (sForI (mZip (mCons (mDef Mjumps_of (mCons (mVar 2) (mNil))) (mCons (mVar 4) (mNil)))) (gTupW 2 (gsCons 7 (gsCons 8 (gsNil)))) (sIf (mAndT (mTest (mBin (inW true) (mVar 7) (mVar 1))) (mTest (mBin gtW (mDef M_way (mCons (mVar 2) (mCons (mVar 5) (mCons (mVar 7) (mNil))))) (mVar 8)))) (sExpr (mMeth "list" appendW (mVar 6) (mCons (mVar 7) (mNil)))) (sNext))) (sRet (mCall tupleW (mCons (mVar 6) (mNil)))))))
def Mstuck : PF := mFun 2 9 Bstuck
def Bserves : MS := sRet (mBin eqOp (mCall lenW (mCons (mDef Mstuck (mCons (mVar 0) (mCons (mVar 1) (mNil)))) (mNil))) (mC (.int 0)))
def Mserves : PF := mFun 2 2 Bserves
def B_longer : MS := sRet (mDc (mSeq (mDef Mstuck (mCons (mVar 0) (mCons (mVar 1) (mNil))))) (gSet 2) (mYes) (mVar 2) (mCall tupleW (mCons (mCall sortedTW (mCons (mBin addW (mVar 1) (mTup (mCons (mVar 2) (mNil)))) (mNil))) (mNil))) [2])
def M_longer : PF := mFun 2 3 B_longer
def B_shorter : MS := sSeq (sAsg (mDc (mSeq (mVar 1)) (gSet 3) (mYes) (mVar 3) (mCall tupleW (mCons (mLcI (mSeq (mVar 1)) (gSet 4) (mTest (mBin neOp (mVar 4) (mVar 3))) (mVar 4) [4]) (mNil))) [3]) (gSet 2)) (sRet (mDcD 2 vwI (gTupW 2 (gsCons 3 (gsCons 5 (gsNil)))) (mTru (mDef Mserves (mCons (mVar 0) (mCons (mVar 5) (mNil))))) (mVar 3) (mVar 5) [3, 5]))
def M_shorter : PF := mFun 2 6 B_shorter
def Bis_row (v : Nat → Addr) : MS := sSeq (sIf (mNotT (mTru (mCall isiW (mCons (mVar 1) (mCons (mC (.ty "tuple")) (mNil)))))) (sRet (mC (.bl false))) (sNext)) (sSeq (sAsg (mDefL2 3 (v 0) M_longer (v 1) M_shorter (mCons (mVar 0) (mCons (mVar 2) (mNil)))) (gSet 4)) (sSeq (sForI (mSeq (mVar 1)) (gSet 5) (sSeq (sIf (mOrT (mNotT (mTru (mDef Mis_integer (mCons (mVar 5) (mNil))))) (mTest (mBin (inDW true) (mVar 5) (mVar 4)))) (sRet (mC (.bl false))) (sNext)) (sAsg (mDefL2 3 (v 0) M_longer (v 1) M_shorter (mCons (mVar 0) (mCons (mBin getW (mVar 4) (mVar 5)) (mNil)))) (gSet 4)))) (sRet (mBin eqOp (mCall lenW (mCons (mVar 4) (mNil))) (mC (.int 0))))))
def Mis_row (v : Nat → Addr) : PF := mFun 4 6 (Bis_row v)
def Brow_holds (v : Nat → Addr) : MS := sRet (mDef (Mis_row v) (mCons (mVar 0) (mCons (mVar 1) (mCons (mTup (mNil)) (mCons (mC (.fn (v 0))) (mNil))))))
def Mrow_holds (v : Nat → Addr) : PF := mFun 2 2 (Brow_holds v)
def Bshrink_holds (v : Nat → Addr) : MS := sRet (mDef (Mis_row v) (mCons (mVar 0) (mCons (mVar 1) (mCons (mDef Mjumps_of (mCons (mBin getW (mVar 0) (mC (.int 0))) (mNil))) (mCons (mC (.fn (v 1))) (mNil))))))
def Mshrink_holds (v : Nat → Addr) : PF := mFun 2 2 (Bshrink_holds v)
def B_law_stock : MS := sSeq (sAsg (mLcI (mSeq (mCut (mVar 0) (mNoPart) (mPart (mC (.int 63))))) (gSet 2) (mYes) (mIf (mTest (mBin geW (mVar 2) (mC (.int 0)))) (mBin mulW (mC (.int 2)) (mVar 2)) (mBin subW (mBin mulW (mNeg (mC (.int 2))) (mVar 2)) (mC (.int 1)))) [2]) (gSet 1)) (sRet (mLst (mCons (mLcI (mSeq (mVar 1)) (gSet 2) (mTest (mBin geW (mVar 2) (mBin powW (mC (.int 10)) (mC (.int 15))))) (mVar 2) [2]) (mCons (mBin addW (mVar 1) (mLst (mCons (mBin addW (mCall lenW (mCons (mVar 1) (mNil))) (mC (.int 926))) (mNil)))) (mCons (mCall sumW (mCons (mVar 1) (mNil))) (mCons (mC (.int 0)) (mNil)))))))
def M_law_stock : PF := mFun 1 3 B_law_stock
def B_law_draw : MS := sSeq (sIf (mTest (mBin neOp (mBin getW (mVar 0) (mC (.int 0))) (mLst (mNil)))) (sSeq (sAsg (mMeth "list" popW (mBin getW (mVar 0) (mC (.int 0))) mNil) (gSet 2)) (sSeq (sIf (mTest (mBin geW (mVar 2) (mVar 1))) (sExpr (mMeth "list" appendW (mBin getW (mVar 0) (mC (.int 0))) (mCons (mBin fdivW (mVar 2) (mVar 1)) (mNil)))) (sNext)) (sRet (mBin modW (mCall intW (mCons (mVar 2) (mNil))) (mVar 1))))) (sNext)) (sSeq (sAsg (mBin addW (mBin getW (mVar 0) (mC (.int 3))) (mC (.int 1))) (gPut (mVar 0) (mC (.int 3)))) (sSeq (sAsg (mBin getW (mVar 0) (mC (.int 3))) (gSet 3)) (sSeq (sAsg (mBin modW (mCall intW (mCons (mBin getW (mBin getW (mVar 0) (mC (.int 1))) (mBin modW (mCall intW (mCons (mVar 3) (mNil))) (mCall lenW (mCons (mBin getW (mVar 0) (mC (.int 1))) (mNil))))) (mNil))) (mC (.int 1000000007))) (gSet 4)) (sSeq (sAsg (mBin modW (mCall intW (mCons (mBin addW (mBin addW (mBin mulW (mVar 4) (mC (.int 48271))) (mBin mulW (mBin modW (mCall intW (mCons (mBin getW (mVar 0) (mC (.int 2))) (mNil))) (mC (.int 998244353))) (mC (.int 69621)))) (mBin mulW (mVar 3) (mC (.int 2654435761)))) (mNil))) (mC (.int 4294967291))) (gSet 5)) (sSeq (sAsg (mBin modW (mCall intW (mCons (mBin addW (mBin addW (mBin mulW (mVar 5) (mVar 5)) (mBin mulW (mVar 3) (mC (.int 362437)))) (mVar 4)) (mNil))) (mC (.int 4294967279))) (gSet 5)) (sRet (mBin modW (mBin fdivW (mBin modW (mCall intW (mCons (mBin addW (mBin mulW (mVar 5) (mC (.int 40692))) (mBin mulW (mVar 3) (mC (.int 65537)))) (mNil))) (mC (.int 4294967231))) (mC (.int 4096))) (mVar 1))))))))
def M_law_draw : PF := mFun 2 6 B_law_draw
def B_law_pick : MS := sRet (mBin getW (mVar 1) (mDef M_law_draw (mCons (mVar 0) (mCons (mCall lenW (mCons (mVar 1) (mNil))) (mNil)))))
def M_law_pick : PF := mFun 2 2 B_law_pick
def B_law_words : MS := sRet (mLcI (mRng1 (mCons (mDef M_law_draw (mCons (mVar 0) (mCons (mVar 1) (mNil)))) (mNil))) (gSet 2) (mYes) (mDef M_law_pick (mCons (mVar 0) (mCons (mLst (mCons (mC (.str "jump")) (mCons (mC (.str "jump")) (mCons (mC (.str "fill")) (mCons (mC (.str "fill")) (mCons (mC (.str "label")) (mNil))))))) (mNil)))) [2])
def M_law_words : PF := mFun 2 3 B_law_words
def B_law_skeleton : MS := sSeq (sAsg (mDef M_law_words (mCons (mVar 0) (mCons (mVar 2) (mNil)))) (gSet 3)) (sSeq (sIf (mTest (mBin eqOp (mDef M_law_draw (mCons (mVar 0) (mCons (mC (.int 2)) (mNil)))) (mC (.int 0)))) (sAsg (mBin addW (mBin addW (mCut (mVar 3) (mNoPart) (mPart (mC (.int 2)))) (mLst (mCons (mC (.str "jump")) (mCons (mC (.str "jump")) (mCons (mC (.str "fill")) (mCons (mC (.str "label")) (mNil))))))) (mCut (mVar 3) (mPart (mC (.int 2))) (mNoPart))) (gSet 3)) (sNext)) (sSeq (sExpr (mMeth "list" insertW (mVar 3) (mCons (mDef M_law_draw (mCons (mVar 0) (mCons (mBin addW (mCall lenW (mCons (mVar 3) (mNil))) (mC (.int 1))) (mNil)))) (mCons (mC (.str "label")) (mNil))))) (sSeq (sAsg (mLcI (mEnum (mCons (mVar 3) (mNil))) (gTupW 2 (gsCons 5 (gsCons 8 (gsNil)))) (mTest (mBin eqOp (mVar 8) (mC (.str "jump")))) (mVar 5) [5, 8]) (gSet 4)) (sSeq (sForI (mSeq (mCut (mVar 4) (mPart (mVar 1)) (mNoPart))) (gSet 5) (sAsg (mC (.str "fill")) (gPut (mVar 3) (mVar 5)))) (sSeq (sPar 6 7 (mCons (mLcI (mEnum (mCons (mVar 3) (mNil))) (gTupW 2 (gsCons 5 (gsCons 8 (gsNil)))) (mTest (mBin eqOp (mVar 8) (mC (.str "label")))) (mVar 5) [5, 8]) (mCons (mLst (mNil)) (mNil)))) (sSeq (sForI (mSeq (mCut (mVar 3) (mNoPart) (mPart (mC (.int 24))))) (gSet 8) (sIf (mTest (mBin eqOp (mVar 8) (mC (.str "jump")))) (sSeq (sAsg (mBin addW (mC (.int 1)) (mDef M_law_draw (mCons (mVar 0) (mCons (mC (.int 4)) (mNil))))) (gSet 9)) (sSeq (sAsg (mDef M_law_pick (mCons (mVar 0) (mCons (mLst (mCons (mC (.int 1)) (mCons (mC (.int 2)) (mCons (mC (.int 3)) (mCons (mC (.int 4)) (mCons (mC (.int 4)) (mCons (mC (.int 5)) (mCons (mC (.int 6)) (mCons (mC (.int 8)) (mCons (mC (.int 16)) (mCons (mBin addW (mC (.int 1)) (mDef M_law_draw (mCons (mVar 0) (mCons (mC (.int 90)) (mNil))))) (mNil)))))))))))) (mNil)))) (gSet 10)) (sExpr (mMeth "list" appendW (mVar 7) (mCons (mTup (mCons (mC (.str "jump")) (mCons (mDef M_law_pick (mCons (mVar 0) (mCons (mLcI (mSeq (mVar 6)) (gSet 11) (mTest (mBin ltW (mVar 11) (mC (.int 24)))) (mVar 11) [11]) (mNil)))) (mCons (mVar 9) (mCons (mBin addW (mVar 9) (mVar 10)) (mNil)))))) (mNil)))))) (sIf (mTest (mBin eqOp (mVar 8) (mC (.str "fill")))) (sExpr (mMeth "list" appendW (mVar 7) (mCons (mTup (mCons (mC (.str "fill")) (mCons (mDef M_law_pick (mCons (mVar 0) (mCons (mLst (mCons (mC (.int 2)) (mCons (mC (.int 2)) (mCons (mC (.int 4)) (mCons (mC (.int 4)) (mCons (mC (.int 4)) (mCons (mC (.int 8)) (mCons (mC (.int 8)) (mCons (mDef M_law_pick (mCons (mVar 0) (mCons (mLst (mCons (mC (.int 16)) (mCons (mC (.int 32)) (mCons (mC (.int 64)) (mNil))))) (mNil)))) (mNil)))))))))) (mNil)))) (mNil)))) (mNil)))) (sExpr (mMeth "list" appendW (mVar 7) (mCons (mTup (mCons (mC (.str "label")) (mNil))) (mNil))))))) (sRet (mCall tupleW (mCons (mVar 7) (mNil))))))))))
def M_law_skeleton : PF := mFun 3 12 B_law_skeleton
def B_law_jumps : MS := sRet (mLcI (mEnum (mCons (mVar 0) (mNil))) (gTupW 2 (gsCons 1 (gsCons 2 (gsNil)))) (mTest (mBin eqOp (mBin getW (mVar 2) (mC (.int 0))) (mC (.str "jump")))) (mVar 1) [1, 2])
def M_law_jumps : PF := mFun 1 3 B_law_jumps
def B_law_laying : MS := sSeq (sPar 3 4 (mCons (mC (.int 0)) (mCons (mLst (mNil)) (mNil)))) (sSeq (sForI (mEnum (mCons (mVar 0) (mNil))) (gTupW 2 (gsCons 5 (gsCons 6 (gsNil)))) (sSeq (sAsg (mBin addW (mVar 3) (mBin getW (mVar 1) (mVar 5))) (gSet 3)) (sSeq (sAsg (mVar 3) (gSet 7)) (sSeq (sIf (mTest (mBin eqOp (mBin getW (mVar 6) (mC (.int 0))) (mC (.str "fill")))) (sAsg (mBin mulW (mBin fdivW (mBin subW (mBin addW (mVar 3) (mBin getW (mVar 6) (mC (.int 1)))) (mC (.int 1))) (mBin getW (mVar 6) (mC (.int 1)))) (mBin getW (mVar 6) (mC (.int 1)))) (gSet 3)) (sNext)) (sSeq (sIf (mTest (mBin eqOp (mBin getW (mVar 6) (mC (.int 0))) (mC (.str "jump")))) (sAsg (mBin addW (mVar 3) (mBin getW (mVar 6) (mIf (mTest (mBin (inW false) (mVar 5) (mVar 2))) (mC (.int 3)) (mC (.int 2))))) (gSet 3)) (sNext)) (sExpr (mMeth "list" appendW (mVar 4) (mCons (mTup (mCons (mVar 7) (mCons (mVar 3) (mNil)))) (mNil))))))))) (sRet (mVar 4)))
def M_law_laying : PF := mFun 3 8 B_law_laying
def B_law_way : MS := sSeq (sAsg (mDef M_law_laying (mCons (mVar 0) (mCons (mVar 1) (mCons (mLcI (mSeq (mVar 2)) (gSet 6) (mTest (mBin neOp (mVar 6) (mVar 3))) (mVar 6) [6]) (mNil))))) (gSet 4)) (sSeq (sAsg (mBin getW (mBin getW (mVar 0) (mVar 3)) (mC (.int 1))) (gSet 5)) (sRet (mIf (mTest (mBin gtW (mVar 5) (mVar 3))) (mBin subW (mBin getW (mBin getW (mVar 4) (mVar 5)) (mC (.int 0))) (mBin getW (mBin getW (mVar 4) (mVar 3)) (mC (.int 1)))) (mBin subW (mBin getW (mBin getW (mVar 4) (mVar 3)) (mC (.int 1))) (mBin getW (mBin getW (mVar 4) (mVar 5)) (mC (.int 0)))))))
def M_law_way : PF := mFun 4 7 B_law_way
def B_law_lengths : MS := sSeq (sAsg (mLst (mNil)) (gSet 3)) (sSeq (sForI (mRng1 (mCons (mBin addW (mCall lenW (mCons (mVar 1) (mNil))) (mC (.int 1))) (mNil))) (gSet 4) (sSeq (sAsg (mBin subW (mBin powW (mC (.int 10)) (mC (.int 9))) (mDef M_law_draw (mCons (mVar 0) (mCons (mC (.int 70)) (mNil))))) (gSet 5)) (sSeq (sAsg (mDef M_law_pick (mCons (mVar 0) (mCons (mLst (mCons (mC (.int 0)) (mCons (mC (.int 0)) (mCons (mC (.int 1)) (mCons (mC (.int 2)) (mCons (mC (.int 3)) (mCons (mDef M_law_draw (mCons (mVar 0) (mCons (mC (.int 12)) (mNil)))) (mNil)))))))) (mNil)))) (gSet 6)) (sExpr (mMeth "list" appendW (mVar 3) (mCons (mIf (mAndT (mTru (mVar 2)) (mTest (mBin eqOp (mDef M_law_draw (mCons (mVar 0) (mCons (mC (.int 3)) (mNil)))) (mC (.int 0))))) (mVar 5) (mVar 6)) (mNil))))))) (sRet (mCall tupleW (mCons (mVar 3) (mNil)))))
def M_law_lengths : PF := mFun 3 7 B_law_lengths
def B_law_some : MS := sRet (mCall tupleW (mCons (mLcI (mSeq (mVar 1)) (gSet 2) (mTest (mBin eqOp (mDef M_law_draw (mCons (mVar 0) (mCons (mC (.int 2)) (mNil)))) (mC (.int 0)))) (mVar 2) [2]) (mNil)))
def M_law_some : PF := mFun 2 3 B_law_some
def B_law_program : MS := sSeq (sPar3 3 4 5 (mCons (mDef M_law_lengths (mCons (mVar 0) (mCons (mVar 1) (mCons (mVar 2) (mNil))))) (mCons (mDef M_law_jumps (mCons (mVar 1) (mNil))) (mCons (mLst (mNil)) (mNil))))) (sSeq (sForI (mSeq (mVar 4)) (gSet 6) (sSeq (sAsg (mDef M_law_way (mCons (mVar 1) (mCons (mVar 3) (mCons (mDef M_law_some (mCons (mVar 0) (mCons (mVar 4) (mNil)))) (mCons (mVar 6) (mNil)))))) (gSet 7)) (sSeq (sAsg (mDef M_law_pick (mCons (mVar 0) (mCons (mLst (mCons (mVar 7) (mCons (mVar 7) (mCons (mBin subW (mVar 7) (mC (.int 1))) (mCons (mBin subW (mVar 7) (mC (.int 1))) (mCons (mBin subW (mVar 7) (mC (.int 2))) (mCons (mBin addW (mVar 7) (mC (.int 1))) (mCons (mDef M_law_draw (mCons (mVar 0) (mCons (mC (.int 20)) (mNil)))) (mCons (mBin powW (mC (.int 10)) (mC (.int 9))) (mNil)))))))))) (mNil)))) (gSet 8)) (sExpr (mMeth "list" appendW (mVar 5) (mCons (mCall minW (mCons (mCall maxU (mCons (mC (.int 0)) (mCons (mVar 8) (mNil)))) (mCons (mBin powW (mC (.int 10)) (mC (.int 9))) (mNil)))) (mNil))))))) (sRet (mTup (mCons (mVar 1) (mCons (mVar 3) (mCons (mCall tupleW (mCons (mVar 5) (mNil))) (mNil)))))))
def M_law_program : PF := mFun 3 9 B_law_program
def B_law_held : MS := sSeq (sAsg (mVar 0) (gTupW 3 (gsCons 2 (gsCons 3 (gsCons 4 (gsNil)))))) (sSeq (sAsg (mLst (mNil)) (gSet 5)) (sSeq (sForI (mZipL (mCons (mDef M_law_jumps (mCons (mVar 2) (mNil))) (mCons (mVar 4) (mNil)))) (gTupW 2 (gsCons 6 (gsCons 7 (gsNil)))) (sIf (mAndT (mTest (mBin (inW true) (mVar 6) (mVar 1))) (mTest (mBin gtW (mDef M_law_way (mCons (mVar 2) (mCons (mVar 3) (mCons (mVar 1) (mCons (mVar 6) (mNil)))))) (mVar 7)))) (sExpr (mMeth "list" appendW (mVar 5) (mCons (mVar 6) (mNil)))) (sNext))) (sRet (mCall tupleW (mCons (mVar 5) (mNil))))))
def M_law_held : PF := mFun 2 8 B_law_held
def B_law_leaves : MS := sSeq (sAsg (mLst (mNil)) (gSet 2)) (sSeq (sForI (mSeq (mVar 1)) (gSet 3) (sIf (mTest (mBin eqOp (mDef M_law_held (mCons (mVar 0) (mCons (mCall tupleW (mCons (mLcI (mSeq (mVar 1)) (gSet 4) (mTest (mBin neOp (mVar 4) (mVar 3))) (mVar 4) [4]) (mNil))) (mNil)))) (mTup (mNil)))) (sExpr (mMeth "list" appendW (mVar 2) (mCons (mVar 3) (mNil)))) (sNext))) (sRet (mVar 2)))
def M_law_leaves : PF := mFun 2 5 B_law_leaves
def B_law_are_jumps : MS := sSeq (sIf (mNotT (mTru (mCall isiW (mCons (mVar 0) (mCons (mC (.ty "tuple")) (mNil)))))) (sRet (mC (.bl false))) (sNext)) (sRet (mBin eqOp (mLcI (mSeq (mVar 0)) (gSet 1) (mOrT (mTru (mCall isiW (mCons (mVar 1) (mCons (mC (.ty "bool")) (mNil))))) (mNotT (mTru (mCall isiW (mCons (mVar 1) (mCons (mC (.ty "int")) (mNil))))))) (mC (.int 1)) [1]) (mLst (mNil))))
def M_law_are_jumps : PF := mFun 1 2 B_law_are_jumps
def B_law_is_growing : MS := sSeq (sIf (mNotT (mTru (mDef M_law_are_jumps (mCons (mVar 1) (mNil))))) (sRet (mC (.bl false))) (sNext)) (sSeq (sPar 2 3 (mCons (mTup (mNil)) (mCons (mDef M_law_held (mCons (mVar 0) (mCons (mTup (mNil)) (mNil)))) (mNil)))) (sSeq (sForI (mSeq (mVar 1)) (gSet 4) (sSeq (sIf (mTest (mBin (inW true) (mVar 4) (mVar 3))) (sRet (mC (.bl false))) (sNext)) (sSeq (sAsg (mCall tupleW (mCons (mCall sortedTW (mCons (mBin addW (mVar 2) (mTup (mCons (mVar 4) (mNil)))) (mNil))) (mNil))) (gSet 2)) (sAsg (mDef M_law_held (mCons (mVar 0) (mCons (mVar 2) (mNil)))) (gSet 3))))) (sRet (mBin eqOp (mVar 3) (mTup (mNil))))))
def M_law_is_growing : PF := mFun 2 5 B_law_is_growing
def B_law_is_shrinking : MS := sSeq (sIf (mNotT (mTru (mDef M_law_are_jumps (mCons (mVar 1) (mNil))))) (sRet (mC (.bl false))) (sNext)) (sSeq (sAsg (mCall tupleW (mCons (mDef M_law_jumps (mCons (mBin getW (mVar 0) (mC (.int 0))) (mNil))) (mNil))) (gSet 2)) (sSeq (sAsg (mDef M_law_leaves (mCons (mVar 0) (mCons (mVar 2) (mNil)))) (gSet 3)) (sSeq (sForI (mSeq (mVar 1)) (gSet 4) (sSeq (sIf (mTest (mBin (inW true) (mVar 4) (mVar 3))) (sRet (mC (.bl false))) (sNext)) (sSeq (sAsg (mCall tupleW (mCons (mLcI (mSeq (mVar 2)) (gSet 5) (mTest (mBin neOp (mVar 5) (mVar 4))) (mVar 5) [5]) (mNil))) (gSet 2)) (sAsg (mDef M_law_leaves (mCons (mVar 0) (mCons (mVar 2) (mNil)))) (gSet 3))))) (sRet (mBin eqOp (mVar 3) (mLst (mNil)))))))
def M_law_is_shrinking : PF := mFun 2 6 B_law_is_shrinking
def B_law_row : MS := sSeq (sPar 3 4 (mCons (mDef M_law_jumps (mCons (mBin getW (mVar 1) (mC (.int 0))) (mNil))) (mCons (mLst (mNil)) (mNil)))) (sSeq (sAsg (mIf (mTru (mVar 2)) (mTup (mNil)) (mCall tupleW (mCons (mVar 3) (mNil)))) (gSet 5)) (sSeq (sForI (mRng1 (mCons (mCall lenW (mCons (mVar 3) (mNil))) (mNil))) (gSet 6) (sSeq (sAsg (mIf (mTru (mVar 2)) (mDef M_law_held (mCons (mVar 1) (mCons (mVar 5) (mNil)))) (mDef M_law_leaves (mCons (mVar 1) (mCons (mVar 5) (mNil))))) (gSet 7)) (sIf (mTest (mBin gtW (mCall lenW (mCons (mVar 7) (mNil))) (mC (.int 0)))) (sSeq (sAsg (mDef M_law_pick (mCons (mVar 0) (mCons (mCall listW (mCons (mVar 7) (mNil))) (mNil)))) (gSet 8)) (sSeq (sExpr (mMeth "list" appendW (mVar 4) (mCons (mVar 8) (mNil)))) (sSeq (sAsg (mLcI (mSeq (mVar 5)) (gSet 10) (mTest (mBin neOp (mVar 10) (mVar 8))) (mVar 10) [10]) (gSet 9)) (sAsg (mCall tupleW (mCons (mCall sortedW (mCons (mBin addW (mVar 9) (mIf (mTru (mVar 2)) (mLst (mCons (mVar 8) (mNil))) (mLst (mNil)))) (mNil))) (mNil))) (gSet 5))))) (sNext)))) (sRet (mCall tupleW (mCons (mVar 4) (mNil))))))
def M_law_row : PF := mFun 3 11 B_law_row
def B_law_spoilt : MS := sSeq (sPar 3 4 (mCons (mDef M_law_draw (mCons (mVar 0) (mCons (mBin addW (mCall lenW (mCons (mVar 2) (mNil))) (mC (.int 1))) (mNil)))) (mCons (mBin addW (mDef M_law_jumps (mCons (mBin getW (mVar 1) (mC (.int 0))) (mNil))) (mLst (mCons (mC (.int 0)) (mCons (mC (.int 1)) (mNil))))) (mNil)))) (sSeq (sAsg (mDef M_law_pick (mCons (mVar 0) (mCons (mBin addW (mVar 4) (mLst (mCons (mNeg (mC (.int 1))) (mCons (mC (.int 99)) (mCons (mC (.bl true)) (mCons (mC (.bl false)) (mCons (mC .non) (mCons (mC (.str "0")) (mCons (mTup (mCons (mC (.int 0)) (mNil))) (mCons (mBin powW (mC (.int 10)) (mC (.int 30))) (mCons (mLst (mCons (mC (.int 0)) (mNil))) (mCons (mDict0) (mNil))))))))))))) (mNil)))) (gSet 5)) (sSeq (sAsg (mLst (mCons (mBin addW (mCut (mVar 2) (mNoPart) (mPart (mVar 3))) (mCut (mVar 2) (mPart (mBin addW (mVar 3) (mC (.int 1)))) (mNoPart))) (mCons (mBin addW (mBin addW (mCut (mVar 2) (mNoPart) (mPart (mVar 3))) (mTup (mCons (mVar 5) (mNil)))) (mCut (mVar 2) (mPart (mVar 3)) (mNoPart))) (mCons (mBin addW (mBin addW (mCut (mVar 2) (mNoPart) (mPart (mVar 3))) (mTup (mCons (mVar 5) (mNil)))) (mCut (mVar 2) (mPart (mBin addW (mVar 3) (mC (.int 1)))) (mNoPart))) (mNil))))) (gSet 6)) (sSeq (sAsg (mBin addW (mVar 6) (mLst (mCons (mCut (mVar 2) (mNoPart) (mPart (mVar 3))) (mCons (mRev (mVar 2)) (mCons (mBin addW (mVar 2) (mVar 2)) (mCons (mCut (mVar 2) (mPart (mC (.int 1))) (mNoPart)) (mCons (mBin addW (mVar 2) (mCut (mVar 2) (mNoPart) (mPart (mC (.int 1))))) (mCons (mCall listW (mCons (mVar 2) (mNil))) (mCons (mTup (mCons (mVar 2) (mNil))) (mCons (mTup (mNil)) (mNil))))))))))) (gSet 6)) (sSeq (sExpr (mMeth "list" appendW (mVar 6) (mCons (mCall tupleW (mCons (mLcI (mSeq (mVar 2)) (gSet 7) (mYes) (mBin eqOp (mVar 7) (mC (.int 1))) [7]) (mNil))) (mNil)))) (sSeq (sAsg (mBin addW (mVar 6) (mLst (mCons (mCall tupleW (mCons (mLcI (mSeq (mVar 2)) (gSet 7) (mYes) (mIf (mTest (mBin ltW (mVar 7) (mC (.int 2)))) (mCall boolW (mCons (mVar 7) (mNil))) (mVar 7)) [7]) (mNil))) (mCons (mC .non) (mCons (mC (.str "row")) (mCons (mDict0) (mCons (mC (.int 0)) (mCons (mC (.bl true)) (mCons (mCall tupleW (mCons (mCall sortedTW (mCons (mVar 2) (mNil))) (mNil))) (mNil)))))))))) (gSet 6)) (sRet (mDef M_law_pick (mCons (mVar 0) (mCons (mBin addW (mVar 6) (mLst (mCons (mCall tupleW (mCons (mCut (mVar 4) (mNoPart) (mPart (mNeg (mC (.int 2))))) (mNil))) (mCons (mRev (mCall tupleW (mCons (mCut (mVar 4) (mNoPart) (mPart (mNeg (mC (.int 2))))) (mNil)))) (mCons (mLst (mCons (mLst (mCons (mC (.int 0)) (mNil))) (mNil))) (mCons (mTup (mCons (mTup (mNil)) (mNil))) (mCons (mTup (mCons (mDict0) (mNil))) (mNil)))))))) (mNil))))))))))
def M_law_spoilt : PF := mFun 3 8 B_law_spoilt
def B_law_is_told (v : Nat → Addr) : MS := sSeq (sPar 3 4 (mCons (mCall reprW (mCons (mLst (mCons (mVar 0) (mCons (mVar 1) (mNil)))) (mNil))) (mCons (mLst (mCons (mDef M_law_is_growing (mCons (mVar 0) (mCons (mVar 1) (mNil)))) (mCons (mDef M_law_is_shrinking (mCons (mVar 0) (mCons (mVar 1) (mNil)))) (mNil)))) (mNil)))) (sSeq (sAsg (mLst (mCons (mDef (Mrow_holds v) (mCons (mVar 0) (mCons (mVar 1) (mNil)))) (mCons (mDef (Mshrink_holds v) (mCons (mVar 0) (mCons (mVar 1) (mNil)))) (mNil)))) (gSet 5)) (sSeq (sIf (mTru (mVar 2)) (sAsg (mLst (mCons (mDefK (Mrow_holds v) [1, 0] 0 2 mNil (mCons (mVar 1) (mCons (mVar 0) (mNil)))) (mCons (mDefK (Mshrink_holds v) [1, 0] 0 2 mNil (mCons (mVar 1) (mCons (mVar 0) (mNil)))) (mNil)))) (gSet 5)) (sNext)) (sRet (mAnd (mBin eqOp (mCall reprW (mCons (mVar 5) (mNil))) (mCall reprW (mCons (mVar 4) (mNil)))) (mBin eqOp (mCall reprW (mCons (mLst (mCons (mVar 0) (mCons (mVar 1) (mNil)))) (mNil))) (mVar 3))))))
def M_law_is_told (v : Nat → Addr) : PF := mFun 3 6 (B_law_is_told v)
def Blaw (v : Nat → Addr) : MS := sSeq (sAsg (mDef M_law_stock (mCons (mVar 0) (mNil))) (gSet 1)) (sSeq (sForI (mRng1 (mCons (mC (.int 3)) (mNil))) (gSet 2) (sSeq (sAsg (mDef M_law_skeleton (mCons (mVar 1) (mCons (mBin getW (mLst (mCons (mC (.int 2)) (mCons (mC (.int 3)) (mCons (mBin addW (mC (.int 4)) (mBin mulW (mC (.int 2)) (mCall intW (mCons (mBin eqOp (mDef M_law_draw (mCons (mVar 1) (mCons (mC (.int 8)) (mNil)))) (mC (.int 0))) (mNil))))) (mNil))))) (mVar 2)) (mCons (mC (.int 7)) (mNil))))) (gSet 3)) (sSeq (sAsg (mDef M_law_program (mCons (mVar 1) (mCons (mVar 3) (mCons (mBin eqOp (mVar 2) (mC (.int 1))) (mNil))))) (gSet 4)) (sForI (mSeq (mTup (mCons (mC (.bl true)) (mCons (mC (.bl false)) (mNil))))) (gSet 5) (sSeq (sAsg (mDef M_law_row (mCons (mVar 1) (mCons (mVar 4) (mCons (mVar 5) (mNil))))) (gSet 6)) (sSeq (sIf (mNotT (mTru (mDef (M_law_is_told v) (mCons (mVar 4) (mCons (mVar 6) (mCons (mVar 5) (mNil))))))) (sRet (mC (.bl false))) (sNext)) (sForI (mRng1 (mCons (mC (.int 5)) (mNil))) (gSet 7) (sIf (mNotT (mTru (mDef (M_law_is_told v) (mCons (mVar 4) (mCons (mDef M_law_spoilt (mCons (mVar 1) (mCons (mVar 4) (mCons (mVar 6) (mNil))))) (mCons (mBin eqOp (mVar 7) (mVar 2)) (mNil))))))) (sRet (mC (.bl false))) (sNext))))))))) (sRet (mC (.bl true))))
def Mlaw (v : Nat → Addr) : PF := mFun 1 8 (Blaw v)
end NS
/- part T1 -/
set_option maxHeartbeats 1000000
namespace NS
open PySem PySem.Spec PyProof.Rows L2 PL

/-! ### the stock -/
structure RI (r d c : Nat) (G : Cells) : Prop where
  ex : ∃ (s k : Int) (ds cs : List Int), r ≠ d ∧ c ≠ r ∧ c ≠ d ∧ G[r]? = some (.lst [.ref d, .ref c, .int s, .int k]) ∧
    G[d]? = some (.lst (ds.map W.int)) ∧ ds.length ≤ 70 ∧ G[c]? = some (.lst (cs.map W.int)) ∧ cs ≠ [] ∧ cs.length ≤ 100
theorem RI.keep {r d c : Nat} {G G' : Cells} (h : RI r d c G) (f : Fr [] G G') : RI r d c G' := by
  obtain ⟨s, k, ds, cs, h1, h2, h3, g1, g2, h4, g3, h5⟩ := h.ex
  exact ⟨s, k, ds, cs, h1, h2, h3, f.get g1 (by simp), f.get g2 (by simp), h4, f.get g3 (by simp), h5⟩
theorem RI.lt {r d c : Nat} {G : Cells} (h : RI r d c G) : r < G.length ∧ d < G.length ∧ c < G.length ∧ r ≠ d ∧ c ≠ r ∧ c ≠ d := by
  obtain ⟨s, k, ds, cs, h1, h2, h3, g1, g2, h4, g3, h5⟩ := h.ex
  exact ⟨lt_of_get g1, lt_of_get g2, lt_of_get g3, h1, h2, h3⟩
theorem RI.keeps {r d c n : Nat} (h1 : r < n) (h2 : d < n) (h3 : c < n) : Keeps n (RI r d c) := by
  intro G1 G2 h hn hl hk
  obtain ⟨s, k, ds, cs, n1, n2, n3, g1, g2, h4, g3, h5⟩ := h.ex
  exact ⟨s, k, ds, cs, n1, n2, n3, (hk r h1).trans g1, (hk d h2).trans g2, h4, (hk c h3).trans g3, h5⟩
theorem dat_ints {G : Cells} {n : Nat} {ds : List Int} (h : G[n]? = some (.lst (ds.map W.int))) : dat G 60 (.ref n) = some (.list (ds.map PyData.int)) := by
  have e : dat G 60 (.ref n) = (mapO (dat G 59) (ds.map W.int)).map PyData.list := by show (match G[n]? with | some (.lst ws) => _ | some (.rol ws) => _ | some (.dct kvs) => _ | _ => none) = _; rw [h]
  have : ∀ ds : List Int, mapO (dat G 59) (ds.map W.int) = some (ds.map PyData.int) := by
    intro ds
    induction ds with
    | nil => rfl
    | cons x xs ih =>
      have : dat G 59 (.int x) = some (.int x) := rfl
      simp only [List.map_cons, mapO, this, ih]
  rw [e, this]; rfl
theorem shaped_all (ds : List Int) : PyData.canLayAll0 (ds.map PyData.int) = true ∧ PyData.depthAll (ds.map PyData.int) = 0 := by
  induction ds with
  | nil => exact ⟨rfl, rfl⟩
  | cons x xs ih => exact ⟨by simp only [List.map_cons, PyData.canLayAll0, PyData.canLay0, ih.1, Bool.and_self], by simp only [List.map_cons, PyData.depthAll, PyData.depth, ih.2, Nat.max_self]⟩
theorem shaped_ints (ds : List Int) : SeqAt.shaped (.list (ds.map PyData.int)) = true := by
  have h1 := shaped_all ds
  simp only [SeqAt.shaped, PyData.canLay0, PyData.depth, h1.1, h1.2]; decide
theorem shaped_tints (ds : List Int) : SeqAt.shaped (.tuple (ds.map PyData.int)) = true := by
  have h1 := shaped_all ds
  simp only [SeqAt.shaped, PyData.canLay0, PyData.depth, h1.1, h1.2]; decide
theorem ne_ints {G : Cells} {n m : Nat} {ds : List Int} (h : G[n]? = some (.lst (ds.map W.int))) (h' : G[m]? = some (.lst [])) : neOp G (.ref n) (.ref m) = .ok (.bl (!ds.isEmpty)) G := by
  have e1 := dat_ints h
  have e2 := dat_ints (ds := []) h'
  have q : neOp G (.ref n) (.ref m) = (match dat G 60 (.ref n), dat G 60 (.ref m) with
    | some d, some e => if SeqAt.shaped d && SeqAt.shaped e then .ok (.bl (!PyData.eqv d e)) G else .no
    | _, _ => .no) := rfl
  rw [q, e1, e2]
  simp only [shaped_ints, List.map_nil]
  have : SeqAt.shaped (.list []) = true := shaped_ints []
  rw [this]
  cases ds <;> simp [PyData.eqv, PyData.eqvAll]
abbrev DrawQ (r d c : Nat) (G : Cells) (size : Int) : W → Cells → Prop := fun w G' => (∃ i, w = .int i ∧ 0 ≤ i ∧ i < size) ∧ RI r d c G' ∧ Fr [r, d] G G'
def B_draw2 : MS := (sSeq (sAsg (mBin addW (mBin getW (mVar 0) (mC (.int 3))) (mC (.int 1))) (gPut (mVar 0) (mC (.int 3)))) (sSeq (sAsg (mBin getW (mVar 0) (mC (.int 3))) (gSet 3)) (sSeq (sAsg (mBin modW (mCall intW (mCons (mBin getW (mBin getW (mVar 0) (mC (.int 1))) (mBin modW (mCall intW (mCons (mVar 3) (mNil))) (mCall lenW (mCons (mBin getW (mVar 0) (mC (.int 1))) (mNil))))) (mNil))) (mC (.int 1000000007))) (gSet 4)) (sSeq (sAsg (mBin modW (mCall intW (mCons (mBin addW (mBin addW (mBin mulW (mVar 4) (mC (.int 48271))) (mBin mulW (mBin modW (mCall intW (mCons (mBin getW (mVar 0) (mC (.int 2))) (mNil))) (mC (.int 998244353))) (mC (.int 69621)))) (mBin mulW (mVar 3) (mC (.int 2654435761)))) (mNil))) (mC (.int 4294967291))) (gSet 5)) (sSeq (sAsg (mBin modW (mCall intW (mCons (mBin addW (mBin addW (mBin mulW (mVar 5) (mVar 5)) (mBin mulW (mVar 3) (mC (.int 362437)))) (mVar 4)) (mNil))) (mC (.int 4294967279))) (gSet 5)) (sRet (mBin modW (mBin fdivW (mBin modW (mCall intW (mCons (mBin addW (mBin mulW (mVar 5) (mC (.int 40692))) (mBin mulW (mVar 3) (mC (.int 65537)))) (mNil))) (mC (.int 4294967231))) (mC (.int 4096))) (mVar 1))))))))
theorem draw2_ok {r d c : Nat} {G : Cells} {size : Int} (h : RI r d c G) (h1 : 1 ≤ size) {N : PEnv → Cells → Prop} :
    (B_draw2 [some (.ref r), some (.int size), none, none, none, none] G).sat N (DrawQ r d c G size) := by
  obtain ⟨s, k, ds, cs, n1, n2, n3, g1, g2, l1, g3, l2, l3⟩ := h.ex
  have fr : Fr [r, d] G (G.set r (.lst [.ref d, .ref c, .int s, .int (k + 1)])) := Fr.set (by simp)
  have p3 : putOp r (.int 3) (.int (k + 1)) G = some (G.set r (.lst [.ref d, .ref c, .int s, .int (k + 1)])) := e_put g1 (by decide) (show (3 : Int) < ((4 : Nat) : Int) by decide)
  have q0 : getW G (.ref r) (.int 3) = .ok (.int k) G := e_getL g1 rfl (by decide)
  have q1 : (G.set r (.lst [.ref d, .ref c, .int s, .int (k + 1)]))[r]? = some (.lst [.ref d, .ref c, .int s, .int (k + 1)]) := get_set (lt_of_get g1)
  have q2 : (G.set r (.lst [.ref d, .ref c, .int s, .int (k + 1)]))[d]? = some (.lst (ds.map W.int)) := by rw [get_set_ne n1]; exact g2
  have q3 : (G.set r (.lst [.ref d, .ref c, .int s, .int (k + 1)]))[c]? = some (.lst (cs.map W.int)) := by rw [get_set_ne (Ne.symm n2)]; exact g3
  have hr : RI r d c (G.set r (.lst [.ref d, .ref c, .int s, .int (k + 1)])) := ⟨s, k + 1, ds, cs, n1, n2, n3, q1, q2, l1, q3, l2, l3⟩
  unfold B_draw2
  refine so_seq ?_
  simp only [p2_c, p3_c, pT2_c, pT3_c, t_asg, t_expr, t_ret, t_if, t_nx, t_par, t_par3, g_set, g_tup2, g_tup3, g_put, s_bin, s_def, s_defK, s_call, s_cons, v_nil, s_var, v_c, s_lst, s_tup, s_test, s_tru, s_notT, s_andT, s_orT, s_and, s_or, s_not, s_if, s_neg, s_meth, s_cut, v_nopart, s_part, s_chain, s_seq, s_rng1, s_rng2, s_enum, s_zipL, s_tupR1, s_tupR2, s_yes, List.getElem?_cons_zero, List.getElem?_cons_succ, Option.some.injEq, exists_eq_left', v_ok, e_add, e_sub, e_int, e_min, e_max, e_maxU, e_lenT, e_tupT, e_lt, e_le, e_gt, e_ge, i_tup, e_cutT, List.set_cons_succ, List.set_cons_zero, List.length_cons, List.length_nil, Nat.reduceAdd, W.int.injEq, W.bl.injEq, W.ref.injEq, W.tup.injEq, W.str.injEq, reduceCtorEq, false_and, and_false, exists_false, or_false, false_or, true_and, and_true, exists_const, exists_eq_left, sz0, sz1, sz2, sz3, sz4, sz5, sz6, sz7, sz8, sz9, sz10, q0, p3]
  generalize (G.set r (.lst [.ref d, .ref c, .int s, .int (k + 1)])) = G1 at *
  generalize k + 1 = k1 at *
  have hcl : 0 < cs.length := List.length_pos_iff.mpr l2
  have z1 : getW G1 (.ref r) (.int 1) = .ok (.ref c) G1 := e_getL q1 rfl (by decide)
  have z2 : getW G1 (.ref r) (.int 2) = .ok (.int s) G1 := e_getL q1 rfl (by decide)
  have z3 : getW G1 (.ref r) (.int 3) = .ok (.int k1) G1 := e_getL q1 rfl (by decide)
  have hm0 : (0 : Int) < ((cs.map W.int).length : Int) := by simp; omega
  obtain ⟨xi, hx2⟩ : ∃ xi, getW G1 (.ref c) (.int (k1 % ((cs.map W.int).length : Int))) = .ok (.int xi) G1 := by
    have a1 := Int.emod_nonneg k1 (show ((cs.map W.int).length : Int) ≠ 0 by omega)
    have a2 := Int.emod_lt_of_pos k1 hm0
    have a3 : (k1 % ((cs.map W.int).length : Int)).toNat < cs.length := by simp at a2 a1 ⊢; omega
    exact ⟨cs[(k1 % ((cs.map W.int).length : Int)).toNat], e_getL q3 (by rw [List.getElem?_map, List.getElem?_eq_getElem a3]; rfl) a1⟩
  refine so_seq ?_
  simp only [p2_c, p3_c, pT2_c, pT3_c, t_asg, t_expr, t_ret, t_if, t_nx, t_par, t_par3, g_set, g_tup2, g_tup3, g_put, s_bin, s_def, s_defK, s_call, s_cons, v_nil, s_var, v_c, s_lst, s_tup, s_test, s_tru, s_notT, s_andT, s_orT, s_and, s_or, s_not, s_if, s_neg, s_meth, s_cut, v_nopart, s_part, s_chain, s_seq, s_rng1, s_rng2, s_enum, s_zipL, s_tupR1, s_tupR2, s_yes, List.getElem?_cons_zero, List.getElem?_cons_succ, Option.some.injEq, exists_eq_left', v_ok, e_add, e_sub, e_int, e_min, e_max, e_maxU, e_lenT, e_tupT, e_lt, e_le, e_gt, e_ge, i_tup, e_cutT, List.set_cons_succ, List.set_cons_zero, List.length_cons, List.length_nil, Nat.reduceAdd, W.int.injEq, W.bl.injEq, W.ref.injEq, W.tup.injEq, W.str.injEq, reduceCtorEq, false_and, and_false, exists_false, or_false, false_or, true_and, and_true, exists_const, exists_eq_left, sz0, sz1, sz2, sz3, sz4, sz5, sz6, sz7, sz8, sz9, sz10, z3]
  refine so_seq ?_
  simp only [p2_c, p3_c, pT2_c, pT3_c, t_asg, t_expr, t_ret, t_if, t_nx, t_par, t_par3, g_set, g_tup2, g_tup3, g_put, s_bin, s_def, s_defK, s_call, s_cons, v_nil, s_var, v_c, s_lst, s_tup, s_test, s_tru, s_notT, s_andT, s_orT, s_and, s_or, s_not, s_if, s_neg, s_meth, s_cut, v_nopart, s_part, s_chain, s_seq, s_rng1, s_rng2, s_enum, s_zipL, s_tupR1, s_tupR2, s_yes, List.getElem?_cons_zero, List.getElem?_cons_succ, Option.some.injEq, exists_eq_left', v_ok, e_add, e_sub, e_int, e_min, e_max, e_maxU, e_lenT, e_tupT, e_lt, e_le, e_gt, e_ge, i_tup, e_cutT, List.set_cons_succ, List.set_cons_zero, List.length_cons, List.length_nil, Nat.reduceAdd, W.int.injEq, W.bl.injEq, W.ref.injEq, W.tup.injEq, W.str.injEq, reduceCtorEq, false_and, and_false, exists_false, or_false, false_or, true_and, and_true, exists_const, exists_eq_left, sz0, sz1, sz2, sz3, sz4, sz5, sz6, sz7, sz8, sz9, sz10, z1, e_lenL q3, e_mod hm0, hx2, e_mod (show (0 : Int) < 1000000007 from by decide)]
  generalize hcell : xi % 1000000007 = cell
  refine so_seq ?_
  simp only [p2_c, p3_c, pT2_c, pT3_c, t_asg, t_expr, t_ret, t_if, t_nx, t_par, t_par3, g_set, g_tup2, g_tup3, g_put, s_bin, s_def, s_defK, s_call, s_cons, v_nil, s_var, v_c, s_lst, s_tup, s_test, s_tru, s_notT, s_andT, s_orT, s_and, s_or, s_not, s_if, s_neg, s_meth, s_cut, v_nopart, s_part, s_chain, s_seq, s_rng1, s_rng2, s_enum, s_zipL, s_tupR1, s_tupR2, s_yes, List.getElem?_cons_zero, List.getElem?_cons_succ, Option.some.injEq, exists_eq_left', v_ok, e_add, e_sub, e_int, e_min, e_max, e_maxU, e_lenT, e_tupT, e_lt, e_le, e_gt, e_ge, i_tup, e_cutT, List.set_cons_succ, List.set_cons_zero, List.length_cons, List.length_nil, Nat.reduceAdd, W.int.injEq, W.bl.injEq, W.ref.injEq, W.tup.injEq, W.str.injEq, reduceCtorEq, false_and, and_false, exists_false, or_false, false_or, true_and, and_true, exists_const, exists_eq_left, sz0, sz1, sz2, sz3, sz4, sz5, sz6, sz7, sz8, sz9, sz10, z2, e_mod (show (0 : Int) < 998244353 from by decide), e_mul (mulOk_r (i := cell) (j := 48271) (by decide)), e_mul (mulOk_r (j := 69621) (by decide)), e_mul (mulOk_r (i := k1) (j := 2654435761) (by decide)), e_mod (show (0 : Int) < 4294967291 from by decide)]
  generalize hm : (cell * 48271 + s % 998244353 * 69621 + k1 * 2654435761) % 4294967291 = m0
  have m1 : 0 ≤ m0 := hm ▸ Int.emod_nonneg _ (by decide)
  have m2 : m0 < 4294967291 := hm ▸ Int.emod_lt_of_pos _ (by decide)
  refine so_seq ?_
  simp only [p2_c, p3_c, pT2_c, pT3_c, t_asg, t_expr, t_ret, t_if, t_nx, t_par, t_par3, g_set, g_tup2, g_tup3, g_put, s_bin, s_def, s_defK, s_call, s_cons, v_nil, s_var, v_c, s_lst, s_tup, s_test, s_tru, s_notT, s_andT, s_orT, s_and, s_or, s_not, s_if, s_neg, s_meth, s_cut, v_nopart, s_part, s_chain, s_seq, s_rng1, s_rng2, s_enum, s_zipL, s_tupR1, s_tupR2, s_yes, List.getElem?_cons_zero, List.getElem?_cons_succ, Option.some.injEq, exists_eq_left', v_ok, e_add, e_sub, e_int, e_min, e_max, e_maxU, e_lenT, e_tupT, e_lt, e_le, e_gt, e_ge, i_tup, e_cutT, List.set_cons_succ, List.set_cons_zero, List.length_cons, List.length_nil, Nat.reduceAdd, W.int.injEq, W.bl.injEq, W.ref.injEq, W.tup.injEq, W.str.injEq, reduceCtorEq, false_and, and_false, exists_false, or_false, false_or, true_and, and_true, exists_const, exists_eq_left, sz0, sz1, sz2, sz3, sz4, sz5, sz6, sz7, sz8, sz9, sz10, e_mul (mulOk_l (i := m0) (j := m0) (by omega)), e_mul (mulOk_r (i := k1) (j := 362437) (by decide)), e_mod (show (0 : Int) < 4294967279 from by decide)]
  generalize (m0 * m0 + k1 * 362437 + cell) % 4294967279 = m3
  simp only [p2_c, p3_c, pT2_c, pT3_c, t_asg, t_expr, t_ret, t_if, t_nx, t_par, t_par3, g_set, g_tup2, g_tup3, g_put, s_bin, s_def, s_defK, s_call, s_cons, v_nil, s_var, v_c, s_lst, s_tup, s_test, s_tru, s_notT, s_andT, s_orT, s_and, s_or, s_not, s_if, s_neg, s_meth, s_cut, v_nopart, s_part, s_chain, s_seq, s_rng1, s_rng2, s_enum, s_zipL, s_tupR1, s_tupR2, s_yes, List.getElem?_cons_zero, List.getElem?_cons_succ, Option.some.injEq, exists_eq_left', v_ok, e_add, e_sub, e_int, e_min, e_max, e_maxU, e_lenT, e_tupT, e_lt, e_le, e_gt, e_ge, i_tup, e_cutT, List.set_cons_succ, List.set_cons_zero, List.length_cons, List.length_nil, Nat.reduceAdd, W.int.injEq, W.bl.injEq, W.ref.injEq, W.tup.injEq, W.str.injEq, reduceCtorEq, false_and, and_false, exists_false, or_false, false_or, true_and, and_true, exists_const, exists_eq_left, sz0, sz1, sz2, sz3, sz4, sz5, sz6, sz7, sz8, sz9, sz10, e_mul (mulOk_r (i := m3) (j := 40692) (by decide)), e_mul (mulOk_r (i := k1) (j := 65537) (by decide)), e_mod (show (0 : Int) < 4294967231 from by decide), e_div (show (0 : Int) < 4096 from by decide) (by decide), e_mod (show 0 < size from by omega)]
  exact ⟨⟨_, rfl, Int.emod_nonneg _ (by omega), Int.emod_lt_of_pos _ (by omega)⟩, hr, fr⟩
theorem draw_ok {r d c : Nat} {G : Cells} {size : Int} (h : RI r d c G) (h1 : 1 ≤ size) (h2 : size < 2 ^ 30) :
    (M_law_draw [.ref r, .int size] G).sat (DrawQ r d c G size) := by
  obtain ⟨s, k, ds, cs, n1, n2, n3, g1, g2, l1, g3, l2, l3⟩ := h.ex
  refine fun_sat rfl ?_
  show (B_law_draw [some (.ref r), some (.int size), none, none, none, none] G).sat _ _
  have q0 : getW G (.ref r) (.int 0) = .ok (.ref d) G := e_getL g1 rfl (by decide)
  have f1 : Fr [] G (G ++ [.lst []]) := Fr.push
  have hr := h.keep f1
  have g1' := f1.get g1 (by simp)
  have g2' := f1.get g2 (by simp)
  have g3' := f1.get g3 (by simp)
  have hne := ne_ints (f1.get g2 (by simp)) (push_get G (.lst []))
  refine so_seq ?_
  simp only [p2_c, p3_c, pT2_c, pT3_c, t_asg, t_expr, t_ret, t_if, t_nx, t_par, t_par3, g_set, g_tup2, g_tup3, g_put, s_bin, s_def, s_defK, s_call, s_cons, v_nil, s_var, v_c, s_lst, s_tup, s_test, s_tru, s_notT, s_andT, s_orT, s_and, s_or, s_not, s_if, s_neg, s_meth, s_cut, v_nopart, s_part, s_chain, s_seq, s_rng1, s_rng2, s_enum, s_zipL, s_tupR1, s_tupR2, s_yes, List.getElem?_cons_zero, List.getElem?_cons_succ, Option.some.injEq, exists_eq_left', v_ok, e_add, e_sub, e_int, e_min, e_max, e_maxU, e_lenT, e_tupT, e_lt, e_le, e_gt, e_ge, i_tup, e_cutT, List.set_cons_succ, List.set_cons_zero, List.length_cons, List.length_nil, Nat.reduceAdd, W.int.injEq, W.bl.injEq, W.ref.injEq, W.tup.injEq, W.str.injEq, reduceCtorEq, false_and, and_false, exists_false, or_false, false_or, true_and, and_true, exists_const, exists_eq_left, sz0, sz1, sz2, sz3, sz4, sz5, sz6, sz7, sz8, sz9, sz10, q0, hne]
  have f1' : Fr [r, d] G (G ++ [.lst []]) := f1.of_nil
  have q0' : getW (G ++ [.lst []]) (.ref r) (.int 0) = .ok (.ref d) (G ++ [.lst []]) := e_getL g1' rfl (by decide)
  generalize G ++ [.lst []] = G1 at *
  refine hif (fun hd => ?_) fun hd => ?_
  · have hne : ds ≠ [] := by rintro rfl; cases hd
    have hl : 0 < ds.length := List.length_pos_iff.mpr hne
    obtain ⟨rest, hrest⟩ : ∃ y, ds[ds.length - 1]? = some y := ⟨ds[ds.length - 1]'(by omega), List.getElem?_eq_getElem (by omega)⟩
    have hp : popW G1 (.ref d) [] = .ok (.int rest) (G1.set d (.lst (ds.dropLast.map W.int))) := by
      unfold popW
      simp only [g2', List.length_map, List.getElem?_map, hrest, Option.map_some, List.map_dropLast]
    have hd2 : (G1.set d (.lst (ds.dropLast.map W.int)))[d]? = some (.lst (ds.dropLast.map W.int)) := get_set (lt_of_get g2')
    have fr2 : Fr [r, d] G1 (G1.set d (.lst (ds.dropLast.map W.int))) := Fr.set (by simp)
    have k1 : (G1.set d (.lst (ds.dropLast.map W.int)))[r]? = some (.lst [.ref d, .ref c, .int s, .int k]) := by rw [get_set_ne (Ne.symm n1)]; exact g1'
    have k3 : (G1.set d (.lst (ds.dropLast.map W.int)))[c]? = some (.lst (cs.map W.int)) := by rw [get_set_ne (Ne.symm n3)]; exact g3'
    refine so_seq ?_
    simp only [p2_c, p3_c, pT2_c, pT3_c, t_asg, t_expr, t_ret, t_if, t_nx, t_par, t_par3, g_set, g_tup2, g_tup3, g_put, s_bin, s_def, s_defK, s_call, s_cons, v_nil, s_var, v_c, s_lst, s_tup, s_test, s_tru, s_notT, s_andT, s_orT, s_and, s_or, s_not, s_if, s_neg, s_meth, s_cut, v_nopart, s_part, s_chain, s_seq, s_rng1, s_rng2, s_enum, s_zipL, s_tupR1, s_tupR2, s_yes, List.getElem?_cons_zero, List.getElem?_cons_succ, Option.some.injEq, exists_eq_left', v_ok, e_add, e_sub, e_int, e_min, e_max, e_maxU, e_lenT, e_tupT, e_lt, e_le, e_gt, e_ge, i_tup, e_cutT, List.set_cons_succ, List.set_cons_zero, List.length_cons, List.length_nil, Nat.reduceAdd, W.int.injEq, W.bl.injEq, W.ref.injEq, W.tup.injEq, W.str.injEq, reduceCtorEq, false_and, and_false, exists_false, or_false, false_or, true_and, and_true, exists_const, exists_eq_left, sz0, sz1, sz2, sz3, sz4, sz5, sz6, sz7, sz8, sz9, sz10, q0', e_isL g2', hp]
    generalize hG2 : G1.set d (.lst (ds.dropLast.map W.int)) = G2 at *
    have q02 : getW G2 (.ref r) (.int 0) = .ok (.ref d) G2 := e_getL k1 rfl (by decide)
    have hr2 : RI r d c G2 := ⟨s, k, ds.dropLast, cs, n1, n2, n3, k1, hd2, by simp; omega, k3, l2, l3⟩
    have hdl : (ds.dropLast.map W.int).length ≤ 100000 := by simp; omega
    have j1 : (G2.set d (.lst ((ds.dropLast ++ [rest / size]).map W.int)))[r]? = some (.lst [.ref d, .ref c, .int s, .int k]) := by rw [get_set_ne (Ne.symm n1)]; exact k1
    have j2 : (G2.set d (.lst ((ds.dropLast ++ [rest / size]).map W.int)))[d]? = some (.lst ((ds.dropLast ++ [rest / size]).map W.int)) := get_set (lt_of_get hd2)
    have j3 : (G2.set d (.lst ((ds.dropLast ++ [rest / size]).map W.int)))[c]? = some (.lst (cs.map W.int)) := by rw [get_set_ne (Ne.symm n3)]; exact k3
    have ha : appendW G2 (.ref d) [.int (rest / size)] = .ok .non (G2.set d (.lst ((ds.dropLast ++ [rest / size]).map W.int))) := by
      rw [e_app hd2 hdl, List.map_append]; rfl
    refine so_seq ?_
    simp only [p2_c, p3_c, pT2_c, pT3_c, t_asg, t_expr, t_ret, t_if, t_nx, t_par, t_par3, g_set, g_tup2, g_tup3, g_put, s_bin, s_def, s_defK, s_call, s_cons, v_nil, s_var, v_c, s_lst, s_tup, s_test, s_tru, s_notT, s_andT, s_orT, s_and, s_or, s_not, s_if, s_neg, s_meth, s_cut, v_nopart, s_part, s_chain, s_seq, s_rng1, s_rng2, s_enum, s_zipL, s_tupR1, s_tupR2, s_yes, List.getElem?_cons_zero, List.getElem?_cons_succ, Option.some.injEq, exists_eq_left', v_ok, e_add, e_sub, e_int, e_min, e_max, e_maxU, e_lenT, e_tupT, e_lt, e_le, e_gt, e_ge, i_tup, e_cutT, List.set_cons_succ, List.set_cons_zero, List.length_cons, List.length_nil, Nat.reduceAdd, W.int.injEq, W.bl.injEq, W.ref.injEq, W.tup.injEq, W.str.injEq, reduceCtorEq, false_and, and_false, exists_false, or_false, false_or, true_and, and_true, exists_const, exists_eq_left, sz0, sz1, sz2, sz3, sz4, sz5, sz6, sz7, sz8, sz9, sz10, q02, e_isL hd2, e_div (show 0 < size from by omega) (show size < 1073741824 from by omega), e_mod (show 0 < size from by omega), ha]
    refine hif (fun hc => ?_) fun hc => ?_
    · exact ⟨⟨_, rfl, Int.emod_nonneg _ (by omega), Int.emod_lt_of_pos _ (by omega)⟩, ⟨s, k, _, cs, n1, n2, n3, j1, j2, by simp; omega, j3, l2, l3⟩, f1'.trans (fr2.trans (Fr.set (by simp)))⟩
    · exact ⟨⟨_, rfl, Int.emod_nonneg _ (by omega), Int.emod_lt_of_pos _ (by omega)⟩, hr2, f1'.trans fr2⟩
  · exact (draw2_ok (N := fun _ _ => False) hr h1).mono (fun _ _ h => h.elim) fun w G' q => ⟨q.1, q.2.1, f1'.trans q.2.2⟩
theorem pick_ok {r d c n : Nat} {G : Cells} {xs : List W} (h : RI r d c G) (hx : G[n]? = some (.lst xs)) (hr : n ≠ r) (hd : n ≠ d) (h1 : 1 ≤ xs.length) (h2 : xs.length ≤ 100000) :
    (M_law_pick [.ref r, .ref n] G).sat fun w G' => w ∈ xs ∧ RI r d c G' ∧ Fr [r, d] G G' := by
  refine fun_sat rfl ?_
  show (B_law_pick [some (.ref r), some (.ref n)] G).sat _ _
  unfold B_law_pick
  simp only [p2_c, p3_c, pT2_c, pT3_c, t_asg, t_expr, t_ret, t_if, t_nx, t_par, t_par3, g_set, g_tup2, g_tup3, g_put, s_bin, s_def, s_defK, s_call, s_cons, v_nil, s_var, v_c, s_lst, s_tup, s_test, s_tru, s_notT, s_andT, s_orT, s_and, s_or, s_not, s_if, s_neg, s_meth, s_cut, v_nopart, s_part, s_chain, s_seq, s_rng1, s_rng2, s_enum, s_zipL, s_tupR1, s_tupR2, s_yes, List.getElem?_cons_zero, List.getElem?_cons_succ, Option.some.injEq, exists_eq_left', v_ok, e_add, e_sub, e_int, e_min, e_max, e_maxU, e_lenT, e_tupT, e_lt, e_le, e_gt, e_ge, i_tup, e_cutT, List.set_cons_succ, List.set_cons_zero, List.length_cons, List.length_nil, Nat.reduceAdd, W.int.injEq, W.bl.injEq, W.ref.injEq, W.tup.injEq, W.str.injEq, reduceCtorEq, false_and, and_false, exists_false, or_false, false_or, true_and, and_true, exists_const, exists_eq_left, sz0, sz1, sz2, sz3, sz4, sz5, sz6, sz7, sz8, sz9, sz10, e_lenL hx]
  refine (draw_ok h (by omega) (by omega)).mono fun w G1 q => ?_
  obtain ⟨⟨i, rfl, i1, i2⟩, h1, f⟩ := q
  have hi : i.toNat < xs.length := by omega
  rw [e_getL (f.get hx (by simp [hr, hd])) (List.getElem?_eq_getElem hi) i1]
  exact ⟨List.getElem_mem hi, h1, f⟩
/-- a pick from a list that is written on the spot -/
theorem picks_ok {r d c : Nat} {G : Cells} {xs : List W} (h : RI r d c G) (h1 : 1 ≤ xs.length) (h2 : xs.length ≤ 100000) :
    (M_law_pick [.ref r, .ref G.length] (G ++ [.lst xs])).sat fun w G' => w ∈ xs ∧ RI r d c G' ∧ Fr [r, d] G G' := by
  have hl := h.lt
  exact (pick_ok (h.keep Fr.push) (push_get G (.lst xs)) (by omega) (by omega) h1 h2).mono fun w G' q => ⟨q.1, q.2.1, Fr.push.trans q.2.2⟩
end NS
/- part T2 -/
set_option maxHeartbeats 1000000
namespace NS
open PySem PySem.Spec PyProof.Rows L2 PL

/-! ### the skeletons -/
def kw (w : W) : Prop := w = .str "jump" ∨ w = .str "fill" ∨ w = .str "label"
theorem words_ok {r d c : Nat} {G : Cells} {most : Int} (h : RI r d c G) (h1 : 1 ≤ most) (h2 : most ≤ 1000) :
    (M_law_words [.ref r, .int most] G).sat fun w G' => ∃ n xs, w = .ref n ∧ G.length ≤ n ∧ G'[n]? = some (.lst xs) ∧ (xs.length : Int) < most ∧ (∀ x ∈ xs, kw x) ∧ RI r d c G' ∧ Fr [r, d] G G' := by
  have hl := h.lt
  refine fun_sat rfl ?_
  show (B_law_words [some (.ref r), some (.int most), none] G).sat _ _
  unfold B_law_words
  simp only [t_ret]
  refine lc_get (P := fun pit G1 => ∃ i : Int, 0 ≤ i ∧ i < most ∧ pit = .rng 0 i.toNat ∧ RI r d c G1 ∧ Fr [r, d] G G1) ?_ ?_
  · simp only [s_bin, s_def, s_defK, s_call, s_cons, v_nil, s_var, v_c, s_lst, s_tup, s_test, s_tru, s_notT, s_andT, s_orT, s_and, s_or, s_not, s_if, s_neg, s_meth, s_cut, v_nopart, s_part, s_chain, s_seq, s_rng1, s_rng2, s_enum, s_zipL, s_tupR1, s_tupR2, s_yes, List.getElem?_cons_zero, List.getElem?_cons_succ, Option.some.injEq, exists_eq_left', v_ok, e_add, e_sub, e_int, e_min, e_max, e_maxU, e_lenT, e_tupT, e_lt, e_le, e_gt, e_ge, i_tup, e_cutT, List.set_cons_succ, List.set_cons_zero, List.length_cons, List.length_nil, Nat.reduceAdd, W.int.injEq, W.bl.injEq, W.ref.injEq, W.tup.injEq, W.str.injEq, reduceCtorEq, false_and, and_false, exists_false, or_false, false_or, true_and, and_true, exists_const, exists_eq_left, sz0, sz1, sz2, sz3, sz4, sz5, sz6, sz7, sz8, sz9, sz10]
    refine (draw_ok h h1 (by omega)).mono fun w G1 q => ?_
    obtain ⟨⟨i, rfl, i1, i2⟩, h1, f⟩ := q
    exact ⟨i, rfl, by unfold rngOk; simp; omega, i, i1, i2, rfl, h1, f⟩
  · rintro pit G1 e ⟨i, i1, i2, rfl, hr, f⟩
    refine lc_fr [r, d] (rnW 0 i.toNat) (RI r d c) (fun k acc => acc.length = k ∧ ∀ x ∈ acc, kw x) (RI.keeps hl.1 hl.2.1 hl.2.2.1) (by simp; omega) (e.mono ?_) (by rw [rnW_len]; omega) ⟨rfl, by simp⟩ ?_ ?_
    · rintro p g ⟨rfl, rfl⟩
      exact ⟨f, hr, it_rng _ _ _ _⟩
    · intro k w acc G' hw ha hr' fr'
      simp only [wipeE, p2_c, p3_c, pT2_c, pT3_c, t_asg, t_expr, t_ret, t_if, t_nx, t_par, t_par3, g_set, g_tup2, g_tup3, g_put, s_bin, s_def, s_defK, s_call, s_cons, v_nil, s_var, v_c, s_lst, s_tup, s_test, s_tru, s_notT, s_andT, s_orT, s_and, s_or, s_not, s_if, s_neg, s_meth, s_cut, v_nopart, s_part, s_chain, s_seq, s_rng1, s_rng2, s_enum, s_zipL, s_tupR1, s_tupR2, s_yes, List.getElem?_cons_zero, List.getElem?_cons_succ, Option.some.injEq, exists_eq_left', v_ok, e_add, e_sub, e_int, e_min, e_max, e_maxU, e_lenT, e_tupT, e_lt, e_le, e_gt, e_ge, i_tup, e_cutT, List.set_cons_succ, List.set_cons_zero, List.length_cons, List.length_nil, Nat.reduceAdd, W.int.injEq, W.bl.injEq, W.ref.injEq, W.tup.injEq, W.str.injEq, reduceCtorEq, false_and, and_false, exists_false, or_false, false_or, true_and, and_true, exists_const, exists_eq_left, sz0, sz1, sz2, sz3, sz4, sz5, sz6, sz7, sz8, sz9, sz10, if_true]
      refine (picks_ok hr' (xs := [.str "jump", .str "jump", .str "fill", .str "fill", .str "label"]) (by simp) (by simp)).mono fun w G2 q => ?_
      refine ⟨⟨by simp [ha.1], fun x hx => ?_⟩, q.2.1, q.2.2⟩
      rcases List.mem_append.mp hx with hx | hx
      · exact ha.2 x hx
      · have hx := List.mem_singleton.mp hx
        subst hx
        have := q.1
        simp only [List.mem_cons, List.not_mem_nil, or_false] at this
        unfold kw
        rcases this with h | h | h | h | h <;> simp [h]
    · intro n acc G' ha hr' fr' hn hg
      refine ⟨n, acc, rfl, hn, hg, ?_, ha.2, hr', fr'⟩
      rw [ha.1, rnW_len]; omega
/-! items -/
inductive It where
  | lab
  | fil (a : Int)
  | jmp (g s l : Int)
def It.w : It → W
  | .lab => .tup [.str "label"]
  | .fil a => .tup [.str "fill", .int a]
  | .jmp g s l => .tup [.str "jump", .int g, .int s, .int l]
def It.kind : It → W
  | .lab => .str "label"
  | .fil _ => .str "fill"
  | .jmp _ _ _ => .str "jump"
def fillOk (a : Int) : Prop := a = 2 ∨ a = 4 ∨ a = 8 ∨ a = 16 ∨ a = 32 ∨ a = 64
def itOk (sk : List It) : It → Prop
  | .lab => True
  | .fil a => fillOk a
  | .jmp g s l => 0 ≤ g ∧ sk[g.toNat]? = some .lab ∧ 1 ≤ s ∧ s < l ∧ l ≤ 999
structure Skel (sk : List It) : Prop where
  len1 : 1 ≤ sk.length
  len2 : sk.length ≤ 24
  items : ∀ it ∈ sk, itOk sk it
abbrev skW (sk : List It) : W := .tup (sk.map It.w)
/-- the item that the sampler makes of a word -/
def mkOk (ws : List W) : It → Prop
  | .lab => True
  | .fil a => fillOk a
  | .jmp g s l => 0 ≤ g ∧ g < 24 ∧ ws[g.toNat]? = some (.str "label") ∧ 1 ≤ s ∧ s < l ∧ l ≤ 999
theorem kind_lab {it : It} (h : it.kind = .str "label") : it = .lab := by
  cases it with
  | lab => rfl
  | fil a => exact absurd h (by unfold It.kind; intro z; injection z with z; exact absurd z (by decide +kernel))
  | jmp g s l => exact absurd h (by unfold It.kind; intro z; injection z with z; exact absurd z (by decide +kernel))
theorem skel_of {ws : List W} {sk : List It} (h1 : 1 ≤ ws.length) (hk : sk.map It.kind = ws.take 24) (hm : ∀ it ∈ sk, mkOk ws it) : Skel sk := by
  have hl : sk.length = min 24 ws.length := by have := congrArg List.length hk; simpa using this
  refine ⟨by omega, by omega, fun it hit => ?_⟩
  have := hm it hit
  cases it with
  | lab => trivial
  | fil a => exact this
  | jmp g s l =>
    obtain ⟨g0, g1, g2, s1, s2, s3⟩ := this
    refine ⟨g0, ?_, s1, s2, s3⟩
    have hg : (ws.take 24)[g.toNat]? = some (.str "label") := by rw [List.getElem?_take, if_pos (by omega)]; exact g2
    rw [← hk, List.getElem?_map] at hg
    cases hx : sk[g.toNat]? with
    | none => rw [hx] at hg; cases hg
    | some x => rw [hx] at hg; rw [kind_lab (Option.some.inj hg)]
theorem ss_eq (a b : Str) (G : Cells) : eqOp G (.str a) (.str b) = .ok (.bl (decide (a = b))) G := eqOp_ss a b
def isWd (x : Str) (w : W) : Bool := match w with | .str y => decide (y = x) | _ => false
theorem isWd_eq {x : Str} {w : W} (h : isWd x w = true) : w = .str x := by
  unfold isWd at h
  split at h
  · rw [of_decide_eq_true h]
  · cases h
theorem kw_str {w : W} (h : kw w) : ∃ y, w = .str y := by rcases h with rfl | rfl | rfl <;> exact ⟨_, rfl⟩
theorem e_ins {G : Cells} {n : Nat} {xs : List W} {i : Int} {y : W} (h : G[n]? = some (.lst xs)) (hl : xs.length ≤ 100000) (h0 : 0 ≤ i) (h1 : i < 2 ^ 30) : insertW G (.ref n) [.int i, y] = .ok .non (G.set n (.lst (xs.take i.toNat ++ [y] ++ xs.drop i.toNat))) := by
  unfold insertW
  simp only [h]
  rw [if_pos ⟨big_le hl, h0, by omega⟩]
theorem lab_insert {xs : List W} {i : Nat} (hi : i ≤ xs.length) (h : xs.length ≤ 21 ∨ ∃ p, p ≤ 5 ∧ xs[p]? = some (.str "label")) : ∃ p, p < 24 ∧ (xs.take i ++ [W.str "label"] ++ xs.drop i)[p]? = some (.str "label") := by
  rcases h with h | ⟨p, hp, e⟩
  · refine ⟨i, by omega, ?_⟩
    rw [List.append_assoc, List.getElem?_append_right (by simp; omega)]
    simp [List.length_take, Nat.min_eq_left hi]
  · by_cases hpi : p < i
    · refine ⟨p, by omega, ?_⟩
      rw [List.append_assoc, List.getElem?_append_left (by simp; omega), List.getElem?_take, if_pos hpi]
      exact e
    · refine ⟨p + 1, by omega, ?_⟩
      rw [List.getElem?_append_right (by simp; omega)]
      simp only [List.length_append, List.length_take, Nat.min_eq_left hi, List.length_cons, List.length_nil, List.getElem?_drop]
      rw [show i + (p + 1 - (i + (0 + 1))) = p from by omega]
      exact e
theorem kw_insert {xs : List W} {i : Nat} (h : ∀ x ∈ xs, kw x) : ∀ x ∈ xs.take i ++ [W.str "label"] ++ xs.drop i, kw x := by
  intro x hx
  rcases List.mem_append.mp hx with hx | hx
  · rcases List.mem_append.mp hx with hx | hx
    · exact h x (List.mem_of_mem_take hx)
    · exact .inr (.inr (List.mem_singleton.mp hx))
  · exact h x (List.mem_of_mem_drop hx)
end NS
/- part T3 -/
set_option maxHeartbeats 1000000
namespace NS
open PySem PySem.Spec PyProof.Rows L2 PL

theorem eq_jj (G : Cells) : eqOp G (.str "jump") (.str "jump") = .ok (.bl true) G := by rw [ss_eq, show decide (("jump" : Str) = "jump") = true from by decide +kernel]
theorem eq_fj (G : Cells) : eqOp G (.str "fill") (.str "jump") = .ok (.bl false) G := by rw [ss_eq, show decide (("fill" : Str) = "jump") = false from by decide +kernel]
theorem eq_lj (G : Cells) : eqOp G (.str "label") (.str "jump") = .ok (.bl false) G := by rw [ss_eq, show decide (("label" : Str) = "jump") = false from by decide +kernel]
theorem eq_ff (G : Cells) : eqOp G (.str "fill") (.str "fill") = .ok (.bl true) G := by rw [ss_eq, show decide (("fill" : Str) = "fill") = true from by decide +kernel]
theorem eq_jf (G : Cells) : eqOp G (.str "jump") (.str "fill") = .ok (.bl false) G := by rw [ss_eq, show decide (("jump" : Str) = "fill") = false from by decide +kernel]
theorem eq_lf (G : Cells) : eqOp G (.str "label") (.str "fill") = .ok (.bl false) G := by rw [ss_eq, show decide (("label" : Str) = "fill") = false from by decide +kernel]
theorem eq_ll (G : Cells) : eqOp G (.str "label") (.str "label") = .ok (.bl true) G := by rw [ss_eq, show decide (("label" : Str) = "label") = true from by decide +kernel]
theorem eq_jl (G : Cells) : eqOp G (.str "jump") (.str "label") = .ok (.bl false) G := by rw [ss_eq, show decide (("jump" : Str) = "label") = false from by decide +kernel]
theorem eq_fl (G : Cells) : eqOp G (.str "fill") (.str "label") = .ok (.bl false) G := by rw [ss_eq, show decide (("fill" : Str) = "label") = false from by decide +kernel]
theorem RI.setOther {r d c t : Nat} {G : Cells} {x : Cell} (h : RI r d c G) (h1 : t ≠ r) (h2 : t ≠ d) (h3 : t ≠ c) : RI r d c (G.set t x) := by
  obtain ⟨s, k, ds, cs, n1, n2, n3, q1, q2, l1, q3, l2⟩ := h.ex
  exact ⟨s, k, ds, cs, n1, n2, n3, by rw [get_set_ne h1]; exact q1, by rw [get_set_ne h2]; exact q2, l1, by rw [get_set_ne h3]; exact q3, l2⟩
def ltF : W → Option W
  | .int i => if i < 24 then some (.int i) else none
  | _ => none
theorem ltF_map (gs : List Int) : (gs.map W.int).filterMap ltF = (gs.filter fun i => decide (i < 24)).map W.int := by
  induction gs with
  | nil => rfl
  | cons g gs ih =>
    by_cases h : g < 24
    · simp [List.filterMap_cons, ltF, h, ih]
    · simp [List.filterMap_cons, ltF, h, ih]
abbrev SkQ (r d c : Nat) (G0 : Cells) : W → Cells → Prop := fun w G' => ∃ sk : List It, w = skW sk ∧ Skel sk ∧ RI r d c G' ∧ Fr [r, d] G0 G'
/-- as SkQ, and of what words -/
abbrev SkM (C : List W → Prop) (r d c : Nat) (G0 : Cells) : W → Cells → Prop := fun w G' => ∃ sk : List It, w = skW sk ∧ Skel sk ∧ RI r d c G' ∧ Fr [r, d] G0 G' ∧ ∃ ws2, sk.map It.kind = ws2.take 24 ∧ C ws2
structure LI (r d c fn : Nat) (G0 G1 : Cells) (ws : List W) (i : Nat) (G2 : Cells) : Prop where
  ri : RI r d c G2
  f1 : Fr [fn, r, d] G1 G2
  f0 : Fr [r, d] G0 G2
  ex : ∃ sk : List It, G2[fn]? = some (.lst (sk.map It.w)) ∧ sk.map It.kind = (ws.take 24).take i ∧ ∀ it ∈ sk, mkOk ws it
theorem take_one {α : Type} {xs : List α} {i : Nat} {w : α} (h : xs[i]? = some w) : xs.take (i + 1) = xs.take i ++ [w] := by
  rw [List.take_succ, h]; rfl
theorem LI.app {r d c fn : Nat} {G0 G1 G2 G3 : Cells} {ws : List W} {i : Nat} {it : It} {sk : List It} (h : LI r d c fn G0 G1 ws i G2) (hn : G0.length ≤ fn) (hl : r < G0.length ∧ d < G0.length ∧ c < G0.length)
    (hk : sk.map It.kind = (ws.take 24).take i) (hm : ∀ it ∈ sk, mkOk ws it) (hr : RI r d c G3) (f : Fr [r, d] G2 G3) (hf : G2[fn]? = some (.lst (sk.map It.w))) (hw : (ws.take 24)[i]? = some it.kind) (hi : mkOk ws it) :
    (appendW G3 (.ref fn) [it.w]).sat fun _ G4 => LI r d c fn G0 G1 ws (i + 1) G4 := by
  have hf3 := f.get hf (by simp; omega)
  have hlen : sk.length ≤ 24 := by have := congrArg List.length hk; simp at this; omega
  rw [e_app hf3 (by simp; omega)]
  refine ⟨hr.setOther (by omega) (by omega) (by omega), ?_, ?_, sk ++ [it], ?_, ?_, ?_⟩
  · exact (h.f1.trans (f.sub (by simp))).trans (Fr.set (by simp))
  · exact (h.f0.trans f).fresh hn (Fr.set (by simp))
  · rw [get_set (lt_of_get hf3), List.map_append]; rfl
  · rw [List.map_append, hk, take_one hw]; rfl
  · intro x hx
    rcases List.mem_append.mp hx with hx | hx
    · exact hm x hx
    · rw [List.mem_singleton.mp hx]; exact hi
def Bsk_6 : MS := (sSeq (sForI (mSeq (mCut (mVar 3) (mNoPart) (mPart (mC (.int 24))))) (gSet 8) (sIf (mTest (mBin eqOp (mVar 8) (mC (.str "jump")))) (sSeq (sAsg (mBin addW (mC (.int 1)) (mDef M_law_draw (mCons (mVar 0) (mCons (mC (.int 4)) (mNil))))) (gSet 9)) (sSeq (sAsg (mDef M_law_pick (mCons (mVar 0) (mCons (mLst (mCons (mC (.int 1)) (mCons (mC (.int 2)) (mCons (mC (.int 3)) (mCons (mC (.int 4)) (mCons (mC (.int 4)) (mCons (mC (.int 5)) (mCons (mC (.int 6)) (mCons (mC (.int 8)) (mCons (mC (.int 16)) (mCons (mBin addW (mC (.int 1)) (mDef M_law_draw (mCons (mVar 0) (mCons (mC (.int 90)) (mNil))))) (mNil)))))))))))) (mNil)))) (gSet 10)) (sExpr (mMeth "list" appendW (mVar 7) (mCons (mTup (mCons (mC (.str "jump")) (mCons (mDef M_law_pick (mCons (mVar 0) (mCons (mLcI (mSeq (mVar 6)) (gSet 11) (mTest (mBin ltW (mVar 11) (mC (.int 24)))) (mVar 11) [11]) (mNil)))) (mCons (mVar 9) (mCons (mBin addW (mVar 9) (mVar 10)) (mNil)))))) (mNil)))))) (sIf (mTest (mBin eqOp (mVar 8) (mC (.str "fill")))) (sExpr (mMeth "list" appendW (mVar 7) (mCons (mTup (mCons (mC (.str "fill")) (mCons (mDef M_law_pick (mCons (mVar 0) (mCons (mLst (mCons (mC (.int 2)) (mCons (mC (.int 2)) (mCons (mC (.int 4)) (mCons (mC (.int 4)) (mCons (mC (.int 4)) (mCons (mC (.int 8)) (mCons (mC (.int 8)) (mCons (mDef M_law_pick (mCons (mVar 0) (mCons (mLst (mCons (mC (.int 16)) (mCons (mC (.int 32)) (mCons (mC (.int 64)) (mNil))))) (mNil)))) (mNil)))))))))) (mNil)))) (mNil)))) (mNil)))) (sExpr (mMeth "list" appendW (mVar 7) (mCons (mTup (mCons (mC (.str "label")) (mNil))) (mNil))))))) (sRet (mCall tupleW (mCons (mVar 7) (mNil)))))
theorem sk6 {r d c wn gn fn : Nat} {G0 G : Cells} {ws : List W} {gs : List Int} {most wide : Int} {x4 x5 x8 : Option W} {N : PEnv → Cells → Prop} (hl : r < G0.length ∧ d < G0.length ∧ c < G0.length) (h : RI r d c G) (f0 : Fr [r, d] G0 G)
    (hw : G[wn]? = some (.lst ws)) (hg : G[gn]? = some (.lst (gs.map W.int))) (hf : G[fn]? = some (.lst [])) (wf : G0.length ≤ wn) (gf : G0.length ≤ gn) (ff : G0.length ≤ fn) (ngf : gn ≠ fn)
    (hkw : ∀ x ∈ ws, kw x) (wl : 1 ≤ ws.length) (wl2 : ws.length ≤ 1000) (hgs : ∀ g ∈ gs, 0 ≤ g ∧ ws[g.toNat]? = some (.str "label")) (hex : ∃ g ∈ gs, g < 24) (gl : gs.length ≤ 1000) {C : List W → Prop} (hC : C ws) :
    (Bsk_6 [some (.ref r), some (.int most), some (.int wide), some (.ref wn), x4, x5, some (.ref gn), some (.ref fn), x8, none, none, none] G).sat N (SkM C r d c G0) := by
  unfold Bsk_6
  refine so_seq (so_forI (ws.take 24) (fun i E G2 => LI r d c fn G0 (G ++ [.lst (ws.take 24)]) ws i G2 ∧ ∃ a8 a9 a10 a11 : Option W, E = [some (.ref r), some (.int most), some (.int wide), some (.ref wn), x4, x5, some (.ref gn), some (.ref fn), a8, a9, a10, a11]) ?_ ?_ ?_)
  · simp only [s_bin, s_def, s_defK, s_call, s_cons, v_nil, s_var, v_c, s_lst, s_tup, s_test, s_tru, s_notT, s_andT, s_orT, s_and, s_or, s_not, s_if, s_neg, s_meth, s_cut, v_nopart, s_part, s_chain, s_seq, s_rng1, s_rng2, s_enum, s_zipL, s_tupR1, s_tupR2, s_yes, List.getElem?_cons_zero, List.getElem?_cons_succ, Option.some.injEq, exists_eq_left', v_ok, e_add, e_sub, e_int, e_min, e_max, e_maxU, e_lenT, e_tupT, e_lt, e_le, e_gt, e_ge, i_tup, e_cutT, List.set_cons_succ, List.set_cons_zero, List.length_cons, List.length_nil, Nat.reduceAdd, W.int.injEq, W.bl.injEq, W.ref.injEq, W.tup.injEq, W.str.injEq, reduceCtorEq, false_and, and_false, exists_false, or_false, false_or, true_and, and_true, exists_const, exists_eq_left, sz0, sz1, sz2, sz3, sz4, sz5, sz6, sz7, sz8, sz9, sz10, e_cutL hw]
    rw [show (24 : Int) = ((24 : Nat) : Int) from rfl, cut_to]
    rw [i_lst (push_get G (.lst (ws.take 24)))]
    have it := it_lst (S := [fn, r, d]) (push_get G (.lst (ws.take 24))) (by have := lt_of_get hf; have := f0.1; simp; omega)
    refine ⟨it.len, ⟨⟨h.keep Fr.push, Fr.refl, f0.trans Fr.push, [], ?_, rfl, by simp⟩, x8, none, none, none, rfl⟩, fun i E' G' q => it.at' _ _ q.1.f1⟩
    exact (Fr.push (S := [])).get hf (by simp)
  · rintro i w E G2 hwi ⟨L, a8, a9, a10, a11, rfl⟩
    obtain ⟨sk, hsk, hk, hm⟩ := L.ex
    have hkw1 : kw w := hkw w (List.mem_of_mem_take (List.mem_of_getElem? hwi))
    have hg2 : G2[gn]? = some (.lst (gs.map W.int)) := L.f1.get ((Fr.push (S := [])).get hg (by simp)) (by simp; omega)
    have isf := e_isL hsk
    rcases hkw1 with rfl | rfl | rfl
    · simp only [p2_c, p3_c, pT2_c, pT3_c, t_asg, t_expr, t_ret, t_if, t_nx, t_par, t_par3, g_set, g_tup2, g_tup3, g_put, s_bin, s_def, s_defK, s_call, s_cons, v_nil, s_var, v_c, s_lst, s_tup, s_test, s_tru, s_notT, s_andT, s_orT, s_and, s_or, s_not, s_if, s_neg, s_meth, s_cut, v_nopart, s_part, s_chain, s_seq, s_rng1, s_rng2, s_enum, s_zipL, s_tupR1, s_tupR2, s_yes, List.getElem?_cons_zero, List.getElem?_cons_succ, Option.some.injEq, exists_eq_left', v_ok, e_add, e_sub, e_int, e_min, e_max, e_maxU, e_lenT, e_tupT, e_lt, e_le, e_gt, e_ge, i_tup, e_cutT, List.set_cons_succ, List.set_cons_zero, List.length_cons, List.length_nil, Nat.reduceAdd, W.int.injEq, W.bl.injEq, W.ref.injEq, W.tup.injEq, W.str.injEq, reduceCtorEq, false_and, and_false, exists_false, or_false, false_or, true_and, and_true, exists_const, exists_eq_left, sz0, sz1, sz2, sz3, sz4, sz5, sz6, sz7, sz8, sz9, sz10, eq_jj, if_true]
      refine so_seq ?_
      simp only [p2_c, p3_c, pT2_c, pT3_c, t_asg, t_expr, t_ret, t_if, t_nx, t_par, t_par3, g_set, g_tup2, g_tup3, g_put, s_bin, s_def, s_defK, s_call, s_cons, v_nil, s_var, v_c, s_lst, s_tup, s_test, s_tru, s_notT, s_andT, s_orT, s_and, s_or, s_not, s_if, s_neg, s_meth, s_cut, v_nopart, s_part, s_chain, s_seq, s_rng1, s_rng2, s_enum, s_zipL, s_tupR1, s_tupR2, s_yes, List.getElem?_cons_zero, List.getElem?_cons_succ, Option.some.injEq, exists_eq_left', v_ok, e_add, e_sub, e_int, e_min, e_max, e_maxU, e_lenT, e_tupT, e_lt, e_le, e_gt, e_ge, i_tup, e_cutT, List.set_cons_succ, List.set_cons_zero, List.length_cons, List.length_nil, Nat.reduceAdd, W.int.injEq, W.bl.injEq, W.ref.injEq, W.tup.injEq, W.str.injEq, reduceCtorEq, false_and, and_false, exists_false, or_false, false_or, true_and, and_true, exists_const, exists_eq_left, sz0, sz1, sz2, sz3, sz4, sz5, sz6, sz7, sz8, sz9, sz10]
      refine (draw_ok L.ri (size := 4) (by decide) (by decide)).mono fun w G3 q => ?_
      obtain ⟨⟨b, rfl, b0, b1⟩, hr3, f3⟩ := q
      simp only [s_bin, s_def, s_defK, s_call, s_cons, v_nil, s_var, v_c, s_lst, s_tup, s_test, s_tru, s_notT, s_andT, s_orT, s_and, s_or, s_not, s_if, s_neg, s_meth, s_cut, v_nopart, s_part, s_chain, s_seq, s_rng1, s_rng2, s_enum, s_zipL, s_tupR1, s_tupR2, s_yes, List.getElem?_cons_zero, List.getElem?_cons_succ, Option.some.injEq, exists_eq_left', v_ok, e_add, e_sub, e_int, e_min, e_max, e_maxU, e_lenT, e_tupT, e_lt, e_le, e_gt, e_ge, i_tup, e_cutT, List.set_cons_succ, List.set_cons_zero, List.length_cons, List.length_nil, Nat.reduceAdd, W.int.injEq, W.bl.injEq, W.ref.injEq, W.tup.injEq, W.str.injEq, reduceCtorEq, false_and, and_false, exists_false, or_false, false_or, true_and, and_true, exists_const, exists_eq_left, sz0, sz1, sz2, sz3, sz4, sz5, sz6, sz7, sz8, sz9, sz10]
      refine so_seq ?_
      simp only [p2_c, p3_c, pT2_c, pT3_c, t_asg, t_expr, t_ret, t_if, t_nx, t_par, t_par3, g_set, g_tup2, g_tup3, g_put, s_bin, s_def, s_defK, s_call, s_cons, v_nil, s_var, v_c, s_lst, s_tup, s_test, s_tru, s_notT, s_andT, s_orT, s_and, s_or, s_not, s_if, s_neg, s_meth, s_cut, v_nopart, s_part, s_chain, s_seq, s_rng1, s_rng2, s_enum, s_zipL, s_tupR1, s_tupR2, s_yes, List.getElem?_cons_zero, List.getElem?_cons_succ, Option.some.injEq, exists_eq_left', v_ok, e_add, e_sub, e_int, e_min, e_max, e_maxU, e_lenT, e_tupT, e_lt, e_le, e_gt, e_ge, i_tup, e_cutT, List.set_cons_succ, List.set_cons_zero, List.length_cons, List.length_nil, Nat.reduceAdd, W.int.injEq, W.bl.injEq, W.ref.injEq, W.tup.injEq, W.str.injEq, reduceCtorEq, false_and, and_false, exists_false, or_false, false_or, true_and, and_true, exists_const, exists_eq_left, sz0, sz1, sz2, sz3, sz4, sz5, sz6, sz7, sz8, sz9, sz10]
      refine (draw_ok hr3 (size := 90) (by decide) (by decide)).mono fun w G4 q => ?_
      obtain ⟨⟨z, rfl, z0, z1⟩, hr4, f4⟩ := q
      simp only [s_bin, s_def, s_defK, s_call, s_cons, v_nil, s_var, v_c, s_lst, s_tup, s_test, s_tru, s_notT, s_andT, s_orT, s_and, s_or, s_not, s_if, s_neg, s_meth, s_cut, v_nopart, s_part, s_chain, s_seq, s_rng1, s_rng2, s_enum, s_zipL, s_tupR1, s_tupR2, s_yes, List.getElem?_cons_zero, List.getElem?_cons_succ, Option.some.injEq, exists_eq_left', v_ok, e_add, e_sub, e_int, e_min, e_max, e_maxU, e_lenT, e_tupT, e_lt, e_le, e_gt, e_ge, i_tup, e_cutT, List.set_cons_succ, List.set_cons_zero, List.length_cons, List.length_nil, Nat.reduceAdd, W.int.injEq, W.bl.injEq, W.ref.injEq, W.tup.injEq, W.str.injEq, reduceCtorEq, false_and, and_false, exists_false, or_false, false_or, true_and, and_true, exists_const, exists_eq_left, sz0, sz1, sz2, sz3, sz4, sz5, sz6, sz7, sz8, sz9, sz10]
      refine (picks_ok hr4 (by simp) (by simp)).mono fun w G5 q => ?_
      obtain ⟨q1, hr5, f5⟩ := q
      obtain ⟨gr, rfl, g0, g1⟩ : ∃ a, w = .int a ∧ 1 ≤ a ∧ a ≤ 90 := by
        simp only [List.mem_cons, List.not_mem_nil, or_false] at q1
        rcases q1 with h | h | h | h | h | h | h | h | h | h <;> exact ⟨_, h, by omega, by omega⟩
      have f25 := (f3.trans f4).trans f5
      have hsk5 := f25.get hsk (by simp; omega)
      have hg5 := f25.get hg2 (by simp; omega)
      simp only [p2_c, p3_c, pT2_c, pT3_c, t_asg, t_expr, t_ret, t_if, t_nx, t_par, t_par3, g_set, g_tup2, g_tup3, g_put, s_bin, s_def, s_defK, s_call, s_cons, v_nil, s_var, v_c, s_lst, s_tup, s_test, s_tru, s_notT, s_andT, s_orT, s_and, s_or, s_not, s_if, s_neg, s_meth, s_cut, v_nopart, s_part, s_chain, s_seq, s_rng1, s_rng2, s_enum, s_zipL, s_tupR1, s_tupR2, s_yes, List.getElem?_cons_zero, List.getElem?_cons_succ, Option.some.injEq, exists_eq_left', v_ok, e_add, e_sub, e_int, e_min, e_max, e_maxU, e_lenT, e_tupT, e_lt, e_le, e_gt, e_ge, i_tup, e_cutT, List.set_cons_succ, List.set_cons_zero, List.length_cons, List.length_nil, Nat.reduceAdd, W.int.injEq, W.bl.injEq, W.ref.injEq, W.tup.injEq, W.str.injEq, reduceCtorEq, false_and, and_false, exists_false, or_false, false_or, true_and, and_true, exists_const, exists_eq_left, sz0, sz1, sz2, sz3, sz4, sz5, sz6, sz7, sz8, sz9, sz10, e_isL hsk5]
      refine lc_pure (gs.map W.int) ltF ?_ (by simp; omega) ?_ ?_
      · simp only [s_bin, s_def, s_defK, s_call, s_cons, v_nil, s_var, v_c, s_lst, s_tup, s_test, s_tru, s_notT, s_andT, s_orT, s_and, s_or, s_not, s_if, s_neg, s_meth, s_cut, v_nopart, s_part, s_chain, s_seq, s_rng1, s_rng2, s_enum, s_zipL, s_tupR1, s_tupR2, s_yes, List.getElem?_cons_zero, List.getElem?_cons_succ, Option.some.injEq, exists_eq_left', v_ok, e_add, e_sub, e_int, e_min, e_max, e_maxU, e_lenT, e_tupT, e_lt, e_le, e_gt, e_ge, i_tup, e_cutT, List.set_cons_succ, List.set_cons_zero, List.length_cons, List.length_nil, Nat.reduceAdd, W.int.injEq, W.bl.injEq, W.ref.injEq, W.tup.injEq, W.str.injEq, reduceCtorEq, false_and, and_false, exists_false, or_false, false_or, true_and, and_true, exists_const, exists_eq_left, sz0, sz1, sz2, sz3, sz4, sz5, sz6, sz7, sz8, sz9, sz10, i_lst hg5]
        exact ⟨Fr.refl, it_lst hg5 (by simp)⟩
      · intro k w G' hwk _
        rw [List.getElem?_map] at hwk
        obtain ⟨gi, _, rfl⟩ := Option.map_eq_some_iff.mp hwk
        simp only [wipeE, p2_c, p3_c, pT2_c, pT3_c, t_asg, t_expr, t_ret, t_if, t_nx, t_par, t_par3, g_set, g_tup2, g_tup3, g_put, s_bin, s_def, s_defK, s_call, s_cons, v_nil, s_var, v_c, s_lst, s_tup, s_test, s_tru, s_notT, s_andT, s_orT, s_and, s_or, s_not, s_if, s_neg, s_meth, s_cut, v_nopart, s_part, s_chain, s_seq, s_rng1, s_rng2, s_enum, s_zipL, s_tupR1, s_tupR2, s_yes, List.getElem?_cons_zero, List.getElem?_cons_succ, Option.some.injEq, exists_eq_left', v_ok, e_add, e_sub, e_int, e_min, e_max, e_maxU, e_lenT, e_tupT, e_lt, e_le, e_gt, e_ge, i_tup, e_cutT, List.set_cons_succ, List.set_cons_zero, List.length_cons, List.length_nil, Nat.reduceAdd, W.int.injEq, W.bl.injEq, W.ref.injEq, W.tup.injEq, W.str.injEq, reduceCtorEq, false_and, and_false, exists_false, or_false, false_or, true_and, and_true, exists_const, exists_eq_left, sz0, sz1, sz2, sz3, sz4, sz5, sz6, sz7, sz8, sz9, sz10, decide_eq_true_eq, ltF]
        exact hif (fun h => by simp [h, Fr.refl]) fun h => by simp [h, Fr.refl]
      · intro n G6 f6 hn hgn
        rw [ltF_map] at hgn
        obtain ⟨g1', hg1', hg2'⟩ := hex
        have hr6 := hr5.keep f6
        have hlr := L.f0.1
        have l25 := f25.1
        refine (pick_ok hr6 hgn (by omega) (by omega) ?_ ?_).mono fun w G7 q => ?_
        · rw [List.length_map]; exact List.length_pos_of_mem (a := g1') (List.mem_filter.mpr ⟨hg1', by simpa using hg2'⟩)
        · have := List.length_filter_le (fun i => decide (i < 24)) gs
          simp at this ⊢; omega
        · obtain ⟨q1, hr7, f7⟩ := q
          obtain ⟨gi, hgi, rfl⟩ := List.mem_map.mp q1
          obtain ⟨hgi1, hgi2⟩ := List.mem_filter.mp hgi
          have hgi2 : gi < 24 := by simpa using hgi2
          have := hgs gi hgi1
          exact (L.app (it := .jmp gi (1 + b) (1 + b + gr)) ff hl hk hm hr7 ((f25.trans f6.of_nil).trans f7) hsk hwi ⟨this.1, hgi2, this.2, by omega, by omega, by omega⟩).mono fun _ G5 q => ⟨q, _, _, _, _, rfl⟩
    · simp only [p2_c, p3_c, pT2_c, pT3_c, t_asg, t_expr, t_ret, t_if, t_nx, t_par, t_par3, g_set, g_tup2, g_tup3, g_put, s_bin, s_def, s_defK, s_call, s_cons, v_nil, s_var, v_c, s_lst, s_tup, s_test, s_tru, s_notT, s_andT, s_orT, s_and, s_or, s_not, s_if, s_neg, s_meth, s_cut, v_nopart, s_part, s_chain, s_seq, s_rng1, s_rng2, s_enum, s_zipL, s_tupR1, s_tupR2, s_yes, List.getElem?_cons_zero, List.getElem?_cons_succ, Option.some.injEq, exists_eq_left', v_ok, e_add, e_sub, e_int, e_min, e_max, e_maxU, e_lenT, e_tupT, e_lt, e_le, e_gt, e_ge, i_tup, e_cutT, List.set_cons_succ, List.set_cons_zero, List.length_cons, List.length_nil, Nat.reduceAdd, W.int.injEq, W.bl.injEq, W.ref.injEq, W.tup.injEq, W.str.injEq, reduceCtorEq, false_and, and_false, exists_false, or_false, false_or, true_and, and_true, exists_const, exists_eq_left, sz0, sz1, sz2, sz3, sz4, sz5, sz6, sz7, sz8, sz9, sz10, eq_fj, eq_ff, Bool.false_eq_true, if_false, if_true, isf]
      refine (picks_ok L.ri (xs := [.int 16, .int 32, .int 64]) (by simp) (by simp)).mono fun w G3 q => ?_
      obtain ⟨q1, q2, q3⟩ := q
      refine (picks_ok q2 (xs := [.int 2, .int 2, .int 4, .int 4, .int 4, .int 8, .int 8, w]) (by simp) (by simp)).mono fun w' G4 p => ?_
      obtain ⟨p1, p2, p3⟩ := p
      obtain ⟨a, rfl, ha⟩ : ∃ a, w' = .int a ∧ fillOk a := by
        unfold fillOk
        simp only [List.mem_cons, List.not_mem_nil, or_false] at q1 p1
        rcases q1 with rfl | rfl | rfl <;> rcases p1 with h | h | h | h | h | h | h | h <;> exact ⟨_, h, by omega⟩
      exact (L.app (it := .fil a) ff hl hk hm p2 (q3.trans p3) hsk hwi ha).mono fun _ G5 q => ⟨q, _, _, _, _, rfl⟩
    · simp only [p2_c, p3_c, pT2_c, pT3_c, t_asg, t_expr, t_ret, t_if, t_nx, t_par, t_par3, g_set, g_tup2, g_tup3, g_put, s_bin, s_def, s_defK, s_call, s_cons, v_nil, s_var, v_c, s_lst, s_tup, s_test, s_tru, s_notT, s_andT, s_orT, s_and, s_or, s_not, s_if, s_neg, s_meth, s_cut, v_nopart, s_part, s_chain, s_seq, s_rng1, s_rng2, s_enum, s_zipL, s_tupR1, s_tupR2, s_yes, List.getElem?_cons_zero, List.getElem?_cons_succ, Option.some.injEq, exists_eq_left', v_ok, e_add, e_sub, e_int, e_min, e_max, e_maxU, e_lenT, e_tupT, e_lt, e_le, e_gt, e_ge, i_tup, e_cutT, List.set_cons_succ, List.set_cons_zero, List.length_cons, List.length_nil, Nat.reduceAdd, W.int.injEq, W.bl.injEq, W.ref.injEq, W.tup.injEq, W.str.injEq, reduceCtorEq, false_and, and_false, exists_false, or_false, false_or, true_and, and_true, exists_const, exists_eq_left, sz0, sz1, sz2, sz3, sz4, sz5, sz6, sz7, sz8, sz9, sz10, eq_lj, eq_lf, Bool.false_eq_true, if_false, isf]
      exact (L.app (it := .lab) ff hl hk hm L.ri Fr.refl hsk hwi trivial).mono fun _ G5 q => ⟨q, _, _, _, _, rfl⟩
  · rintro E G2 ⟨L, a8, a9, a10, a11, rfl⟩
    obtain ⟨sk, hsk, hk, hm⟩ := L.ex
    simp only [p2_c, p3_c, pT2_c, pT3_c, t_asg, t_expr, t_ret, t_if, t_nx, t_par, t_par3, g_set, g_tup2, g_tup3, g_put, s_bin, s_def, s_defK, s_call, s_cons, v_nil, s_var, v_c, s_lst, s_tup, s_test, s_tru, s_notT, s_andT, s_orT, s_and, s_or, s_not, s_if, s_neg, s_meth, s_cut, v_nopart, s_part, s_chain, s_seq, s_rng1, s_rng2, s_enum, s_zipL, s_tupR1, s_tupR2, s_yes, List.getElem?_cons_zero, List.getElem?_cons_succ, Option.some.injEq, exists_eq_left', v_ok, e_add, e_sub, e_int, e_min, e_max, e_maxU, e_lenT, e_tupT, e_lt, e_le, e_gt, e_ge, i_tup, e_cutT, List.set_cons_succ, List.set_cons_zero, List.length_cons, List.length_nil, Nat.reduceAdd, W.int.injEq, W.bl.injEq, W.ref.injEq, W.tup.injEq, W.str.injEq, reduceCtorEq, false_and, and_false, exists_false, or_false, false_or, true_and, and_true, exists_const, exists_eq_left, sz0, sz1, sz2, sz3, sz4, sz5, sz6, sz7, sz8, sz9, sz10, e_tupL hsk]
    have hk' : sk.map It.kind = ws.take 24 := by rw [hk, List.take_of_length_le (Nat.le_refl _)]
    exact ⟨sk, rfl, skel_of wl hk' hm, L.ri, L.f0, ws, hk', hC⟩
end NS
/- part T4 -/
set_option maxHeartbeats 1000000
namespace NS
open PySem PySem.Spec PyProof.Rows L2 PL

def Bsk_3 : MS := (sSeq (sAsg (mLcI (mEnum (mCons (mVar 3) (mNil))) (gTupW 2 (gsCons 5 (gsCons 8 (gsNil)))) (mTest (mBin eqOp (mVar 8) (mC (.str "jump")))) (mVar 5) [5, 8]) (gSet 4)) (sSeq (sForI (mSeq (mCut (mVar 4) (mPart (mVar 1)) (mNoPart))) (gSet 5) (sAsg (mC (.str "fill")) (gPut (mVar 3) (mVar 5)))) (sSeq (sPar 6 7 (mCons (mLcI (mEnum (mCons (mVar 3) (mNil))) (gTupW 2 (gsCons 5 (gsCons 8 (gsNil)))) (mTest (mBin eqOp (mVar 8) (mC (.str "label")))) (mVar 5) [5, 8]) (mCons (mLst (mNil)) (mNil)))) (sSeq (sForI (mSeq (mCut (mVar 3) (mNoPart) (mPart (mC (.int 24))))) (gSet 8) (sIf (mTest (mBin eqOp (mVar 8) (mC (.str "jump")))) (sSeq (sAsg (mBin addW (mC (.int 1)) (mDef M_law_draw (mCons (mVar 0) (mCons (mC (.int 4)) (mNil))))) (gSet 9)) (sSeq (sAsg (mDef M_law_pick (mCons (mVar 0) (mCons (mLst (mCons (mC (.int 1)) (mCons (mC (.int 2)) (mCons (mC (.int 3)) (mCons (mC (.int 4)) (mCons (mC (.int 4)) (mCons (mC (.int 5)) (mCons (mC (.int 6)) (mCons (mC (.int 8)) (mCons (mC (.int 16)) (mCons (mBin addW (mC (.int 1)) (mDef M_law_draw (mCons (mVar 0) (mCons (mC (.int 90)) (mNil))))) (mNil)))))))))))) (mNil)))) (gSet 10)) (sExpr (mMeth "list" appendW (mVar 7) (mCons (mTup (mCons (mC (.str "jump")) (mCons (mDef M_law_pick (mCons (mVar 0) (mCons (mLcI (mSeq (mVar 6)) (gSet 11) (mTest (mBin ltW (mVar 11) (mC (.int 24)))) (mVar 11) [11]) (mNil)))) (mCons (mVar 9) (mCons (mBin addW (mVar 9) (mVar 10)) (mNil)))))) (mNil)))))) (sIf (mTest (mBin eqOp (mVar 8) (mC (.str "fill")))) (sExpr (mMeth "list" appendW (mVar 7) (mCons (mTup (mCons (mC (.str "fill")) (mCons (mDef M_law_pick (mCons (mVar 0) (mCons (mLst (mCons (mC (.int 2)) (mCons (mC (.int 2)) (mCons (mC (.int 4)) (mCons (mC (.int 4)) (mCons (mC (.int 4)) (mCons (mC (.int 8)) (mCons (mC (.int 8)) (mCons (mDef M_law_pick (mCons (mVar 0) (mCons (mLst (mCons (mC (.int 16)) (mCons (mC (.int 32)) (mCons (mC (.int 64)) (mNil))))) (mNil)))) (mNil)))))))))) (mNil)))) (mNil)))) (mNil)))) (sExpr (mMeth "list" appendW (mVar 7) (mCons (mTup (mCons (mC (.str "label")) (mNil))) (mNil))))))) (sRet (mCall tupleW (mCons (mVar 7) (mNil))))))))
def Bsk_2 : MS := (sSeq (sExpr (mMeth "list" insertW (mVar 3) (mCons (mDef M_law_draw (mCons (mVar 0) (mCons (mBin addW (mCall lenW (mCons (mVar 3) (mNil))) (mC (.int 1))) (mNil)))) (mCons (mC (.str "label")) (mNil))))) (sSeq (sAsg (mLcI (mEnum (mCons (mVar 3) (mNil))) (gTupW 2 (gsCons 5 (gsCons 8 (gsNil)))) (mTest (mBin eqOp (mVar 8) (mC (.str "jump")))) (mVar 5) [5, 8]) (gSet 4)) (sSeq (sForI (mSeq (mCut (mVar 4) (mPart (mVar 1)) (mNoPart))) (gSet 5) (sAsg (mC (.str "fill")) (gPut (mVar 3) (mVar 5)))) (sSeq (sPar 6 7 (mCons (mLcI (mEnum (mCons (mVar 3) (mNil))) (gTupW 2 (gsCons 5 (gsCons 8 (gsNil)))) (mTest (mBin eqOp (mVar 8) (mC (.str "label")))) (mVar 5) [5, 8]) (mCons (mLst (mNil)) (mNil)))) (sSeq (sForI (mSeq (mCut (mVar 3) (mNoPart) (mPart (mC (.int 24))))) (gSet 8) (sIf (mTest (mBin eqOp (mVar 8) (mC (.str "jump")))) (sSeq (sAsg (mBin addW (mC (.int 1)) (mDef M_law_draw (mCons (mVar 0) (mCons (mC (.int 4)) (mNil))))) (gSet 9)) (sSeq (sAsg (mDef M_law_pick (mCons (mVar 0) (mCons (mLst (mCons (mC (.int 1)) (mCons (mC (.int 2)) (mCons (mC (.int 3)) (mCons (mC (.int 4)) (mCons (mC (.int 4)) (mCons (mC (.int 5)) (mCons (mC (.int 6)) (mCons (mC (.int 8)) (mCons (mC (.int 16)) (mCons (mBin addW (mC (.int 1)) (mDef M_law_draw (mCons (mVar 0) (mCons (mC (.int 90)) (mNil))))) (mNil)))))))))))) (mNil)))) (gSet 10)) (sExpr (mMeth "list" appendW (mVar 7) (mCons (mTup (mCons (mC (.str "jump")) (mCons (mDef M_law_pick (mCons (mVar 0) (mCons (mLcI (mSeq (mVar 6)) (gSet 11) (mTest (mBin ltW (mVar 11) (mC (.int 24)))) (mVar 11) [11]) (mNil)))) (mCons (mVar 9) (mCons (mBin addW (mVar 9) (mVar 10)) (mNil)))))) (mNil)))))) (sIf (mTest (mBin eqOp (mVar 8) (mC (.str "fill")))) (sExpr (mMeth "list" appendW (mVar 7) (mCons (mTup (mCons (mC (.str "fill")) (mCons (mDef M_law_pick (mCons (mVar 0) (mCons (mLst (mCons (mC (.int 2)) (mCons (mC (.int 2)) (mCons (mC (.int 4)) (mCons (mC (.int 4)) (mCons (mC (.int 4)) (mCons (mC (.int 8)) (mCons (mC (.int 8)) (mCons (mDef M_law_pick (mCons (mVar 0) (mCons (mLst (mCons (mC (.int 16)) (mCons (mC (.int 32)) (mCons (mC (.int 64)) (mNil))))) (mNil)))) (mNil)))))))))) (mNil)))) (mNil)))) (mNil)))) (sExpr (mMeth "list" appendW (mVar 7) (mCons (mTup (mCons (mC (.str "label")) (mNil))) (mNil))))))) (sRet (mCall tupleW (mCons (mVar 7) (mNil)))))))))
theorem isWd_t (x : Str) : isWd x (.str x) = true := by unfold isWd; simp
theorem isWd_ne {x y : Str} (h : decide (x = y) = false) : isWd y (.str x) = false := by unfold isWd; simpa using h
theorem wd_jj : isWd "jump" (.str "jump") = true := isWd_t _
theorem wd_fj : isWd "jump" (.str "fill") = false := isWd_ne (by decide +kernel)
theorem wd_lj : isWd "jump" (.str "label") = false := isWd_ne (by decide +kernel)
theorem wd_ll : isWd "label" (.str "label") = true := isWd_t _
theorem wd_fl : isWd "label" (.str "fill") = false := isWd_ne (by decide +kernel)
theorem wd_jl : isWd "label" (.str "jump") = false := isWd_ne (by decide +kernel)
def Cm (m : Int) : List W → Prop := fun ws => ((places (isWd "jump") 0 ws).length : Int) ≤ m
theorem nodup_len : ∀ {l r : List Int}, l.Nodup → (∀ x ∈ l, x ∈ r) → l.length ≤ r.length
  | [], r, _, _ => Nat.zero_le _
  | x :: l, r, hd, hs => by
    have hx := hs x (by simp)
    have h1 := List.nodup_cons.mp hd
    have := nodup_len (r := r.erase x) h1.2 fun y hy => (List.mem_erase_of_ne (fun e : y = x => h1.1 (by rw [← e]; exact hy))).mpr (hs y (by simp [hy]))
    rw [List.length_erase_of_mem hx] at this
    have := List.length_pos_of_mem hx
    simp only [List.length_cons]; omega
theorem places_lt {α : Type} {p : α → Bool} : ∀ {xs : List α} {k : Nat}, (places p k xs).Pairwise (· < ·) ∧ ∀ i ∈ places p k xs, (k : Int) ≤ i
  | [], k => ⟨.nil, fun i hi => by cases hi⟩
  | x :: xs, k => by
    have ih := places_lt (p := p) (xs := xs) (k := k + 1)
    unfold places
    split
    · refine ⟨List.pairwise_cons.mpr ⟨fun i hi => by have := ih.2 i hi; omega, ih.1⟩, fun i hi => ?_⟩
      rcases List.mem_cons.mp hi with rfl | hi
      · omega
      · have := ih.2 i hi; omega
    · exact ⟨ih.1, fun i hi => by have := ih.2 i hi; omega⟩
theorem places_nd {α : Type} {p : α → Bool} {xs : List α} {k : Nat} : (places p k xs).Nodup := (places_lt (p := p)).1.imp fun h => by omega
theorem sk3 {r d c wn : Nat} {G0 G : Cells} {ws : List W} {most wide : Int} {N : PEnv → Cells → Prop} (hl : r < G0.length ∧ d < G0.length ∧ c < G0.length) (h : RI r d c G) (f0 : Fr [r, d] G0 G)
    (hw : G[wn]? = some (.lst ws)) (wf : G0.length ≤ wn) (hmost : 0 ≤ most) (hkw : ∀ x ∈ ws, kw x) (hlab : ∃ p, p < 24 ∧ ws[p]? = some (.str "label")) (wl2 : ws.length ≤ 1000) :
    (Bsk_3 [some (.ref r), some (.int most), some (.int wide), some (.ref wn), none, none, none, none, none, none, none, none] G).sat N (SkM (Cm most) r d c G0) := by
  unfold Bsk_3
  refine so_seq ?_
  simp only [p2_c, p3_c, pT2_c, pT3_c, t_asg, t_expr, t_ret, t_if, t_nx, t_par, t_par3, g_set, g_tup2, g_tup3, g_put]
  refine lc_pure (enW ws) (fF (isWd "jump")) ?_ (by rw [enW_len]; omega) ?_ ?_
  · simp only [s_bin, s_def, s_defK, s_call, s_cons, v_nil, s_var, v_c, s_lst, s_tup, s_test, s_tru, s_notT, s_andT, s_orT, s_and, s_or, s_not, s_if, s_neg, s_meth, s_cut, v_nopart, s_part, s_chain, s_seq, s_rng1, s_rng2, s_enum, s_zipL, s_tupR1, s_tupR2, s_yes, List.getElem?_cons_zero, List.getElem?_cons_succ, Option.some.injEq, exists_eq_left', v_ok, e_add, e_sub, e_int, e_min, e_max, e_maxU, e_lenT, e_tupT, e_lt, e_le, e_gt, e_ge, i_tup, e_cutT, List.set_cons_succ, List.set_cons_zero, List.length_cons, List.length_nil, Nat.reduceAdd, W.int.injEq, W.bl.injEq, W.ref.injEq, W.tup.injEq, W.str.injEq, reduceCtorEq, false_and, and_false, exists_false, or_false, false_or, true_and, and_true, exists_const, exists_eq_left, sz0, sz1, sz2, sz3, sz4, sz5, sz6, sz7, sz8, sz9, sz10, rdL_lst hw, Option.isSome_some]
    exact ⟨Fr.refl, it_enL hw (by simp)⟩
  · intro i w G' hwi _
    obtain ⟨x, hx, rfl⟩ := enW_inv hwi
    rcases hkw x (List.mem_of_getElem? hx) with rfl | rfl | rfl
    · simp only [wipeE, p2_c, p3_c, pT2_c, pT3_c, t_asg, t_expr, t_ret, t_if, t_nx, t_par, t_par3, g_set, g_tup2, g_tup3, g_put, s_bin, s_def, s_defK, s_call, s_cons, v_nil, s_var, v_c, s_lst, s_tup, s_test, s_tru, s_notT, s_andT, s_orT, s_and, s_or, s_not, s_if, s_neg, s_meth, s_cut, v_nopart, s_part, s_chain, s_seq, s_rng1, s_rng2, s_enum, s_zipL, s_tupR1, s_tupR2, s_yes, List.getElem?_cons_zero, List.getElem?_cons_succ, Option.some.injEq, exists_eq_left', v_ok, e_add, e_sub, e_int, e_min, e_max, e_maxU, e_lenT, e_tupT, e_lt, e_le, e_gt, e_ge, i_tup, e_cutT, List.set_cons_succ, List.set_cons_zero, List.length_cons, List.length_nil, Nat.reduceAdd, W.int.injEq, W.bl.injEq, W.ref.injEq, W.tup.injEq, W.str.injEq, reduceCtorEq, false_and, and_false, exists_false, or_false, false_or, true_and, and_true, exists_const, exists_eq_left, sz0, sz1, sz2, sz3, sz4, sz5, sz6, sz7, sz8, sz9, sz10, eq_jj, if_true, fF, wd_jj, Fr.refl]
    · simp only [wipeE, p2_c, p3_c, pT2_c, pT3_c, t_asg, t_expr, t_ret, t_if, t_nx, t_par, t_par3, g_set, g_tup2, g_tup3, g_put, s_bin, s_def, s_defK, s_call, s_cons, v_nil, s_var, v_c, s_lst, s_tup, s_test, s_tru, s_notT, s_andT, s_orT, s_and, s_or, s_not, s_if, s_neg, s_meth, s_cut, v_nopart, s_part, s_chain, s_seq, s_rng1, s_rng2, s_enum, s_zipL, s_tupR1, s_tupR2, s_yes, List.getElem?_cons_zero, List.getElem?_cons_succ, Option.some.injEq, exists_eq_left', v_ok, e_add, e_sub, e_int, e_min, e_max, e_maxU, e_lenT, e_tupT, e_lt, e_le, e_gt, e_ge, i_tup, e_cutT, List.set_cons_succ, List.set_cons_zero, List.length_cons, List.length_nil, Nat.reduceAdd, W.int.injEq, W.bl.injEq, W.ref.injEq, W.tup.injEq, W.str.injEq, reduceCtorEq, false_and, and_false, exists_false, or_false, false_or, true_and, and_true, exists_const, exists_eq_left, sz0, sz1, sz2, sz3, sz4, sz5, sz6, sz7, sz8, sz9, sz10, eq_fj, if_true, if_false, fF, wd_fj, Fr.refl, Bool.false_eq_true]
    · simp only [wipeE, p2_c, p3_c, pT2_c, pT3_c, t_asg, t_expr, t_ret, t_if, t_nx, t_par, t_par3, g_set, g_tup2, g_tup3, g_put, s_bin, s_def, s_defK, s_call, s_cons, v_nil, s_var, v_c, s_lst, s_tup, s_test, s_tru, s_notT, s_andT, s_orT, s_and, s_or, s_not, s_if, s_neg, s_meth, s_cut, v_nopart, s_part, s_chain, s_seq, s_rng1, s_rng2, s_enum, s_zipL, s_tupR1, s_tupR2, s_yes, List.getElem?_cons_zero, List.getElem?_cons_succ, Option.some.injEq, exists_eq_left', v_ok, e_add, e_sub, e_int, e_min, e_max, e_maxU, e_lenT, e_tupT, e_lt, e_le, e_gt, e_ge, i_tup, e_cutT, List.set_cons_succ, List.set_cons_zero, List.length_cons, List.length_nil, Nat.reduceAdd, W.int.injEq, W.bl.injEq, W.ref.injEq, W.tup.injEq, W.str.injEq, reduceCtorEq, false_and, and_false, exists_false, or_false, false_or, true_and, and_true, exists_const, exists_eq_left, sz0, sz1, sz2, sz3, sz4, sz5, sz6, sz7, sz8, sz9, sz10, eq_lj, if_true, if_false, fF, wd_lj, Fr.refl, Bool.false_eq_true]
  intro jn G1 f1 hjn hj
  unfold enW at hj
  rw [en_places] at hj
  have h1 := h.keep f1
  have hw1 := f1.get hw (by simp)
  have f01 := f0.trans f1.of_nil
  have wlt := lt_of_get hw
  simp only [s_bin, s_def, s_defK, s_call, s_cons, v_nil, s_var, v_c, s_lst, s_tup, s_test, s_tru, s_notT, s_andT, s_orT, s_and, s_or, s_not, s_if, s_neg, s_meth, s_cut, v_nopart, s_part, s_chain, s_seq, s_rng1, s_rng2, s_enum, s_zipL, s_tupR1, s_tupR2, s_yes, List.getElem?_cons_zero, List.getElem?_cons_succ, Option.some.injEq, exists_eq_left', v_ok, e_add, e_sub, e_int, e_min, e_max, e_maxU, e_lenT, e_tupT, e_lt, e_le, e_gt, e_ge, i_tup, e_cutT, List.set_cons_succ, List.set_cons_zero, List.length_cons, List.length_nil, Nat.reduceAdd, W.int.injEq, W.bl.injEq, W.ref.injEq, W.tup.injEq, W.str.injEq, reduceCtorEq, false_and, and_false, exists_false, or_false, false_or, true_and, and_true, exists_const, exists_eq_left, sz0, sz1, sz2, sz3, sz4, sz5, sz6, sz7, sz8, sz9, sz10]
  obtain ⟨m, rfl⟩ := Int.eq_ofNat_of_zero_le hmost
  refine so_seq (so_forI (((places (isWd "jump") 0 ws).map W.int).drop m) (fun i E G2 => RI r d c G2 ∧ Fr [wn] (G1 ++ [.lst (((places (isWd "jump") 0 ws).map W.int).drop m)]) G2 ∧ Fr [r, d] G0 G2 ∧ ∃ (ws2 : List W) (x5 : Option W), G2[wn]? = some (.lst ws2) ∧ ws2.length = ws.length ∧ (∀ x ∈ ws2, kw x) ∧ (∀ p : Nat, ws[p]? = some (.str "label") → ws2[p]? = some (.str "label")) ∧ (∀ p : Nat, ws2[p]? = some (.str "jump") → (p : Int) ∈ (places (isWd "jump") 0 ws).take m ∨ (p : Int) ∈ ((places (isWd "jump") 0 ws).drop m).drop i) ∧
    E = [some (.ref r), some (.int (m : Int)), some (.int wide), some (.ref wn), some (.ref jn), x5, none, none, none, none, none, none]) ?_ ?_ ?_)
  · simp only [s_bin, s_def, s_defK, s_call, s_cons, v_nil, s_var, v_c, s_lst, s_tup, s_test, s_tru, s_notT, s_andT, s_orT, s_and, s_or, s_not, s_if, s_neg, s_meth, s_cut, v_nopart, s_part, s_chain, s_seq, s_rng1, s_rng2, s_enum, s_zipL, s_tupR1, s_tupR2, s_yes, List.getElem?_cons_zero, List.getElem?_cons_succ, Option.some.injEq, exists_eq_left', v_ok, e_add, e_sub, e_int, e_min, e_max, e_maxU, e_lenT, e_tupT, e_lt, e_le, e_gt, e_ge, i_tup, e_cutT, List.set_cons_succ, List.set_cons_zero, List.length_cons, List.length_nil, Nat.reduceAdd, W.int.injEq, W.bl.injEq, W.ref.injEq, W.tup.injEq, W.str.injEq, reduceCtorEq, false_and, and_false, exists_false, or_false, false_or, true_and, and_true, exists_const, exists_eq_left, sz0, sz1, sz2, sz3, sz4, sz5, sz6, sz7, sz8, sz9, sz10, e_cutL hj, cut_from]
    rw [i_lst (push_get G1 (.lst (((places (isWd "jump") 0 ws).map W.int).drop m)))]
    have it := it_lst (S := [wn]) (push_get G1 (.lst (((places (isWd "jump") 0 ws).map W.int).drop m))) (by have := f1.1; simp; omega)
    exact ⟨it.len, ⟨h1.keep Fr.push, Fr.refl, f01.trans Fr.push, ws, none, (Fr.push (S := [])).get hw1 (by simp), rfl, hkw, fun _ h => h, fun p hp => List.mem_append.mp (by rw [List.drop_zero, List.take_append_drop]; exact mem_places.mpr ⟨p, .str "jump", hp, wd_jj, by simp⟩), by simp⟩, fun i E' G' q => it.at' _ _ q.2.1⟩
  · rintro i w E G2 hwi ⟨r2, f2, f02, ws2, x5, hw2, hl2, hk2, hp2, hq2, rfl⟩
    obtain ⟨j, hj1, rfl⟩ := List.mem_map.mp (List.mem_of_mem_drop (List.mem_of_getElem? hwi))
    obtain ⟨n, x, hx, hxx, rfl⟩ := mem_places.mp hj1
    have hn : n < ws.length := by
      rcases Nat.lt_or_ge n ws.length with h | h
      · exact h
      · rw [List.getElem?_eq_none_iff.mpr h] at hx; cases hx
    have hx2 := isWd_eq hxx
    subst hx2
    have hdi : ((places (isWd "jump") 0 ws).drop m)[i]? = some ((n : Nat) : Int) := by
      rw [← List.map_drop, List.getElem?_map] at hwi
      obtain ⟨q, z1, z2⟩ := Option.map_eq_some_iff.mp hwi
      injection z2 with z2
      rw [z1, z2]; simp
    simp only [p2_c, p3_c, pT2_c, pT3_c, t_asg, t_expr, t_ret, t_if, t_nx, t_par, t_par3, g_set, g_tup2, g_tup3, g_put, s_bin, s_def, s_defK, s_call, s_cons, v_nil, s_var, v_c, s_lst, s_tup, s_test, s_tru, s_notT, s_andT, s_orT, s_and, s_or, s_not, s_if, s_neg, s_meth, s_cut, v_nopart, s_part, s_chain, s_seq, s_rng1, s_rng2, s_enum, s_zipL, s_tupR1, s_tupR2, s_yes, List.getElem?_cons_zero, List.getElem?_cons_succ, Option.some.injEq, exists_eq_left', v_ok, e_add, e_sub, e_int, e_min, e_max, e_maxU, e_lenT, e_tupT, e_lt, e_le, e_gt, e_ge, i_tup, e_cutT, List.set_cons_succ, List.set_cons_zero, List.length_cons, List.length_nil, Nat.reduceAdd, W.int.injEq, W.bl.injEq, W.ref.injEq, W.tup.injEq, W.str.injEq, reduceCtorEq, false_and, and_false, exists_false, or_false, false_or, true_and, and_true, exists_const, exists_eq_left, sz0, sz1, sz2, sz3, sz4, sz5, sz6, sz7, sz8, sz9, sz10, Nat.zero_add, e_put hw2 (show (0 : Int) ≤ (n : Int) by omega) (show (n : Int) < ws2.length by omega), Int.toNat_natCast]
    refine ⟨r2.setOther (by omega) (by omega) (by omega), f2.trans (Fr.set (by simp)), f02.fresh wf (Fr.set (by simp)), ws2.set n (.str "fill"), some (.int (n : Int)), get_set (lt_of_get hw2), by simp [hl2], ?_, ?_, ?_, by simp⟩
    · intro x hx
      rcases List.mem_or_eq_of_mem_set hx with hx | rfl
      · exact hk2 x hx
      · exact .inr (.inl rfl)
    · intro p hp
      have : n ≠ p := by
        rintro rfl
        rw [hx] at hp
        have := Option.some.inj hp
        injection this with this
        exact absurd this (by decide +kernel)
      rw [List.getElem?_set_ne this]
      exact hp2 p hp
    · intro p hp
      have hnp : n ≠ p := by
        rintro rfl
        rw [List.getElem?_set_self (by omega)] at hp
        have := Option.some.inj hp
        injection this with this
        exact absurd this (by decide +kernel)
      rw [List.getElem?_set_ne hnp] at hp
      rcases hq2 p hp with z | z
      · exact .inl z
      · obtain ⟨hil, hie⟩ := List.getElem?_eq_some_iff.mp hdi
        rw [List.drop_eq_getElem_cons hil, hie] at z
        rcases List.mem_cons.mp z with z | z
        · omega
        · exact .inr z
  · rintro E G2 ⟨r2, f2, f02, ws2, x5, hw2, hl2, hk2, hp2, hq2, rfl⟩
    refine so_seq ?_
    simp only [p2_c, p3_c, pT2_c, pT3_c, t_asg, t_expr, t_ret, t_if, t_nx, t_par, t_par3, g_set, g_tup2, g_tup3, g_put, s_bin, s_def, s_defK, s_call, s_cons, v_nil, s_var, v_c, s_lst, s_tup, s_test, s_tru, s_notT, s_andT, s_orT, s_and, s_or, s_not, s_if, s_neg, s_meth, s_cut, v_nopart, s_part, s_chain, s_seq, s_rng1, s_rng2, s_enum, s_zipL, s_tupR1, s_tupR2, s_yes, List.getElem?_cons_zero, List.getElem?_cons_succ, Option.some.injEq, exists_eq_left', v_ok, e_add, e_sub, e_int, e_min, e_max, e_maxU, e_lenT, e_tupT, e_lt, e_le, e_gt, e_ge, i_tup, e_cutT, List.set_cons_succ, List.set_cons_zero, List.length_cons, List.length_nil, Nat.reduceAdd, W.int.injEq, W.bl.injEq, W.ref.injEq, W.tup.injEq, W.str.injEq, reduceCtorEq, false_and, and_false, exists_false, or_false, false_or, true_and, and_true, exists_const, exists_eq_left, sz0, sz1, sz2, sz3, sz4, sz5, sz6, sz7, sz8, sz9, sz10]
    refine lc_pure (enW ws2) (fF (isWd "label")) ?_ (by rw [enW_len]; omega) ?_ ?_
    · simp only [s_bin, s_def, s_defK, s_call, s_cons, v_nil, s_var, v_c, s_lst, s_tup, s_test, s_tru, s_notT, s_andT, s_orT, s_and, s_or, s_not, s_if, s_neg, s_meth, s_cut, v_nopart, s_part, s_chain, s_seq, s_rng1, s_rng2, s_enum, s_zipL, s_tupR1, s_tupR2, s_yes, List.getElem?_cons_zero, List.getElem?_cons_succ, Option.some.injEq, exists_eq_left', v_ok, e_add, e_sub, e_int, e_min, e_max, e_maxU, e_lenT, e_tupT, e_lt, e_le, e_gt, e_ge, i_tup, e_cutT, List.set_cons_succ, List.set_cons_zero, List.length_cons, List.length_nil, Nat.reduceAdd, W.int.injEq, W.bl.injEq, W.ref.injEq, W.tup.injEq, W.str.injEq, reduceCtorEq, false_and, and_false, exists_false, or_false, false_or, true_and, and_true, exists_const, exists_eq_left, sz0, sz1, sz2, sz3, sz4, sz5, sz6, sz7, sz8, sz9, sz10, rdL_lst hw2, Option.isSome_some]
      exact ⟨Fr.refl, it_enL hw2 (by simp)⟩
    · intro i w G' hwi _
      obtain ⟨x, hx, rfl⟩ := enW_inv hwi
      rcases hk2 x (List.mem_of_getElem? hx) with rfl | rfl | rfl
      · simp only [wipeE, p2_c, p3_c, pT2_c, pT3_c, t_asg, t_expr, t_ret, t_if, t_nx, t_par, t_par3, g_set, g_tup2, g_tup3, g_put, s_bin, s_def, s_defK, s_call, s_cons, v_nil, s_var, v_c, s_lst, s_tup, s_test, s_tru, s_notT, s_andT, s_orT, s_and, s_or, s_not, s_if, s_neg, s_meth, s_cut, v_nopart, s_part, s_chain, s_seq, s_rng1, s_rng2, s_enum, s_zipL, s_tupR1, s_tupR2, s_yes, List.getElem?_cons_zero, List.getElem?_cons_succ, Option.some.injEq, exists_eq_left', v_ok, e_add, e_sub, e_int, e_min, e_max, e_maxU, e_lenT, e_tupT, e_lt, e_le, e_gt, e_ge, i_tup, e_cutT, List.set_cons_succ, List.set_cons_zero, List.length_cons, List.length_nil, Nat.reduceAdd, W.int.injEq, W.bl.injEq, W.ref.injEq, W.tup.injEq, W.str.injEq, reduceCtorEq, false_and, and_false, exists_false, or_false, false_or, true_and, and_true, exists_const, exists_eq_left, sz0, sz1, sz2, sz3, sz4, sz5, sz6, sz7, sz8, sz9, sz10, eq_jl, if_true, if_false, fF, wd_jl, Fr.refl, Bool.false_eq_true]
      · simp only [wipeE, p2_c, p3_c, pT2_c, pT3_c, t_asg, t_expr, t_ret, t_if, t_nx, t_par, t_par3, g_set, g_tup2, g_tup3, g_put, s_bin, s_def, s_defK, s_call, s_cons, v_nil, s_var, v_c, s_lst, s_tup, s_test, s_tru, s_notT, s_andT, s_orT, s_and, s_or, s_not, s_if, s_neg, s_meth, s_cut, v_nopart, s_part, s_chain, s_seq, s_rng1, s_rng2, s_enum, s_zipL, s_tupR1, s_tupR2, s_yes, List.getElem?_cons_zero, List.getElem?_cons_succ, Option.some.injEq, exists_eq_left', v_ok, e_add, e_sub, e_int, e_min, e_max, e_maxU, e_lenT, e_tupT, e_lt, e_le, e_gt, e_ge, i_tup, e_cutT, List.set_cons_succ, List.set_cons_zero, List.length_cons, List.length_nil, Nat.reduceAdd, W.int.injEq, W.bl.injEq, W.ref.injEq, W.tup.injEq, W.str.injEq, reduceCtorEq, false_and, and_false, exists_false, or_false, false_or, true_and, and_true, exists_const, exists_eq_left, sz0, sz1, sz2, sz3, sz4, sz5, sz6, sz7, sz8, sz9, sz10, eq_fl, if_true, if_false, fF, wd_fl, Fr.refl, Bool.false_eq_true]
      · simp only [wipeE, p2_c, p3_c, pT2_c, pT3_c, t_asg, t_expr, t_ret, t_if, t_nx, t_par, t_par3, g_set, g_tup2, g_tup3, g_put, s_bin, s_def, s_defK, s_call, s_cons, v_nil, s_var, v_c, s_lst, s_tup, s_test, s_tru, s_notT, s_andT, s_orT, s_and, s_or, s_not, s_if, s_neg, s_meth, s_cut, v_nopart, s_part, s_chain, s_seq, s_rng1, s_rng2, s_enum, s_zipL, s_tupR1, s_tupR2, s_yes, List.getElem?_cons_zero, List.getElem?_cons_succ, Option.some.injEq, exists_eq_left', v_ok, e_add, e_sub, e_int, e_min, e_max, e_maxU, e_lenT, e_tupT, e_lt, e_le, e_gt, e_ge, i_tup, e_cutT, List.set_cons_succ, List.set_cons_zero, List.length_cons, List.length_nil, Nat.reduceAdd, W.int.injEq, W.bl.injEq, W.ref.injEq, W.tup.injEq, W.str.injEq, reduceCtorEq, false_and, and_false, exists_false, or_false, false_or, true_and, and_true, exists_const, exists_eq_left, sz0, sz1, sz2, sz3, sz4, sz5, sz6, sz7, sz8, sz9, sz10, eq_ll, if_true, fF, wd_ll, Fr.refl]
    intro gn G3 f3 hgn hg
    unfold enW at hg
    rw [en_places] at hg
    have h3 := r2.keep (f3.trans (Fr.push (c := .lst [])))
    have hw3 := (f3.trans (Fr.push (c := .lst []))).get hw2 (by simp)
    have f03 := f02.trans (f3.trans (Fr.push (c := .lst []))).of_nil
    have l02 := f02.1
    have l3 := lt_of_get hg
    obtain ⟨p, hp1, hp2'⟩ := hlab
    refine sk6 hl h3 f03 hw3 ((Fr.push (S := [])).get hg (by simp)) (push_get G3 (.lst [])) wf (by omega) (by have := f3.1; omega) (by omega) hk2 ?_ (by omega) ?_ ⟨(p : Int), mem_places.mpr ⟨p, .str "label", hp2 p hp2', isWd_t _, by simp⟩, by omega⟩ ?_ (C := Cm (m : Int)) ?_
    · have := hp2 p hp2'
      obtain ⟨q, _⟩ := List.getElem?_eq_some_iff.mp this
      omega
    · intro g hgm
      obtain ⟨n, x, hx, hxx, rfl⟩ := mem_places.mp hgm
      have hx2 := isWd_eq hxx
      subst hx2
      exact ⟨by omega, by simpa using hx⟩
    · have := places_len (p := isWd "label") (xs := ws2) (k := 0)
      omega
    · show ((places (isWd "jump") 0 ws2).length : Int) ≤ m
      have : (places (isWd "jump") 0 ws2).length ≤ ((places (isWd "jump") 0 ws).take m).length := nodup_len places_nd fun x hx => by
        obtain ⟨p, y, h1, h2, rfl⟩ := mem_places.mp hx
        rw [isWd_eq h2] at h1
        rcases hq2 p h1 with z | z
        · simpa using z
        · rw [List.length_drop, List.length_map, List.drop_drop] at z
          rw [List.drop_of_length_le (by omega)] at z
          cases z
      have h9 : ((places (isWd "jump") 0 ws).take m).length ≤ m := by rw [List.length_take]; omega
      omega
theorem sk2 {r d c wn : Nat} {G0 G : Cells} {ws : List W} {most wide : Int} {N : PEnv → Cells → Prop} (hl : r < G0.length ∧ d < G0.length ∧ c < G0.length) (h : RI r d c G) (f0 : Fr [r, d] G0 G)
    (hw : G[wn]? = some (.lst ws)) (wf : G0.length ≤ wn) (hmost : 0 ≤ most) (hkw : ∀ x ∈ ws, kw x) (hlab : ws.length ≤ 21 ∨ ∃ p, p ≤ 5 ∧ ws[p]? = some (.str "label")) (wl2 : ws.length ≤ 900) :
    (Bsk_2 [some (.ref r), some (.int most), some (.int wide), some (.ref wn), none, none, none, none, none, none, none, none] G).sat N (SkM (Cm most) r d c G0) := by
  unfold Bsk_2
  refine so_seq ?_
  simp only [p2_c, p3_c, pT2_c, pT3_c, t_asg, t_expr, t_ret, t_if, t_nx, t_par, t_par3, g_set, g_tup2, g_tup3, g_put, s_bin, s_def, s_defK, s_call, s_cons, v_nil, s_var, v_c, s_lst, s_tup, s_test, s_tru, s_notT, s_andT, s_orT, s_and, s_or, s_not, s_if, s_neg, s_meth, s_cut, v_nopart, s_part, s_chain, s_seq, s_rng1, s_rng2, s_enum, s_zipL, s_tupR1, s_tupR2, s_yes, List.getElem?_cons_zero, List.getElem?_cons_succ, Option.some.injEq, exists_eq_left', v_ok, e_add, e_sub, e_int, e_min, e_max, e_maxU, e_lenT, e_tupT, e_lt, e_le, e_gt, e_ge, i_tup, e_cutT, List.set_cons_succ, List.set_cons_zero, List.length_cons, List.length_nil, Nat.reduceAdd, W.int.injEq, W.bl.injEq, W.ref.injEq, W.tup.injEq, W.str.injEq, reduceCtorEq, false_and, and_false, exists_false, or_false, false_or, true_and, and_true, exists_const, exists_eq_left, sz0, sz1, sz2, sz3, sz4, sz5, sz6, sz7, sz8, sz9, sz10, e_isL hw, e_lenL hw]
  refine (draw_ok h (size := (ws.length : Int) + 1) (by omega) (by omega)).mono fun w G1 q => ?_
  obtain ⟨⟨i, rfl, i0, i1⟩, h1, f1⟩ := q
  have hw1 := f1.get hw (by simp; omega)
  simp only [s_bin, s_def, s_defK, s_call, s_cons, v_nil, s_var, v_c, s_lst, s_tup, s_test, s_tru, s_notT, s_andT, s_orT, s_and, s_or, s_not, s_if, s_neg, s_meth, s_cut, v_nopart, s_part, s_chain, s_seq, s_rng1, s_rng2, s_enum, s_zipL, s_tupR1, s_tupR2, s_yes, List.getElem?_cons_zero, List.getElem?_cons_succ, Option.some.injEq, exists_eq_left', v_ok, e_add, e_sub, e_int, e_min, e_max, e_maxU, e_lenT, e_tupT, e_lt, e_le, e_gt, e_ge, i_tup, e_cutT, List.set_cons_succ, List.set_cons_zero, List.length_cons, List.length_nil, Nat.reduceAdd, W.int.injEq, W.bl.injEq, W.ref.injEq, W.tup.injEq, W.str.injEq, reduceCtorEq, false_and, and_false, exists_false, or_false, false_or, true_and, and_true, exists_const, exists_eq_left, sz0, sz1, sz2, sz3, sz4, sz5, sz6, sz7, sz8, sz9, sz10, e_ins hw1 (by omega) i0 (by omega)]
  have il : i.toNat ≤ ws.length := by omega
  refine sk3 hl (h1.setOther (by omega) (by omega) (by omega)) ((f0.trans f1).fresh wf (Fr.set (by simp))) (get_set (lt_of_get hw1)) wf hmost (kw_insert hkw) (lab_insert il hlab) (by simp; omega)
theorem skeleton_okM {r d c : Nat} {G : Cells} {most wide : Int} (h : RI r d c G) (hmost : 0 ≤ most) (h1 : 1 ≤ wide) (h2 : wide ≤ 22) :
    (M_law_skeleton [.ref r, .int most, .int wide] G).sat (SkM (Cm most) r d c G) := by
  have hl := h.lt
  refine fun_sat rfl ?_
  show (B_law_skeleton [some (.ref r), some (.int most), some (.int wide), none, none, none, none, none, none, none, none, none] G).sat _ _
  unfold B_law_skeleton
  refine so_seq ?_
  simp only [p2_c, p3_c, pT2_c, pT3_c, t_asg, t_expr, t_ret, t_if, t_nx, t_par, t_par3, g_set, g_tup2, g_tup3, g_put, s_bin, s_def, s_defK, s_call, s_cons, v_nil, s_var, v_c, s_lst, s_tup, s_test, s_tru, s_notT, s_andT, s_orT, s_and, s_or, s_not, s_if, s_neg, s_meth, s_cut, v_nopart, s_part, s_chain, s_seq, s_rng1, s_rng2, s_enum, s_zipL, s_tupR1, s_tupR2, s_yes, List.getElem?_cons_zero, List.getElem?_cons_succ, Option.some.injEq, exists_eq_left', v_ok, e_add, e_sub, e_int, e_min, e_max, e_maxU, e_lenT, e_tupT, e_lt, e_le, e_gt, e_ge, i_tup, e_cutT, List.set_cons_succ, List.set_cons_zero, List.length_cons, List.length_nil, Nat.reduceAdd, W.int.injEq, W.bl.injEq, W.ref.injEq, W.tup.injEq, W.str.injEq, reduceCtorEq, false_and, and_false, exists_false, or_false, false_or, true_and, and_true, exists_const, exists_eq_left, sz0, sz1, sz2, sz3, sz4, sz5, sz6, sz7, sz8, sz9, sz10]
  refine (words_ok h h1 (by omega)).mono fun w G1 q => ?_
  obtain ⟨wn, ws, rfl, wf, hw, wl, hkw, r1, f1⟩ := q
  refine so_seq ?_
  simp only [p2_c, p3_c, pT2_c, pT3_c, t_asg, t_expr, t_ret, t_if, t_nx, t_par, t_par3, g_set, g_tup2, g_tup3, g_put, s_bin, s_def, s_defK, s_call, s_cons, v_nil, s_var, v_c, s_lst, s_tup, s_test, s_tru, s_notT, s_andT, s_orT, s_and, s_or, s_not, s_if, s_neg, s_meth, s_cut, v_nopart, s_part, s_chain, s_seq, s_rng1, s_rng2, s_enum, s_zipL, s_tupR1, s_tupR2, s_yes, List.getElem?_cons_zero, List.getElem?_cons_succ, Option.some.injEq, exists_eq_left', v_ok, e_add, e_sub, e_int, e_min, e_max, e_maxU, e_lenT, e_tupT, e_lt, e_le, e_gt, e_ge, i_tup, e_cutT, List.set_cons_succ, List.set_cons_zero, List.length_cons, List.length_nil, Nat.reduceAdd, W.int.injEq, W.bl.injEq, W.ref.injEq, W.tup.injEq, W.str.injEq, reduceCtorEq, false_and, and_false, exists_false, or_false, false_or, true_and, and_true, exists_const, exists_eq_left, sz0, sz1, sz2, sz3, sz4, sz5, sz6, sz7, sz8, sz9, sz10]
  refine (draw_ok r1 (size := 2) (by decide) (by decide)).mono fun w G2 q => ?_
  obtain ⟨⟨i, rfl, i0, i1⟩, r2, f2⟩ := q
  have hw2 := f2.get hw (by simp; omega)
  have f02 := f1.trans f2
  simp only [s_bin, s_def, s_defK, s_call, s_cons, v_nil, s_var, v_c, s_lst, s_tup, s_test, s_tru, s_notT, s_andT, s_orT, s_and, s_or, s_not, s_if, s_neg, s_meth, s_cut, v_nopart, s_part, s_chain, s_seq, s_rng1, s_rng2, s_enum, s_zipL, s_tupR1, s_tupR2, s_yes, List.getElem?_cons_zero, List.getElem?_cons_succ, Option.some.injEq, exists_eq_left', v_ok, e_add, e_sub, e_int, e_min, e_max, e_maxU, e_lenT, e_tupT, e_lt, e_le, e_gt, e_ge, i_tup, e_cutT, List.set_cons_succ, List.set_cons_zero, List.length_cons, List.length_nil, Nat.reduceAdd, W.int.injEq, W.bl.injEq, W.ref.injEq, W.tup.injEq, W.str.injEq, reduceCtorEq, false_and, and_false, exists_false, or_false, false_or, true_and, and_true, exists_const, exists_eq_left, sz0, sz1, sz2, sz3, sz4, sz5, sz6, sz7, sz8, sz9, sz10, eqOp_int, decide_eq_true_eq]
  refine hif (fun _ => ?_) fun _ => ?_
  · simp only [e_cutL hw2, s_bin, s_def, s_defK, s_call, s_cons, v_nil, s_var, v_c, s_lst, s_tup, s_test, s_tru, s_notT, s_andT, s_orT, s_and, s_or, s_not, s_if, s_neg, s_meth, s_cut, v_nopart, s_part, s_chain, s_seq, s_rng1, s_rng2, s_enum, s_zipL, s_tupR1, s_tupR2, s_yes, List.getElem?_cons_zero, List.getElem?_cons_succ, Option.some.injEq, exists_eq_left', v_ok, e_add, e_sub, e_int, e_min, e_max, e_maxU, e_lenT, e_tupT, e_lt, e_le, e_gt, e_ge, i_tup, e_cutT, List.set_cons_succ, List.set_cons_zero, List.length_cons, List.length_nil, Nat.reduceAdd, W.int.injEq, W.bl.injEq, W.ref.injEq, W.tup.injEq, W.str.injEq, reduceCtorEq, false_and, and_false, exists_false, or_false, false_or, true_and, and_true, exists_const, exists_eq_left, sz0, sz1, sz2, sz3, sz4, sz5, sz6, sz7, sz8, sz9, sz10]
    rw [show (2 : Int) = ((2 : Nat) : Int) from rfl, cut_to]
    have fa : Fr [] G2 (G2 ++ [Cell.lst (ws.take 2)]) := Fr.push
    have ha := push_get G2 (.lst (ws.take 2))
    have hwa := fa.get hw2 (by simp)
    generalize G2 ++ [Cell.lst (ws.take 2)] = Ga at *
    have fb : Fr [] Ga (Ga ++ [Cell.lst [.str "jump", .str "jump", .str "fill", .str "label"]]) := Fr.push
    have hb := push_get Ga (.lst [.str "jump", .str "jump", .str "fill", .str "label"])
    have hab := fb.get ha (by simp)
    have hwb := fb.get hwa (by simp)
    rw [e_addL hab hb (by simp; omega)]
    simp only [s_bin, s_def, s_defK, s_call, s_cons, v_nil, s_var, v_c, s_lst, s_tup, s_test, s_tru, s_notT, s_andT, s_orT, s_and, s_or, s_not, s_if, s_neg, s_meth, s_cut, v_nopart, s_part, s_chain, s_seq, s_rng1, s_rng2, s_enum, s_zipL, s_tupR1, s_tupR2, s_yes, List.getElem?_cons_zero, List.getElem?_cons_succ, Option.some.injEq, exists_eq_left', v_ok, e_add, e_sub, e_int, e_min, e_max, e_maxU, e_lenT, e_tupT, e_lt, e_le, e_gt, e_ge, i_tup, e_cutT, List.set_cons_succ, List.set_cons_zero, List.length_cons, List.length_nil, Nat.reduceAdd, W.int.injEq, W.bl.injEq, W.ref.injEq, W.tup.injEq, W.str.injEq, reduceCtorEq, false_and, and_false, exists_false, or_false, false_or, true_and, and_true, exists_const, exists_eq_left, sz0, sz1, sz2, sz3, sz4, sz5, sz6, sz7, sz8, sz9, sz10]
    generalize Ga ++ [Cell.lst [.str "jump", .str "jump", .str "fill", .str "label"]] = Gb at *
    have fc : Fr [] Gb (Gb ++ [Cell.lst (ws.take 2 ++ [.str "jump", .str "jump", .str "fill", .str "label"])]) := Fr.push
    have hc := push_get Gb (.lst (ws.take 2 ++ [.str "jump", .str "jump", .str "fill", .str "label"]))
    have hwc := fc.get hwb (by simp)
    generalize Gb ++ [Cell.lst (ws.take 2 ++ [.str "jump", .str "jump", .str "fill", .str "label"])] = Gc at *
    simp only [e_cutL hwc, s_bin, s_def, s_defK, s_call, s_cons, v_nil, s_var, v_c, s_lst, s_tup, s_test, s_tru, s_notT, s_andT, s_orT, s_and, s_or, s_not, s_if, s_neg, s_meth, s_cut, v_nopart, s_part, s_chain, s_seq, s_rng1, s_rng2, s_enum, s_zipL, s_tupR1, s_tupR2, s_yes, List.getElem?_cons_zero, List.getElem?_cons_succ, Option.some.injEq, exists_eq_left', v_ok, e_add, e_sub, e_int, e_min, e_max, e_maxU, e_lenT, e_tupT, e_lt, e_le, e_gt, e_ge, i_tup, e_cutT, List.set_cons_succ, List.set_cons_zero, List.length_cons, List.length_nil, Nat.reduceAdd, W.int.injEq, W.bl.injEq, W.ref.injEq, W.tup.injEq, W.str.injEq, reduceCtorEq, false_and, and_false, exists_false, or_false, false_or, true_and, and_true, exists_const, exists_eq_left, sz0, sz1, sz2, sz3, sz4, sz5, sz6, sz7, sz8, sz9, sz10, cut_from]
    have fd : Fr [] Gc (Gc ++ [Cell.lst (ws.drop 2)]) := Fr.push
    have hd := push_get Gc (.lst (ws.drop 2))
    have hcd := fd.get hc (by simp)
    rw [e_addL hcd hd (by simp; omega)]
    simp only [s_bin, s_def, s_defK, s_call, s_cons, v_nil, s_var, v_c, s_lst, s_tup, s_test, s_tru, s_notT, s_andT, s_orT, s_and, s_or, s_not, s_if, s_neg, s_meth, s_cut, v_nopart, s_part, s_chain, s_seq, s_rng1, s_rng2, s_enum, s_zipL, s_tupR1, s_tupR2, s_yes, List.getElem?_cons_zero, List.getElem?_cons_succ, Option.some.injEq, exists_eq_left', v_ok, e_add, e_sub, e_int, e_min, e_max, e_maxU, e_lenT, e_tupT, e_lt, e_le, e_gt, e_ge, i_tup, e_cutT, List.set_cons_succ, List.set_cons_zero, List.length_cons, List.length_nil, Nat.reduceAdd, W.int.injEq, W.bl.injEq, W.ref.injEq, W.tup.injEq, W.str.injEq, reduceCtorEq, false_and, and_false, exists_false, or_false, false_or, true_and, and_true, exists_const, exists_eq_left, sz0, sz1, sz2, sz3, sz4, sz5, sz6, sz7, sz8, sz9, sz10]
    generalize Gc ++ [Cell.lst (ws.drop 2)] = Gd at *
    have f2d := ((fa.trans fb).trans fc).trans fd
    refine sk2 ⟨hl.1, hl.2.1, hl.2.2.1⟩ (r2.keep (f2d.trans Fr.push)) (f02.trans (f2d.trans Fr.push).of_nil) (push_get Gd _) (by have := f02.1; have := f2d.1; omega) hmost ?_ (.inr ?_) (by simp; omega)
    · intro x hx
      rcases List.mem_append.mp hx with hx | hx
      · rcases List.mem_append.mp hx with hx | hx
        · exact hkw x (List.mem_of_mem_take hx)
        · simp only [List.mem_cons, List.not_mem_nil, or_false] at hx
          unfold kw
          rcases hx with h | h | h | h <;> simp [h]
      · exact hkw x (List.mem_of_mem_drop hx)
    · refine ⟨(ws.take 2).length + 3, by simp; omega, ?_⟩
      rw [List.append_assoc, List.getElem?_append_right (by omega), show (ws.take 2).length + 3 - (ws.take 2).length = 3 from by omega]
      rfl
  · exact sk2 ⟨hl.1, hl.2.1, hl.2.2.1⟩ r2 f02 hw2 wf hmost hkw (.inl (by omega)) (by omega)
theorem skeleton_ok {r d c : Nat} {G : Cells} {most wide : Int} (h : RI r d c G) (hmost : 0 ≤ most) (h1 : 1 ≤ wide) (h2 : wide ≤ 22) :
    (M_law_skeleton [.ref r, .int most, .int wide] G).sat (SkQ r d c G) :=
  (skeleton_okM h hmost h1 h2).mono fun w G' q => by obtain ⟨sk, a, b, c, d, _⟩ := q; exact ⟨sk, a, b, c, d⟩
end NS
/- part T5 -/
set_option maxHeartbeats 1000000
namespace NS
open PySem PySem.Spec PyProof.Rows L2 PL

theorem e_pow15 (G : Cells) : powW G (.int 10) (.int 15) = .ok (.int 1000000000000000) G := by show (if (0 : Int) ≤ 15 ∧ (15 : Int) ≤ 1000000 ∧ (10 : Int).natAbs < 2 ^ 64 then Rs.ok (W.int ((10 : Int) ^ (15 : Int).toNat)) G else Rs.no) = _; rw [if_pos (by decide)]; rfl
theorem e_pow9 (G : Cells) : powW G (.int 10) (.int 9) = .ok (.int 1000000000) G := by show (if (0 : Int) ≤ 9 ∧ (9 : Int) ≤ 1000000 ∧ (10 : Int).natAbs < 2 ^ 64 then Rs.ok (W.int ((10 : Int) ^ (9 : Int).toNat)) G else Rs.no) = _; rw [if_pos (by decide)]; rfl
def zig (i : Int) : Int := if 0 ≤ i then 2 * i else -2 * i - 1
def zigW : W → Option W
  | .int i => some (.int (zig i))
  | _ => none
theorem zig_map (ns : List Int) : (ns.map W.int).filterMap zigW = (ns.map zig).map W.int := by
  induction ns with
  | nil => rfl
  | cons n ns ih => simp [List.filterMap_cons, zigW, ih]
def bigW : W → Option W
  | .int i => if 1000000000000000 ≤ i then some (.int i) else none
  | _ => none
theorem big_map (ns : List Int) : (ns.map W.int).filterMap bigW = (ns.filter fun i => decide (1000000000000000 ≤ i)).map W.int := by
  induction ns with
  | nil => rfl
  | cons n ns ih => by_cases h : (1000000000000000 : Int) ≤ n <;> simp [List.filterMap_cons, bigW, h, ih]
theorem map_get {α β : Type} {f : α → β} {xs : List α} {i : Nat} {w : β} (h : (xs.map f)[i]? = some w) : ∃ x, xs[i]? = some x ∧ w = f x := by
  rw [List.getElem?_map] at h
  obtain ⟨x, h1, h2⟩ := Option.map_eq_some_iff.mp h
  exact ⟨x, h1, h2.symm⟩
theorem stock_ok (ns : List Int) (hn : ns.length ≤ 63) : (M_law_stock [.ref 0] [.rol (ns.map W.int)]).sat fun w G' => ∃ r d c, w = .ref r ∧ RI r d c G' := by
  refine fun_sat rfl ?_
  show (B_law_stock [some (.ref 0), none, none] [.rol (ns.map W.int)]).sat _ _
  unfold B_law_stock
  refine so_seq ?_
  simp only [p2_c, p3_c, pT2_c, pT3_c, t_asg, t_expr, t_ret, t_if, t_nx, t_par, t_par3, g_set, g_tup2, g_tup3, g_put]
  have hcut : cutOp [.rol (ns.map W.int)] (.ref 0) none (some 63) = .ok (.ref 1) [.rol (ns.map W.int), .lst (ns.map W.int)] := by
    show Rs.ok (W.ref 1) ([.rol (ns.map W.int)] ++ [.lst (cutW (ns.map W.int) none (some ((63 : Nat) : Int)))]) = _
    rw [cut_to, List.take_of_length_le (by simp; omega)]; rfl
  have hL : ([Cell.rol (ns.map W.int), .lst (ns.map W.int)] : Cells)[1]? = some (.lst (ns.map W.int)) := rfl
  refine lc_pure (ns.map W.int) zigW ?_ (by simp; omega) ?_ ?_
  · simp only [s_bin, s_def, s_defK, s_call, s_cons, v_nil, s_var, v_c, s_lst, s_tup, s_test, s_tru, s_notT, s_andT, s_orT, s_and, s_or, s_not, s_if, s_neg, s_meth, s_cut, v_nopart, s_part, s_chain, s_seq, s_rng1, s_rng2, s_enum, s_zipL, s_tupR1, s_tupR2, s_yes, List.getElem?_cons_zero, List.getElem?_cons_succ, Option.some.injEq, exists_eq_left', v_ok, e_add, e_sub, e_int, e_min, e_max, e_maxU, e_lenT, e_tupT, e_lt, e_le, e_gt, e_ge, i_tup, e_cutT, List.set_cons_succ, List.set_cons_zero, List.length_cons, List.length_nil, Nat.reduceAdd, W.int.injEq, W.bl.injEq, W.ref.injEq, W.tup.injEq, W.str.injEq, reduceCtorEq, false_and, and_false, exists_false, or_false, false_or, true_and, and_true, exists_const, exists_eq_left, sz0, sz1, sz2, sz3, sz4, sz5, sz6, sz7, sz8, sz9, sz10, hcut, i_lst hL]
    exact ⟨Fr.push, it_lst hL (by simp)⟩
  · intro i w G' hw _
    obtain ⟨x, hx, rfl⟩ := map_get hw
    simp only [wipeE, p2_c, p3_c, pT2_c, pT3_c, t_asg, t_expr, t_ret, t_if, t_nx, t_par, t_par3, g_set, g_tup2, g_tup3, g_put, s_bin, s_def, s_defK, s_call, s_cons, v_nil, s_var, v_c, s_lst, s_tup, s_test, s_tru, s_notT, s_andT, s_orT, s_and, s_or, s_not, s_if, s_neg, s_meth, s_cut, v_nopart, s_part, s_chain, s_seq, s_rng1, s_rng2, s_enum, s_zipL, s_tupR1, s_tupR2, s_yes, List.getElem?_cons_zero, List.getElem?_cons_succ, Option.some.injEq, exists_eq_left', v_ok, e_add, e_sub, e_int, e_min, e_max, e_maxU, e_lenT, e_tupT, e_lt, e_le, e_gt, e_ge, i_tup, e_cutT, List.set_cons_succ, List.set_cons_zero, List.length_cons, List.length_nil, Nat.reduceAdd, W.int.injEq, W.bl.injEq, W.ref.injEq, W.tup.injEq, W.str.injEq, reduceCtorEq, false_and, and_false, exists_false, or_false, false_or, true_and, and_true, exists_const, exists_eq_left, sz0, sz1, sz2, sz3, sz4, sz5, sz6, sz7, sz8, sz9, sz10, if_true, decide_eq_true_eq, zigW, zig]
    refine hif (fun h => ?_) fun h => ?_
    · simp only [s_bin, s_def, s_defK, s_call, s_cons, v_nil, s_var, v_c, s_lst, s_tup, s_test, s_tru, s_notT, s_andT, s_orT, s_and, s_or, s_not, s_if, s_neg, s_meth, s_cut, v_nopart, s_part, s_chain, s_seq, s_rng1, s_rng2, s_enum, s_zipL, s_tupR1, s_tupR2, s_yes, List.getElem?_cons_zero, List.getElem?_cons_succ, Option.some.injEq, exists_eq_left', v_ok, e_add, e_sub, e_int, e_min, e_max, e_maxU, e_lenT, e_tupT, e_lt, e_le, e_gt, e_ge, i_tup, e_cutT, List.set_cons_succ, List.set_cons_zero, List.length_cons, List.length_nil, Nat.reduceAdd, W.int.injEq, W.bl.injEq, W.ref.injEq, W.tup.injEq, W.str.injEq, reduceCtorEq, false_and, and_false, exists_false, or_false, false_or, true_and, and_true, exists_const, exists_eq_left, sz0, sz1, sz2, sz3, sz4, sz5, sz6, sz7, sz8, sz9, sz10, e_mul (mulOk_l (i := 2) (j := x) (by decide)), h, if_true, Fr.refl]
    · simp only [s_bin, s_def, s_defK, s_call, s_cons, v_nil, s_var, v_c, s_lst, s_tup, s_test, s_tru, s_notT, s_andT, s_orT, s_and, s_or, s_not, s_if, s_neg, s_meth, s_cut, v_nopart, s_part, s_chain, s_seq, s_rng1, s_rng2, s_enum, s_zipL, s_tupR1, s_tupR2, s_yes, List.getElem?_cons_zero, List.getElem?_cons_succ, Option.some.injEq, exists_eq_left', v_ok, e_add, e_sub, e_int, e_min, e_max, e_maxU, e_lenT, e_tupT, e_lt, e_le, e_gt, e_ge, i_tup, e_cutT, List.set_cons_succ, List.set_cons_zero, List.length_cons, List.length_nil, Nat.reduceAdd, W.int.injEq, W.bl.injEq, W.ref.injEq, W.tup.injEq, W.str.injEq, reduceCtorEq, false_and, and_false, exists_false, or_false, false_or, true_and, and_true, exists_const, exists_eq_left, sz0, sz1, sz2, sz3, sz4, sz5, sz6, sz7, sz8, sz9, sz10, e_mul (mulOk_l (i := -2) (j := x) (by decide)), h, if_false, Fr.refl]
  intro fn G1 f1 hfn hf
  rw [zig_map] at hf
  generalize hfs : ns.map zig = fs at *
  have hfl : fs.length ≤ 63 := by rw [← hfs]; simpa using hn
  simp only [p2_c, p3_c, pT2_c, pT3_c, t_asg, t_expr, t_ret, t_if, t_nx, t_par, t_par3, g_set, g_tup2, g_tup3, g_put, s_bin, s_def, s_defK, s_call, s_cons, v_nil, s_var, v_c, s_lst, s_tup, s_test, s_tru, s_notT, s_andT, s_orT, s_and, s_or, s_not, s_if, s_neg, s_meth, s_cut, v_nopart, s_part, s_chain, s_seq, s_rng1, s_rng2, s_enum, s_zipL, s_tupR1, s_tupR2, s_yes, List.getElem?_cons_zero, List.getElem?_cons_succ, Option.some.injEq, exists_eq_left', v_ok, e_add, e_sub, e_int, e_min, e_max, e_maxU, e_lenT, e_tupT, e_lt, e_le, e_gt, e_ge, i_tup, e_cutT, List.set_cons_succ, List.set_cons_zero, List.length_cons, List.length_nil, Nat.reduceAdd, W.int.injEq, W.bl.injEq, W.ref.injEq, W.tup.injEq, W.str.injEq, reduceCtorEq, false_and, and_false, exists_false, or_false, false_or, true_and, and_true, exists_const, exists_eq_left, sz0, sz1, sz2, sz3, sz4, sz5, sz6, sz7, sz8, sz9, sz10]
  refine lc_pure (fs.map W.int) bigW ?_ (by simp; omega) ?_ ?_
  · simp only [s_bin, s_def, s_defK, s_call, s_cons, v_nil, s_var, v_c, s_lst, s_tup, s_test, s_tru, s_notT, s_andT, s_orT, s_and, s_or, s_not, s_if, s_neg, s_meth, s_cut, v_nopart, s_part, s_chain, s_seq, s_rng1, s_rng2, s_enum, s_zipL, s_tupR1, s_tupR2, s_yes, List.getElem?_cons_zero, List.getElem?_cons_succ, Option.some.injEq, exists_eq_left', v_ok, e_add, e_sub, e_int, e_min, e_max, e_maxU, e_lenT, e_tupT, e_lt, e_le, e_gt, e_ge, i_tup, e_cutT, List.set_cons_succ, List.set_cons_zero, List.length_cons, List.length_nil, Nat.reduceAdd, W.int.injEq, W.bl.injEq, W.ref.injEq, W.tup.injEq, W.str.injEq, reduceCtorEq, false_and, and_false, exists_false, or_false, false_or, true_and, and_true, exists_const, exists_eq_left, sz0, sz1, sz2, sz3, sz4, sz5, sz6, sz7, sz8, sz9, sz10, i_lst hf]
    exact ⟨Fr.refl, it_lst hf (by simp)⟩
  · intro i w G' hw _
    obtain ⟨x, hx, rfl⟩ := map_get hw
    simp only [wipeE, p2_c, p3_c, pT2_c, pT3_c, t_asg, t_expr, t_ret, t_if, t_nx, t_par, t_par3, g_set, g_tup2, g_tup3, g_put, s_bin, s_def, s_defK, s_call, s_cons, v_nil, s_var, v_c, s_lst, s_tup, s_test, s_tru, s_notT, s_andT, s_orT, s_and, s_or, s_not, s_if, s_neg, s_meth, s_cut, v_nopart, s_part, s_chain, s_seq, s_rng1, s_rng2, s_enum, s_zipL, s_tupR1, s_tupR2, s_yes, List.getElem?_cons_zero, List.getElem?_cons_succ, Option.some.injEq, exists_eq_left', v_ok, e_add, e_sub, e_int, e_min, e_max, e_maxU, e_lenT, e_tupT, e_lt, e_le, e_gt, e_ge, i_tup, e_cutT, List.set_cons_succ, List.set_cons_zero, List.length_cons, List.length_nil, Nat.reduceAdd, W.int.injEq, W.bl.injEq, W.ref.injEq, W.tup.injEq, W.str.injEq, reduceCtorEq, false_and, and_false, exists_false, or_false, false_or, true_and, and_true, exists_const, exists_eq_left, sz0, sz1, sz2, sz3, sz4, sz5, sz6, sz7, sz8, sz9, sz10, e_pow15, decide_eq_true_eq, bigW]
    exact hif (fun h => by simp [h, Fr.refl]) fun h => by simp [h, Fr.refl]
  intro dn G2 f2 hdn hd
  rw [big_map] at hd
  have hf2 := f2.get hf (by simp)
  have hfl' := lt_of_get hf2
  have hdl := lt_of_get hd
  simp only [s_bin, s_def, s_defK, s_call, s_cons, v_nil, s_var, v_c, s_lst, s_tup, s_test, s_tru, s_notT, s_andT, s_orT, s_and, s_or, s_not, s_if, s_neg, s_meth, s_cut, v_nopart, s_part, s_chain, s_seq, s_rng1, s_rng2, s_enum, s_zipL, s_tupR1, s_tupR2, s_yes, List.getElem?_cons_zero, List.getElem?_cons_succ, Option.some.injEq, exists_eq_left', v_ok, e_add, e_sub, e_int, e_min, e_max, e_maxU, e_lenT, e_tupT, e_lt, e_le, e_gt, e_ge, i_tup, e_cutT, List.set_cons_succ, List.set_cons_zero, List.length_cons, List.length_nil, Nat.reduceAdd, W.int.injEq, W.bl.injEq, W.ref.injEq, W.tup.injEq, W.str.injEq, reduceCtorEq, false_and, and_false, exists_false, or_false, false_or, true_and, and_true, exists_const, exists_eq_left, sz0, sz1, sz2, sz3, sz4, sz5, sz6, sz7, sz8, sz9, sz10, e_lenL hf2, List.length_map]
  rw [e_addL ((Fr.push (S := [])).get hf2 (by simp)) (push_get G2 _) (by simp; omega)]
  have fa : Fr [] G2 (G2 ++ [.lst [.int ((fs.length : Int) + 926)]]) := Fr.push
  have la : (G2 ++ [Cell.lst [.int ((fs.length : Int) + 926)]]).length = G2.length + 1 := by simp
  simp only [s_bin, s_def, s_defK, s_call, s_cons, v_nil, s_var, v_c, s_lst, s_tup, s_test, s_tru, s_notT, s_andT, s_orT, s_and, s_or, s_not, s_if, s_neg, s_meth, s_cut, v_nopart, s_part, s_chain, s_seq, s_rng1, s_rng2, s_enum, s_zipL, s_tupR1, s_tupR2, s_yes, List.getElem?_cons_zero, List.getElem?_cons_succ, Option.some.injEq, exists_eq_left', v_ok, e_add, e_sub, e_int, e_min, e_max, e_maxU, e_lenT, e_tupT, e_lt, e_le, e_gt, e_ge, i_tup, e_cutT, List.set_cons_succ, List.set_cons_zero, List.length_cons, List.length_nil, Nat.reduceAdd, W.int.injEq, W.bl.injEq, W.ref.injEq, W.tup.injEq, W.str.injEq, reduceCtorEq, false_and, and_false, exists_false, or_false, false_or, true_and, and_true, exists_const, exists_eq_left, sz0, sz1, sz2, sz3, sz4, sz5, sz6, sz7, sz8, sz9, sz10]
  generalize (G2 ++ [Cell.lst [.int ((fs.length : Int) + 926)]]) = G3 at *
  have fb : Fr [] G3 (G3 ++ [.lst (fs.map W.int ++ [.int ((fs.length : Int) + 926)])]) := Fr.push
  have lb : (G3 ++ [Cell.lst (fs.map W.int ++ [.int ((fs.length : Int) + 926)])]).length = G3.length + 1 := by simp
  have hc := push_get G3 (.lst (fs.map W.int ++ [.int ((fs.length : Int) + 926)]))
  generalize (G3 ++ [Cell.lst (fs.map W.int ++ [.int ((fs.length : Int) + 926)])]) = G4 at *
  rw [e_sum ((fa.trans fb).get hf2 (by simp))]
  simp only [s_bin, s_def, s_defK, s_call, s_cons, v_nil, s_var, v_c, s_lst, s_tup, s_test, s_tru, s_notT, s_andT, s_orT, s_and, s_or, s_not, s_if, s_neg, s_meth, s_cut, v_nopart, s_part, s_chain, s_seq, s_rng1, s_rng2, s_enum, s_zipL, s_tupR1, s_tupR2, s_yes, List.getElem?_cons_zero, List.getElem?_cons_succ, Option.some.injEq, exists_eq_left', v_ok, e_add, e_sub, e_int, e_min, e_max, e_maxU, e_lenT, e_tupT, e_lt, e_le, e_gt, e_ge, i_tup, e_cutT, List.set_cons_succ, List.set_cons_zero, List.length_cons, List.length_nil, Nat.reduceAdd, W.int.injEq, W.bl.injEq, W.ref.injEq, W.tup.injEq, W.str.injEq, reduceCtorEq, false_and, and_false, exists_false, or_false, false_or, true_and, and_true, exists_const, exists_eq_left, sz0, sz1, sz2, sz3, sz4, sz5, sz6, sz7, sz8, sz9, sz10]
  refine ⟨G4.length, dn, G3.length, rfl, ⟨fs.sum, 0, fs.filter fun i => decide (1000000000000000 ≤ i), fs ++ [(fs.length : Int) + 926], by omega, by omega, by omega, push_get G4 _, ?_, ?_, ?_, by simp, by simp; omega⟩⟩
  · exact (Fr.push (S := [])).get ((fa.trans fb).get hd (by simp)) (by simp)
  · have := List.length_filter_le (fun i => decide ((1000000000000000 : Int) ≤ i)) fs
    omega
  · rw [(Fr.push (S := [])).get hc (by simp), List.map_append]; rfl
/-! ### the jumps -/
def It.isJ : It → Bool
  | .jmp _ _ _ => true
  | _ => false
def It.isF : It → Bool
  | .fil _ => true
  | _ => false
def It.isL : It → Bool
  | .lab => true
  | _ => false
def isJW : W → Bool
  | .tup (k :: _) => isWd "jump" k
  | _ => false
theorem isJW_w (it : It) : isJW it.w = it.isJ := by cases it <;> first | exact wd_jj | exact wd_fj | exact wd_lj
theorem w_0 (it : It) (G : Cells) : getW G it.w (.int 0) = .ok it.kind G := by cases it <;> exact e_getT rfl (by decide)
theorem kind_J (it : It) (G : Cells) : eqOp G it.kind (.str "jump") = .ok (.bl it.isJ) G := by cases it <;> first | exact eq_jj G | exact eq_fj G | exact eq_lj G
theorem kind_F (it : It) (G : Cells) : eqOp G it.kind (.str "fill") = .ok (.bl it.isF) G := by cases it <;> first | exact eq_ff G | exact eq_jf G | exact eq_lf G
theorem kind_L (it : It) (G : Cells) : eqOp G it.kind (.str "label") = .ok (.bl it.isL) G := by cases it <;> first | exact eq_ll G | exact eq_jl G | exact eq_fl G
theorem places_map {α β : Type} (p : β → Bool) (f : α → β) : ∀ (xs : List α) (k : Nat), places p k (xs.map f) = places (fun x => p (f x)) k xs
  | [], _ => rfl
  | x :: xs, k => by rw [List.map_cons, places, places, places_map p f xs]
abbrev jumpsN (sk : List It) : List Int := places It.isJ 0 sk
theorem jumps_ok {sk : List It} {G : Cells} (hs : sk.length ≤ 24) : (M_law_jumps [skW sk] G).sat fun w G' => ∃ n, w = .ref n ∧ G.length ≤ n ∧ G'[n]? = some (.lst ((jumpsN sk).map W.int)) ∧ Fr [] G G' := by
  refine fun_sat rfl ?_
  show (B_law_jumps [some (skW sk), none, none] G).sat _ _
  unfold B_law_jumps
  simp only [p2_c, p3_c, pT2_c, pT3_c, t_asg, t_expr, t_ret, t_if, t_nx, t_par, t_par3, g_set, g_tup2, g_tup3, g_put]
  refine lc_pure (enW (sk.map It.w)) (fF isJW) ?_ (by rw [enW_len]; simp; omega) ?_ ?_
  · simp only [s_bin, s_def, s_defK, s_call, s_cons, v_nil, s_var, v_c, s_lst, s_tup, s_test, s_tru, s_notT, s_andT, s_orT, s_and, s_or, s_not, s_if, s_neg, s_meth, s_cut, v_nopart, s_part, s_chain, s_seq, s_rng1, s_rng2, s_enum, s_zipL, s_tupR1, s_tupR2, s_yes, List.getElem?_cons_zero, List.getElem?_cons_succ, Option.some.injEq, exists_eq_left', v_ok, e_add, e_sub, e_int, e_min, e_max, e_maxU, e_lenT, e_tupT, e_lt, e_le, e_gt, e_ge, i_tup, e_cutT, List.set_cons_succ, List.set_cons_zero, List.length_cons, List.length_nil, Nat.reduceAdd, W.int.injEq, W.bl.injEq, W.ref.injEq, W.tup.injEq, W.str.injEq, reduceCtorEq, false_and, and_false, exists_false, or_false, false_or, true_and, and_true, exists_const, exists_eq_left, sz0, sz1, sz2, sz3, sz4, sz5, sz6, sz7, sz8, sz9, sz10]
    exact ⟨Fr.refl, it_enT _ _ _⟩
  · intro i w G' hw _
    obtain ⟨x, hx, rfl⟩ := enW_inv hw
    obtain ⟨it, hit, rfl⟩ := map_get hx
    simp only [wipeE, p2_c, p3_c, pT2_c, pT3_c, t_asg, t_expr, t_ret, t_if, t_nx, t_par, t_par3, g_set, g_tup2, g_tup3, g_put, s_bin, s_def, s_defK, s_call, s_cons, v_nil, s_var, v_c, s_lst, s_tup, s_test, s_tru, s_notT, s_andT, s_orT, s_and, s_or, s_not, s_if, s_neg, s_meth, s_cut, v_nopart, s_part, s_chain, s_seq, s_rng1, s_rng2, s_enum, s_zipL, s_tupR1, s_tupR2, s_yes, List.getElem?_cons_zero, List.getElem?_cons_succ, Option.some.injEq, exists_eq_left', v_ok, e_add, e_sub, e_int, e_min, e_max, e_maxU, e_lenT, e_tupT, e_lt, e_le, e_gt, e_ge, i_tup, e_cutT, List.set_cons_succ, List.set_cons_zero, List.length_cons, List.length_nil, Nat.reduceAdd, W.int.injEq, W.bl.injEq, W.ref.injEq, W.tup.injEq, W.str.injEq, reduceCtorEq, false_and, and_false, exists_false, or_false, false_or, true_and, and_true, exists_const, exists_eq_left, sz0, sz1, sz2, sz3, sz4, sz5, sz6, sz7, sz8, sz9, sz10, w_0, kind_J, fF, isJW_w]
    exact hif (fun h => by simp [h, Fr.refl]) fun h => by simp [h, Fr.refl]
  · intro n G' f hn hg
    unfold enW at hg
    rw [en_places, places_map] at hg
    have e : (fun x => isJW (It.w x)) = It.isJ := by funext it; exact isJW_w it
    rw [e] at hg
    exact ⟨n, rfl, hn, hg, f⟩
theorem jumpsN_len {sk : List It} : (jumpsN sk).length ≤ sk.length := places_len
theorem jumpsN_mem {sk : List It} {j : Int} : j ∈ jumpsN sk ↔ ∃ n g s l, sk[n]? = some (.jmp g s l) ∧ j = ((n : Nat) : Int) := by
  rw [mem_places]
  constructor
  · rintro ⟨n, x, h1, h2, rfl⟩
    cases x with
    | jmp g s l => exact ⟨n, g, s, l, h1, by simp⟩
    | _ => cases h2
  · rintro ⟨n, g, s, l, h1, rfl⟩
    exact ⟨n, _, h1, rfl, by simp⟩
end NS
/- part T5b -/
set_option maxHeartbeats 1000000
namespace NS
open PySem PySem.Spec PyProof.Rows L2 PL

/-! ### lengths, some -/
structure Lens (sk : List It) (ln : List Int) : Prop where
  len : ln.length = sk.length + 1
  nn : ∀ x ∈ ln, 0 ≤ x ∧ x ≤ 1000000000
theorem lengths_ok {r d c : Nat} {G : Cells} {sk : List It} {b : Bool} (h : RI r d c G) (hs : sk.length ≤ 24) :
    (M_law_lengths [.ref r, skW sk, .bl b] G).sat fun w G' => ∃ ln : List Int, w = .tup (ln.map W.int) ∧ Lens sk ln ∧ RI r d c G' ∧ Fr [r, d] G G' := by
  have hl := h.lt
  refine fun_sat rfl ?_
  show (B_law_lengths [some (.ref r), some (skW sk), some (.bl b), none, none, none, none] G).sat _ _
  unfold B_law_lengths
  refine so_seq ?_
  simp only [p2_c, p3_c, pT2_c, pT3_c, t_asg, t_expr, t_ret, t_if, t_nx, t_par, t_par3, g_set, g_tup2, g_tup3, g_put, s_bin, s_def, s_defK, s_call, s_cons, v_nil, s_var, v_c, s_lst, s_tup, s_test, s_tru, s_notT, s_andT, s_orT, s_and, s_or, s_not, s_if, s_neg, s_meth, s_cut, v_nopart, s_part, s_chain, s_seq, s_rng1, s_rng2, s_enum, s_zipL, s_tupR1, s_tupR2, s_yes, List.getElem?_cons_zero, List.getElem?_cons_succ, Option.some.injEq, exists_eq_left', v_ok, e_add, e_sub, e_int, e_min, e_max, e_maxU, e_lenT, e_tupT, e_lt, e_le, e_gt, e_ge, i_tup, e_cutT, List.set_cons_succ, List.set_cons_zero, List.length_cons, List.length_nil, Nat.reduceAdd, W.int.injEq, W.bl.injEq, W.ref.injEq, W.tup.injEq, W.str.injEq, reduceCtorEq, false_and, and_false, exists_false, or_false, false_or, true_and, and_true, exists_const, exists_eq_left, sz0, sz1, sz2, sz3, sz4, sz5, sz6, sz7, sz8, sz9, sz10]
  refine so_seq (so_forI (rnW 0 (sk.length + 1)) (fun i E G2 => RI r d c G2 ∧ Fr [r, d] G G2 ∧ ∃ (acc : List Int) (x4 x5 x6 : Option W), G2[G.length]? = some (.lst (acc.map W.int)) ∧ acc.length = i ∧ i ≤ 30 ∧ (∀ x ∈ acc, 0 ≤ x ∧ x ≤ 1000000000) ∧
    E = [some (.ref r), some (skW sk), some (.bl b), some (.ref G.length), x4, x5, x6]) ?_ ?_ ?_)
  · simp only [s_bin, s_def, s_defK, s_call, s_cons, v_nil, s_var, v_c, s_lst, s_tup, s_test, s_tru, s_notT, s_andT, s_orT, s_and, s_or, s_not, s_if, s_neg, s_meth, s_cut, v_nopart, s_part, s_chain, s_seq, s_rng1, s_rng2, s_enum, s_zipL, s_tupR1, s_tupR2, s_yes, List.getElem?_cons_zero, List.getElem?_cons_succ, Option.some.injEq, exists_eq_left', v_ok, e_add, e_sub, e_int, e_min, e_max, e_maxU, e_lenT, e_tupT, e_lt, e_le, e_gt, e_ge, i_tup, e_cutT, List.set_cons_succ, List.set_cons_zero, List.length_cons, List.length_nil, Nat.reduceAdd, W.int.injEq, W.bl.injEq, W.ref.injEq, W.tup.injEq, W.str.injEq, reduceCtorEq, false_and, and_false, exists_false, or_false, false_or, true_and, and_true, exists_const, exists_eq_left, sz0, sz1, sz2, sz3, sz4, sz5, sz6, sz7, sz8, sz9, sz10, List.length_map]
    have hr : rngOk ((sk.length : Int) + 1) = true := by unfold rngOk; simp; omega
    have it := it_rng [] (G ++ [.lst []]) 0 (sk.length + 1)
    rw [show ((sk.length : Int) + 1).toNat = sk.length + 1 from by omega]
    exact ⟨hr, it.len, ⟨h.keep Fr.push, Fr.push, [], none, none, none, push_get G _, rfl, by omega, by simp, rfl⟩, fun i E' G' q => (it_rng [] G' 0 (sk.length + 1)).at' G' i Fr.refl⟩
  · rintro i w E G2 hw ⟨r2, f2, acc, x4, x5, x6, hacc, ha1, ha2, ha3, rfl⟩
    obtain ⟨hi, rfl⟩ := rnW_inv hw
    simp only [p2_c, p3_c, pT2_c, pT3_c, t_asg, t_expr, t_ret, t_if, t_nx, t_par, t_par3, g_set, g_tup2, g_tup3, g_put, s_bin, s_def, s_defK, s_call, s_cons, v_nil, s_var, v_c, s_lst, s_tup, s_test, s_tru, s_notT, s_andT, s_orT, s_and, s_or, s_not, s_if, s_neg, s_meth, s_cut, v_nopart, s_part, s_chain, s_seq, s_rng1, s_rng2, s_enum, s_zipL, s_tupR1, s_tupR2, s_yes, List.getElem?_cons_zero, List.getElem?_cons_succ, Option.some.injEq, exists_eq_left', v_ok, e_add, e_sub, e_int, e_min, e_max, e_maxU, e_lenT, e_tupT, e_lt, e_le, e_gt, e_ge, i_tup, e_cutT, List.set_cons_succ, List.set_cons_zero, List.length_cons, List.length_nil, Nat.reduceAdd, W.int.injEq, W.bl.injEq, W.ref.injEq, W.tup.injEq, W.str.injEq, reduceCtorEq, false_and, and_false, exists_false, or_false, false_or, true_and, and_true, exists_const, exists_eq_left, sz0, sz1, sz2, sz3, sz4, sz5, sz6, sz7, sz8, sz9, sz10]
    refine so_seq ?_
    simp only [p2_c, p3_c, pT2_c, pT3_c, t_asg, t_expr, t_ret, t_if, t_nx, t_par, t_par3, g_set, g_tup2, g_tup3, g_put, s_bin, s_def, s_defK, s_call, s_cons, v_nil, s_var, v_c, s_lst, s_tup, s_test, s_tru, s_notT, s_andT, s_orT, s_and, s_or, s_not, s_if, s_neg, s_meth, s_cut, v_nopart, s_part, s_chain, s_seq, s_rng1, s_rng2, s_enum, s_zipL, s_tupR1, s_tupR2, s_yes, List.getElem?_cons_zero, List.getElem?_cons_succ, Option.some.injEq, exists_eq_left', v_ok, e_add, e_sub, e_int, e_min, e_max, e_maxU, e_lenT, e_tupT, e_lt, e_le, e_gt, e_ge, i_tup, e_cutT, List.set_cons_succ, List.set_cons_zero, List.length_cons, List.length_nil, Nat.reduceAdd, W.int.injEq, W.bl.injEq, W.ref.injEq, W.tup.injEq, W.str.injEq, reduceCtorEq, false_and, and_false, exists_false, or_false, false_or, true_and, and_true, exists_const, exists_eq_left, sz0, sz1, sz2, sz3, sz4, sz5, sz6, sz7, sz8, sz9, sz10, e_pow9]
    refine (draw_ok r2 (size := 70) (by decide) (by decide)).mono fun w G3 q => ?_
    obtain ⟨⟨z, rfl, z0, z1⟩, r3, f3⟩ := q
    refine so_seq ?_
    simp only [p2_c, p3_c, pT2_c, pT3_c, t_asg, t_expr, t_ret, t_if, t_nx, t_par, t_par3, g_set, g_tup2, g_tup3, g_put, s_bin, s_def, s_defK, s_call, s_cons, v_nil, s_var, v_c, s_lst, s_tup, s_test, s_tru, s_notT, s_andT, s_orT, s_and, s_or, s_not, s_if, s_neg, s_meth, s_cut, v_nopart, s_part, s_chain, s_seq, s_rng1, s_rng2, s_enum, s_zipL, s_tupR1, s_tupR2, s_yes, List.getElem?_cons_zero, List.getElem?_cons_succ, Option.some.injEq, exists_eq_left', v_ok, e_add, e_sub, e_int, e_min, e_max, e_maxU, e_lenT, e_tupT, e_lt, e_le, e_gt, e_ge, i_tup, e_cutT, List.set_cons_succ, List.set_cons_zero, List.length_cons, List.length_nil, Nat.reduceAdd, W.int.injEq, W.bl.injEq, W.ref.injEq, W.tup.injEq, W.str.injEq, reduceCtorEq, false_and, and_false, exists_false, or_false, false_or, true_and, and_true, exists_const, exists_eq_left, sz0, sz1, sz2, sz3, sz4, sz5, sz6, sz7, sz8, sz9, sz10]
    refine (draw_ok r3 (size := 12) (by decide) (by decide)).mono fun w G4 q => ?_
    obtain ⟨⟨y, rfl, y0, y1⟩, r4, f4⟩ := q
    refine (picks_ok r4 (by simp) (by simp)).mono fun w G5 q => ?_
    obtain ⟨q1, r5, f5⟩ := q
    obtain ⟨sm, rfl, s0, s1⟩ : ∃ a, w = .int a ∧ 0 ≤ a ∧ a ≤ 1000000000 := by
      simp only [List.mem_cons, List.not_mem_nil, or_false] at q1
      rcases q1 with h | h | h | h | h | h <;> exact ⟨_, h, by omega, by omega⟩
    have f35 := (f3.trans f4).trans f5
    have hacc5 := f35.get hacc (by simp; omega)
    have f05 := f2.trans f35
    simp only [p2_c, p3_c, pT2_c, pT3_c, t_asg, t_expr, t_ret, t_if, t_nx, t_par, t_par3, g_set, g_tup2, g_tup3, g_put, s_bin, s_def, s_defK, s_call, s_cons, v_nil, s_var, v_c, s_lst, s_tup, s_test, s_tru, s_notT, s_andT, s_orT, s_and, s_or, s_not, s_if, s_neg, s_meth, s_cut, v_nopart, s_part, s_chain, s_seq, s_rng1, s_rng2, s_enum, s_zipL, s_tupR1, s_tupR2, s_yes, List.getElem?_cons_zero, List.getElem?_cons_succ, Option.some.injEq, exists_eq_left', v_ok, e_add, e_sub, e_int, e_min, e_max, e_maxU, e_lenT, e_tupT, e_lt, e_le, e_gt, e_ge, i_tup, e_cutT, List.set_cons_succ, List.set_cons_zero, List.length_cons, List.length_nil, Nat.reduceAdd, W.int.injEq, W.bl.injEq, W.ref.injEq, W.tup.injEq, W.str.injEq, reduceCtorEq, false_and, and_false, exists_false, or_false, false_or, true_and, and_true, exists_const, exists_eq_left, sz0, sz1, sz2, sz3, sz4, sz5, sz6, sz7, sz8, sz9, sz10, e_isL hacc5]
    have fin : ∀ (G6 : Cells) (v : Int), RI r d c G6 → Fr [r, d] G5 G6 → 0 ≤ v → v ≤ 1000000000 → (appendW G6 (.ref G.length) [.int v]).sat fun _ G7 => RI r d c G7 ∧ Fr [r, d] G G7 ∧ ∃ (acc : List Int) (x4' x5' x6' : Option W), G7[G.length]? = some (.lst (acc.map W.int)) ∧ acc.length = i + 1 ∧ i + 1 ≤ 30 ∧ (∀ x ∈ acc, 0 ≤ x ∧ x ≤ 1000000000) ∧
        [some (W.ref r), some (skW sk), some (.bl b), some (.ref G.length), some (.int (0 + (i : Int))), some (.int (1000000000 - z)), some (.int sm)] = [some (.ref r), some (skW sk), some (.bl b), some (.ref G.length), x4', x5', x6'] := by
      intro G6 v r6 f6 v0 v1
      have hacc6 := f6.get hacc5 (by simp; omega)
      rw [e_app hacc6 (by simp; omega)]
      refine ⟨r6.setOther (by omega) (by omega) (by omega), (f05.trans f6).fresh (Nat.le_refl _) (Fr.set (by simp)), acc ++ [v], _, _, _, by rw [get_set (lt_of_get hacc6), List.map_append]; rfl, by simp [ha1], by omega, ?_, rfl⟩
      intro x hx
      rcases List.mem_append.mp hx with hx | hx
      · exact ha3 x hx
      · rw [List.mem_singleton.mp hx]; exact ⟨v0, v1⟩
    simp only [truW, Option.some.injEq, exists_eq_left']
    refine hif (fun hb => ?_) fun hb => ?_
    · refine (draw_ok r5 (size := 3) (by decide) (by decide)).mono fun w G6 q => ?_
      obtain ⟨⟨t, rfl, t0, t1⟩, r6, f6⟩ := q
      simp only [eqOp_int, s_bin, s_def, s_defK, s_call, s_cons, v_nil, s_var, v_c, s_lst, s_tup, s_test, s_tru, s_notT, s_andT, s_orT, s_and, s_or, s_not, s_if, s_neg, s_meth, s_cut, v_nopart, s_part, s_chain, s_seq, s_rng1, s_rng2, s_enum, s_zipL, s_tupR1, s_tupR2, s_yes, List.getElem?_cons_zero, List.getElem?_cons_succ, Option.some.injEq, exists_eq_left', v_ok, e_add, e_sub, e_int, e_min, e_max, e_maxU, e_lenT, e_tupT, e_lt, e_le, e_gt, e_ge, i_tup, e_cutT, List.set_cons_succ, List.set_cons_zero, List.length_cons, List.length_nil, Nat.reduceAdd, W.int.injEq, W.bl.injEq, W.ref.injEq, W.tup.injEq, W.str.injEq, reduceCtorEq, false_and, and_false, exists_false, or_false, false_or, true_and, and_true, exists_const, exists_eq_left, sz0, sz1, sz2, sz3, sz4, sz5, sz6, sz7, sz8, sz9, sz10, decide_eq_true_eq]
      exact hif (fun _ => fin G6 _ r6 f6 (by omega) (by omega)) fun _ => fin G6 _ r6 f6 (by omega) (by omega)
    · simp only [Bool.false_eq_true, if_false]
      exact fin G5 _ r5 Fr.refl (by omega) (by omega)
  · rintro E G2 ⟨r2, f2, acc, x4, x5, x6, hacc, ha1, ha2, ha3, rfl⟩
    simp only [p2_c, p3_c, pT2_c, pT3_c, t_asg, t_expr, t_ret, t_if, t_nx, t_par, t_par3, g_set, g_tup2, g_tup3, g_put, s_bin, s_def, s_defK, s_call, s_cons, v_nil, s_var, v_c, s_lst, s_tup, s_test, s_tru, s_notT, s_andT, s_orT, s_and, s_or, s_not, s_if, s_neg, s_meth, s_cut, v_nopart, s_part, s_chain, s_seq, s_rng1, s_rng2, s_enum, s_zipL, s_tupR1, s_tupR2, s_yes, List.getElem?_cons_zero, List.getElem?_cons_succ, Option.some.injEq, exists_eq_left', v_ok, e_add, e_sub, e_int, e_min, e_max, e_maxU, e_lenT, e_tupT, e_lt, e_le, e_gt, e_ge, i_tup, e_cutT, List.set_cons_succ, List.set_cons_zero, List.length_cons, List.length_nil, Nat.reduceAdd, W.int.injEq, W.bl.injEq, W.ref.injEq, W.tup.injEq, W.str.injEq, reduceCtorEq, false_and, and_false, exists_false, or_false, false_or, true_and, and_true, exists_const, exists_eq_left, sz0, sz1, sz2, sz3, sz4, sz5, sz6, sz7, sz8, sz9, sz10, e_tupL hacc]
    exact ⟨acc, rfl, ⟨by rw [ha1, rnW_len], ha3⟩, r2, f2⟩
theorem some_ok {r d c n : Nat} {G : Cells} {js : List Int} (h : RI r d c G) (hn : G[n]? = some (.lst (js.map W.int))) (hr : n ≠ r) (hd : n ≠ d) (hj : js.length ≤ 1000) :
    (M_law_some [.ref r, .ref n] G).sat fun w G' => ∃ ch : List Int, w = .tup (ch.map W.int) ∧ ch.Sublist js ∧ RI r d c G' ∧ Fr [r, d] G G' := by
  have hl := h.lt
  refine fun_sat rfl ?_
  show (B_law_some [some (.ref r), some (.ref n), none] G).sat _ _
  unfold B_law_some
  simp only [p2_c, p3_c, pT2_c, pT3_c, t_asg, t_expr, t_ret, t_if, t_nx, t_par, t_par3, g_set, g_tup2, g_tup3, g_put, s_bin, s_def, s_defK, s_call, s_cons, v_nil, s_var, v_c, s_lst, s_tup, s_test, s_tru, s_notT, s_andT, s_orT, s_and, s_or, s_not, s_if, s_neg, s_meth, s_cut, v_nopart, s_part, s_chain, s_seq, s_rng1, s_rng2, s_enum, s_zipL, s_tupR1, s_tupR2, s_yes, List.getElem?_cons_zero, List.getElem?_cons_succ, Option.some.injEq, exists_eq_left', v_ok, e_add, e_sub, e_int, e_min, e_max, e_maxU, e_lenT, e_tupT, e_lt, e_le, e_gt, e_ge, i_tup, e_cutT, List.set_cons_succ, List.set_cons_zero, List.length_cons, List.length_nil, Nat.reduceAdd, W.int.injEq, W.bl.injEq, W.ref.injEq, W.tup.injEq, W.str.injEq, reduceCtorEq, false_and, and_false, exists_false, or_false, false_or, true_and, and_true, exists_const, exists_eq_left, sz0, sz1, sz2, sz3, sz4, sz5, sz6, sz7, sz8, sz9, sz10]
  refine lc_fr [r, d] (js.map W.int) (RI r d c) (fun i acc => ∃ ch : List Int, acc = ch.map W.int ∧ ch.Sublist (js.take i)) (RI.keeps hl.1 hl.2.1 hl.2.2.1) (by simp; omega) ?_ (by simp; omega) ⟨[], rfl, by simp⟩ ?_ ?_
  · simp only [s_bin, s_def, s_defK, s_call, s_cons, v_nil, s_var, v_c, s_lst, s_tup, s_test, s_tru, s_notT, s_andT, s_orT, s_and, s_or, s_not, s_if, s_neg, s_meth, s_cut, v_nopart, s_part, s_chain, s_seq, s_rng1, s_rng2, s_enum, s_zipL, s_tupR1, s_tupR2, s_yes, List.getElem?_cons_zero, List.getElem?_cons_succ, Option.some.injEq, exists_eq_left', v_ok, e_add, e_sub, e_int, e_min, e_max, e_maxU, e_lenT, e_tupT, e_lt, e_le, e_gt, e_ge, i_tup, e_cutT, List.set_cons_succ, List.set_cons_zero, List.length_cons, List.length_nil, Nat.reduceAdd, W.int.injEq, W.bl.injEq, W.ref.injEq, W.tup.injEq, W.str.injEq, reduceCtorEq, false_and, and_false, exists_false, or_false, false_or, true_and, and_true, exists_const, exists_eq_left, sz0, sz1, sz2, sz3, sz4, sz5, sz6, sz7, sz8, sz9, sz10, i_lst hn]
    exact ⟨Fr.refl, h, it_lst hn (by simp; omega)⟩
  · rintro i w acc G' hw ⟨ch, rfl, hch⟩ r2 f2
    obtain ⟨x, hx, rfl⟩ := map_get hw
    simp only [wipeE, p2_c, p3_c, pT2_c, pT3_c, t_asg, t_expr, t_ret, t_if, t_nx, t_par, t_par3, g_set, g_tup2, g_tup3, g_put, s_bin, s_def, s_defK, s_call, s_cons, v_nil, s_var, v_c, s_lst, s_tup, s_test, s_tru, s_notT, s_andT, s_orT, s_and, s_or, s_not, s_if, s_neg, s_meth, s_cut, v_nopart, s_part, s_chain, s_seq, s_rng1, s_rng2, s_enum, s_zipL, s_tupR1, s_tupR2, s_yes, List.getElem?_cons_zero, List.getElem?_cons_succ, Option.some.injEq, exists_eq_left', v_ok, e_add, e_sub, e_int, e_min, e_max, e_maxU, e_lenT, e_tupT, e_lt, e_le, e_gt, e_ge, i_tup, e_cutT, List.set_cons_succ, List.set_cons_zero, List.length_cons, List.length_nil, Nat.reduceAdd, W.int.injEq, W.bl.injEq, W.ref.injEq, W.tup.injEq, W.str.injEq, reduceCtorEq, false_and, and_false, exists_false, or_false, false_or, true_and, and_true, exists_const, exists_eq_left, sz0, sz1, sz2, sz3, sz4, sz5, sz6, sz7, sz8, sz9, sz10]
    refine (draw_ok r2 (size := 2) (by decide) (by decide)).mono fun w G3 q => ?_
    obtain ⟨⟨t, rfl, t0, t1⟩, r3, f3⟩ := q
    simp only [eqOp_int, s_bin, s_def, s_defK, s_call, s_cons, v_nil, s_var, v_c, s_lst, s_tup, s_test, s_tru, s_notT, s_andT, s_orT, s_and, s_or, s_not, s_if, s_neg, s_meth, s_cut, v_nopart, s_part, s_chain, s_seq, s_rng1, s_rng2, s_enum, s_zipL, s_tupR1, s_tupR2, s_yes, List.getElem?_cons_zero, List.getElem?_cons_succ, Option.some.injEq, exists_eq_left', v_ok, e_add, e_sub, e_int, e_min, e_max, e_maxU, e_lenT, e_tupT, e_lt, e_le, e_gt, e_ge, i_tup, e_cutT, List.set_cons_succ, List.set_cons_zero, List.length_cons, List.length_nil, Nat.reduceAdd, W.int.injEq, W.bl.injEq, W.ref.injEq, W.tup.injEq, W.str.injEq, reduceCtorEq, false_and, and_false, exists_false, or_false, false_or, true_and, and_true, exists_const, exists_eq_left, sz0, sz1, sz2, sz3, sz4, sz5, sz6, sz7, sz8, sz9, sz10, decide_eq_true_eq]
    have e := take_one hx
    refine hif (fun _ => ⟨⟨ch ++ [x], by simp, ?_⟩, r3, f3⟩) fun _ => ⟨⟨ch, rfl, ?_⟩, r3, f3⟩
    · rw [e]; exact List.Sublist.append hch (List.Sublist.refl _)
    · rw [e]; exact hch.trans (List.sublist_append_left _ _)
  · rintro n' acc G' ⟨ch, rfl, hch⟩ r2 f2 hn' hg
    rw [e_tupL hg]
    exact ⟨ch, rfl, by rw [List.length_map, List.take_of_length_le (Nat.le_refl _)] at hch; exact hch, r2, f2⟩
end NS
/- part T6 -/
set_option maxHeartbeats 1000000
namespace NS
open PySem PySem.Spec PyProof.Rows L2 PL

/-! ### laying -/
def ownB (it : It) (x : Int) (lg : Bool) : Int := match it with
  | .lab => 0
  | .fil a => -x % a
  | .jmp _ s l => if lg = true then l else s
def isLong (ch : List Int) (p : Nat) : Bool := decide ((p : Int) ∈ ch)
def atL (ln : List Int) (p : Nat) : Int := (ln[p]?).getD 0
def En (sk : List It) (ln ch : List Int) : Nat → Int
  | 0 => 0
  | p + 1 => match sk[p]? with
    | some it => En sk ln ch p + atL ln p + ownB it (En sk ln ch p + atL ln p) (isLong ch p)
    | none => En sk ln ch p
def Bg (sk : List It) (ln ch : List Int) (p : Nat) : Int := En sk ln ch p + atL ln p
theorem En_succ {sk : List It} {ln ch : List Int} {p : Nat} {it : It} (h : sk[p]? = some it) : En sk ln ch (p + 1) = Bg sk ln ch p + ownB it (Bg sk ln ch p) (isLong ch p) := by
  unfold Bg; rw [En]; simp only [h]
def layW (sk : List It) (ln ch : List Int) (n : Nat) : List W := (List.range n).map fun p => .tup [.int (Bg sk ln ch p), .int (En sk ln ch (p + 1))]
theorem layW_succ (sk : List It) (ln ch : List Int) (n : Nat) : layW sk ln ch (n + 1) = layW sk ln ch n ++ [.tup [.int (Bg sk ln ch n), .int (En sk ln ch (n + 1))]] := by
  unfold layW; rw [List.range_succ, List.map_append]; rfl
theorem layW_len (sk : List It) (ln ch : List Int) (n : Nat) : (layW sk ln ch n).length = n := by unfold layW; simp
theorem layW_get {sk : List It} {ln ch : List Int} {n p : Nat} (h : p < n) : (layW sk ln ch n)[p]? = some (.tup [.int (Bg sk ln ch p), .int (En sk ln ch (p + 1))]) := by
  unfold layW; rw [List.getElem?_map, List.getElem?_range h]; rfl
theorem any_ints (ch : List Int) (i : Int) : ((ch.map PyData.int).any fun z => PyData.eqv z (.int i)) = decide (i ∈ ch) := by
  induction ch with
  | nil => simp
  | cons c ch ih =>
    rw [List.map_cons, List.any_cons, ih]
    have : PyData.eqv (.int c) (.int i) = (c == i) := by simp [PyData.eqv]
    rw [this]
    by_cases h : c = i
    · simp [h]
    · have h2 : ¬ i = c := fun z => h z.symm
      simp [h, h2]
theorem dat_tints (G : Cells) (ds : List Int) : dat G 60 (.tup (ds.map W.int)) = some (.tuple (ds.map PyData.int)) := by
  have e : dat G 60 (.tup (ds.map W.int)) = (mapO (dat G 59) (ds.map W.int)).map PyData.tuple := rfl
  have : ∀ ds : List Int, mapO (dat G 59) (ds.map W.int) = some (ds.map PyData.int) := by
    intro ds
    induction ds with
    | nil => rfl
    | cons x xs ih =>
      have : dat G 59 (.int x) = some (.int x) := rfl
      simp only [List.map_cons, mapO, this, ih]
  rw [e, this]; rfl
/-- a choice: a tuple or a list of ints -/
inductive ChW (G : Cells) (ch : List Int) : W → Prop
  | tup : ChW G ch (.tup (ch.map W.int))
  | lst {n : Nat} : G[n]? = some (.lst (ch.map W.int)) → ChW G ch (.ref n)
theorem ChW.mono {G G' : Cells} {ch : List Int} {w : W} (h : ChW G ch w) (f : Fr [] G G') : ChW G' ch w := by
  cases h with
  | tup => exact .tup
  | lst h => exact .lst (f.get h (by simp))
theorem in_ch {G : Cells} {ch : List Int} {w : W} (h : ChW G ch w) (i : Int) : inW false G (.int i) w = .ok (.bl (decide (i ∈ ch))) G := by
  have q : inW false G (.int i) w = (match dat G 60 (.int i), dat G 60 w with
    | some d, some e => (match itemsD e with
      | some xs => if SeqAt.shaped d && SeqAt.shaped e then .ok (.bl (if false = true then !xs.any fun z => PyData.eqv z d else xs.any fun z => PyData.eqv z d)) G else .no
      | none => .no)
    | _, _ => .no) := rfl
  have d0 : dat G 60 (.int i) = some (.int i) := rfl
  have s0 : SeqAt.shaped (.int i) = true := rfl
  rw [q, d0]
  cases h with
  | tup => rw [dat_tints]; simp only [itemsD, s0, shaped_tints, any_ints, Bool.and_self, if_true, Bool.false_eq_true, if_false]
  | lst h => rw [dat_ints h]; simp only [itemsD, s0, shaped_ints, any_ints, Bool.and_self, if_true, Bool.false_eq_true, if_false]
theorem in_place {G : Cells} {ch : List Int} {w : W} (h : ChW G ch w) (i : Nat) : inW false G (.int ((i : Nat) : Int)) w = .ok (.bl (isLong ch i)) G := in_ch h _
theorem get_ints {G : Cells} {ln : List Int} {p : Nat} (h : p < ln.length) : getW G (.tup (ln.map W.int)) (.int (p : Int)) = .ok (.int (atL ln p)) G := by
  refine e_getT ?_ (by omega)
  rw [Int.toNat_natCast, List.getElem?_map, List.getElem?_eq_getElem h]
  unfold atL
  rw [List.getElem?_eq_getElem h]; rfl
theorem w_f1 (a : Int) (G : Cells) : getW G (It.fil a).w (.int 1) = .ok (.int a) G := e_getT rfl (by decide)
theorem w_j1 (g s l : Int) (G : Cells) : getW G (It.jmp g s l).w (.int 1) = .ok (.int g) G := e_getT rfl (by decide)
theorem w_j2 (g s l : Int) (G : Cells) : getW G (It.jmp g s l).w (.int 2) = .ok (.int s) G := e_getT rfl (by decide)
theorem w_j3 (g s l : Int) (G : Cells) : getW G (It.jmp g s l).w (.int 3) = .ok (.int l) G := e_getT rfl (by decide)
theorem fill_pos {a : Int} (h : fillOk a) : 0 < a ∧ a ≤ 64 := by unfold fillOk at h; omega
theorem own_ok {it : It} {sk : List It} {x : Int} {lg : Bool} {G : Cells} (h : itOk sk it) : (Mown_bytes [it.w, .int x, .bl lg] G).sat fun w G' => w = .int (ownB it x lg) ∧ G' = G := by
  refine fun_sat rfl ?_
  show (Bown_bytes [some it.w, some (.int x), some (.bl lg)] G).sat _ _
  unfold Bown_bytes
  refine so_seq ?_
  simp only [p2_c, p3_c, pT2_c, pT3_c, t_asg, t_expr, t_ret, t_if, t_nx, t_par, t_par3, g_set, g_tup2, g_tup3, g_put, s_bin, s_def, s_defK, s_call, s_cons, v_nil, s_var, v_c, s_lst, s_tup, s_test, s_tru, s_notT, s_andT, s_orT, s_and, s_or, s_not, s_if, s_neg, s_meth, s_cut, v_nopart, s_part, s_chain, s_seq, s_rng1, s_rng2, s_enum, s_zipL, s_tupR1, s_tupR2, s_yes, List.getElem?_cons_zero, List.getElem?_cons_succ, Option.some.injEq, exists_eq_left', v_ok, e_add, e_sub, e_int, e_min, e_max, e_maxU, e_lenT, e_tupT, e_lt, e_le, e_gt, e_ge, i_tup, e_cutT, List.set_cons_succ, List.set_cons_zero, List.length_cons, List.length_nil, Nat.reduceAdd, W.int.injEq, W.bl.injEq, W.ref.injEq, W.tup.injEq, W.str.injEq, reduceCtorEq, false_and, and_false, exists_false, or_false, false_or, true_and, and_true, exists_const, exists_eq_left, sz0, sz1, sz2, sz3, sz4, sz5, sz6, sz7, sz8, sz9, sz10, w_0, kind_L]
  cases it with
  | lab => simp only [It.isL, if_true, ownB, and_self]
  | fil a =>
    simp only [It.isL, Bool.false_eq_true, if_false]
    refine so_seq ?_
    simp only [p2_c, p3_c, pT2_c, pT3_c, t_asg, t_expr, t_ret, t_if, t_nx, t_par, t_par3, g_set, g_tup2, g_tup3, g_put, s_bin, s_def, s_defK, s_call, s_cons, v_nil, s_var, v_c, s_lst, s_tup, s_test, s_tru, s_notT, s_andT, s_orT, s_and, s_or, s_not, s_if, s_neg, s_meth, s_cut, v_nopart, s_part, s_chain, s_seq, s_rng1, s_rng2, s_enum, s_zipL, s_tupR1, s_tupR2, s_yes, List.getElem?_cons_zero, List.getElem?_cons_succ, Option.some.injEq, exists_eq_left', v_ok, e_add, e_sub, e_int, e_min, e_max, e_maxU, e_lenT, e_tupT, e_lt, e_le, e_gt, e_ge, i_tup, e_cutT, List.set_cons_succ, List.set_cons_zero, List.length_cons, List.length_nil, Nat.reduceAdd, W.int.injEq, W.bl.injEq, W.ref.injEq, W.tup.injEq, W.str.injEq, reduceCtorEq, false_and, and_false, exists_false, or_false, false_or, true_and, and_true, exists_const, exists_eq_left, sz0, sz1, sz2, sz3, sz4, sz5, sz6, sz7, sz8, sz9, sz10, w_0, kind_F, It.isF, if_true, w_f1, W.int.injEq, e_mod (fill_pos h).1, ownB, and_self]
  | jmp g s l =>
    simp only [It.isL, Bool.false_eq_true, if_false]
    refine so_seq ?_
    simp only [p2_c, p3_c, pT2_c, pT3_c, t_asg, t_expr, t_ret, t_if, t_nx, t_par, t_par3, g_set, g_tup2, g_tup3, g_put, s_bin, s_def, s_defK, s_call, s_cons, v_nil, s_var, v_c, s_lst, s_tup, s_test, s_tru, s_notT, s_andT, s_orT, s_and, s_or, s_not, s_if, s_neg, s_meth, s_cut, v_nopart, s_part, s_chain, s_seq, s_rng1, s_rng2, s_enum, s_zipL, s_tupR1, s_tupR2, s_yes, List.getElem?_cons_zero, List.getElem?_cons_succ, Option.some.injEq, exists_eq_left', v_ok, e_add, e_sub, e_int, e_min, e_max, e_maxU, e_lenT, e_tupT, e_lt, e_le, e_gt, e_ge, i_tup, e_cutT, List.set_cons_succ, List.set_cons_zero, List.length_cons, List.length_nil, Nat.reduceAdd, W.int.injEq, W.bl.injEq, W.ref.injEq, W.tup.injEq, W.str.injEq, reduceCtorEq, false_and, and_false, exists_false, or_false, false_or, true_and, and_true, exists_const, exists_eq_left, sz0, sz1, sz2, sz3, sz4, sz5, sz6, sz7, sz8, sz9, sz10, w_0, kind_F, It.isF, Bool.false_eq_true, if_false, w_j3, w_j2, truW, ownB]
    cases lg <;> simp
theorem laid_ok {sk : List It} {ln ch : List Int} {G : Cells} {cw : W} (hs : Skel sk) (hl : ln.length = sk.length + 1) (hc : ChW G ch cw) :
    (Mlaid [skW sk, .tup (ln.map W.int), cw] G).sat fun w G' => w = .tup (layW sk ln ch sk.length) ∧ Fr [] G G' := by
  have hs24 := hs.len2
  refine fun_sat rfl ?_
  show (Blaid [some (skW sk), some (.tup (ln.map W.int)), some cw, none, none, none, none, none] G).sat _ _
  unfold Blaid
  refine so_seq ?_
  simp only [p2_c, p3_c, pT2_c, pT3_c, t_asg, t_expr, t_ret, t_if, t_nx, t_par, t_par3, g_set, g_tup2, g_tup3, g_put, s_bin, s_def, s_defK, s_call, s_cons, v_nil, s_var, v_c, s_lst, s_tup, s_test, s_tru, s_notT, s_andT, s_orT, s_and, s_or, s_not, s_if, s_neg, s_meth, s_cut, v_nopart, s_part, s_chain, s_seq, s_rng1, s_rng2, s_enum, s_zipL, s_tupR1, s_tupR2, s_yes, List.getElem?_cons_zero, List.getElem?_cons_succ, Option.some.injEq, exists_eq_left', v_ok, e_add, e_sub, e_int, e_min, e_max, e_maxU, e_lenT, e_tupT, e_lt, e_le, e_gt, e_ge, i_tup, e_cutT, List.set_cons_succ, List.set_cons_zero, List.length_cons, List.length_nil, Nat.reduceAdd, W.int.injEq, W.bl.injEq, W.ref.injEq, W.tup.injEq, W.str.injEq, reduceCtorEq, false_and, and_false, exists_false, or_false, false_or, true_and, and_true, exists_const, exists_eq_left, sz0, sz1, sz2, sz3, sz4, sz5, sz6, sz7, sz8, sz9, sz10]
  refine so_seq ?_
  simp only [p2_c, p3_c, pT2_c, pT3_c, t_asg, t_expr, t_ret, t_if, t_nx, t_par, t_par3, g_set, g_tup2, g_tup3, g_put, s_bin, s_def, s_defK, s_call, s_cons, v_nil, s_var, v_c, s_lst, s_tup, s_test, s_tru, s_notT, s_andT, s_orT, s_and, s_or, s_not, s_if, s_neg, s_meth, s_cut, v_nopart, s_part, s_chain, s_seq, s_rng1, s_rng2, s_enum, s_zipL, s_tupR1, s_tupR2, s_yes, List.getElem?_cons_zero, List.getElem?_cons_succ, Option.some.injEq, exists_eq_left', v_ok, e_add, e_sub, e_int, e_min, e_max, e_maxU, e_lenT, e_tupT, e_lt, e_le, e_gt, e_ge, i_tup, e_cutT, List.set_cons_succ, List.set_cons_zero, List.length_cons, List.length_nil, Nat.reduceAdd, W.int.injEq, W.bl.injEq, W.ref.injEq, W.tup.injEq, W.str.injEq, reduceCtorEq, false_and, and_false, exists_false, or_false, false_or, true_and, and_true, exists_const, exists_eq_left, sz0, sz1, sz2, sz3, sz4, sz5, sz6, sz7, sz8, sz9, sz10]
  refine so_seq (so_forI (enW (sk.map It.w)) (fun i E G2 => Fr [] G G2 ∧ G2[G.length]? = some (.lst (layW sk ln ch i)) ∧ i ≤ 24 ∧ ∃ x5 x6 x7 : Option W, E = [some (skW sk), some (.tup (ln.map W.int)), some cw, some (.ref G.length), some (.int (En sk ln ch i)), x5, x6, x7]) ?_ ?_ ?_)
  · simp only [s_bin, s_def, s_defK, s_call, s_cons, v_nil, s_var, v_c, s_lst, s_tup, s_test, s_tru, s_notT, s_andT, s_orT, s_and, s_or, s_not, s_if, s_neg, s_meth, s_cut, v_nopart, s_part, s_chain, s_seq, s_rng1, s_rng2, s_enum, s_zipL, s_tupR1, s_tupR2, s_yes, List.getElem?_cons_zero, List.getElem?_cons_succ, Option.some.injEq, exists_eq_left', v_ok, e_add, e_sub, e_int, e_min, e_max, e_maxU, e_lenT, e_tupT, e_lt, e_le, e_gt, e_ge, i_tup, e_cutT, List.set_cons_succ, List.set_cons_zero, List.length_cons, List.length_nil, Nat.reduceAdd, W.int.injEq, W.bl.injEq, W.ref.injEq, W.tup.injEq, W.str.injEq, reduceCtorEq, false_and, and_false, exists_false, or_false, false_or, true_and, and_true, exists_const, exists_eq_left, sz0, sz1, sz2, sz3, sz4, sz5, sz6, sz7, sz8, sz9, sz10]
    have it := it_enT [G.length] (G ++ [.lst []]) (sk.map It.w)
    exact ⟨it.len, ⟨Fr.push, push_get G _, by omega, none, none, none, rfl⟩, fun i E' G' q => (it_enT [] G' (sk.map It.w)).at' G' i Fr.refl⟩
  · rintro i w E G2 hw ⟨f2, hg, hi, x5, x6, x7, rfl⟩
    obtain ⟨x, hx, rfl⟩ := enW_inv hw
    obtain ⟨it, hit, rfl⟩ := map_get hx
    have hil : i < sk.length := (List.getElem?_eq_some_iff.mp hit).1
    simp only [p2_c, p3_c, pT2_c, pT3_c, t_asg, t_expr, t_ret, t_if, t_nx, t_par, t_par3, g_set, g_tup2, g_tup3, g_put, s_bin, s_def, s_defK, s_call, s_cons, v_nil, s_var, v_c, s_lst, s_tup, s_test, s_tru, s_notT, s_andT, s_orT, s_and, s_or, s_not, s_if, s_neg, s_meth, s_cut, v_nopart, s_part, s_chain, s_seq, s_rng1, s_rng2, s_enum, s_zipL, s_tupR1, s_tupR2, s_yes, List.getElem?_cons_zero, List.getElem?_cons_succ, Option.some.injEq, exists_eq_left', v_ok, e_add, e_sub, e_int, e_min, e_max, e_maxU, e_lenT, e_tupT, e_lt, e_le, e_gt, e_ge, i_tup, e_cutT, List.set_cons_succ, List.set_cons_zero, List.length_cons, List.length_nil, Nat.reduceAdd, W.int.injEq, W.bl.injEq, W.ref.injEq, W.tup.injEq, W.str.injEq, reduceCtorEq, false_and, and_false, exists_false, or_false, false_or, true_and, and_true, exists_const, exists_eq_left, sz0, sz1, sz2, sz3, sz4, sz5, sz6, sz7, sz8, sz9, sz10]
    refine so_seq ?_
    simp only [p2_c, p3_c, pT2_c, pT3_c, t_asg, t_expr, t_ret, t_if, t_nx, t_par, t_par3, g_set, g_tup2, g_tup3, g_put, s_bin, s_def, s_defK, s_call, s_cons, v_nil, s_var, v_c, s_lst, s_tup, s_test, s_tru, s_notT, s_andT, s_orT, s_and, s_or, s_not, s_if, s_neg, s_meth, s_cut, v_nopart, s_part, s_chain, s_seq, s_rng1, s_rng2, s_enum, s_zipL, s_tupR1, s_tupR2, s_yes, List.getElem?_cons_zero, List.getElem?_cons_succ, Option.some.injEq, exists_eq_left', v_ok, e_add, e_sub, e_int, e_min, e_max, e_maxU, e_lenT, e_tupT, e_lt, e_le, e_gt, e_ge, i_tup, e_cutT, List.set_cons_succ, List.set_cons_zero, List.length_cons, List.length_nil, Nat.reduceAdd, W.int.injEq, W.bl.injEq, W.ref.injEq, W.tup.injEq, W.str.injEq, reduceCtorEq, false_and, and_false, exists_false, or_false, false_or, true_and, and_true, exists_const, exists_eq_left, sz0, sz1, sz2, sz3, sz4, sz5, sz6, sz7, sz8, sz9, sz10, get_ints (show i < ln.length by omega)]
    refine so_seq ?_
    simp only [p2_c, p3_c, pT2_c, pT3_c, t_asg, t_expr, t_ret, t_if, t_nx, t_par, t_par3, g_set, g_tup2, g_tup3, g_put, s_bin, s_def, s_defK, s_call, s_cons, v_nil, s_var, v_c, s_lst, s_tup, s_test, s_tru, s_notT, s_andT, s_orT, s_and, s_or, s_not, s_if, s_neg, s_meth, s_cut, v_nopart, s_part, s_chain, s_seq, s_rng1, s_rng2, s_enum, s_zipL, s_tupR1, s_tupR2, s_yes, List.getElem?_cons_zero, List.getElem?_cons_succ, Option.some.injEq, exists_eq_left', v_ok, e_add, e_sub, e_int, e_min, e_max, e_maxU, e_lenT, e_tupT, e_lt, e_le, e_gt, e_ge, i_tup, e_cutT, List.set_cons_succ, List.set_cons_zero, List.length_cons, List.length_nil, Nat.reduceAdd, W.int.injEq, W.bl.injEq, W.ref.injEq, W.tup.injEq, W.str.injEq, reduceCtorEq, false_and, and_false, exists_false, or_false, false_or, true_and, and_true, exists_const, exists_eq_left, sz0, sz1, sz2, sz3, sz4, sz5, sz6, sz7, sz8, sz9, sz10, in_place (hc.mono f2)]
    refine (own_ok (hs.items it (List.mem_of_getElem? hit))).mono fun w G3 q => ?_
    obtain ⟨rfl, rfl⟩ := q
    have e1 : En sk ln ch i + atL ln i = Bg sk ln ch i := rfl
    have e2 := En_succ (ln := ln) (ch := ch) hit
    simp only [p2_c, p3_c, pT2_c, pT3_c, t_asg, t_expr, t_ret, t_if, t_nx, t_par, t_par3, g_set, g_tup2, g_tup3, g_put, s_bin, s_def, s_defK, s_call, s_cons, v_nil, s_var, v_c, s_lst, s_tup, s_test, s_tru, s_notT, s_andT, s_orT, s_and, s_or, s_not, s_if, s_neg, s_meth, s_cut, v_nopart, s_part, s_chain, s_seq, s_rng1, s_rng2, s_enum, s_zipL, s_tupR1, s_tupR2, s_yes, List.getElem?_cons_zero, List.getElem?_cons_succ, Option.some.injEq, exists_eq_left', v_ok, e_add, e_sub, e_int, e_min, e_max, e_maxU, e_lenT, e_tupT, e_lt, e_le, e_gt, e_ge, i_tup, e_cutT, List.set_cons_succ, List.set_cons_zero, List.length_cons, List.length_nil, Nat.reduceAdd, W.int.injEq, W.bl.injEq, W.ref.injEq, W.tup.injEq, W.str.injEq, reduceCtorEq, false_and, and_false, exists_false, or_false, false_or, true_and, and_true, exists_const, exists_eq_left, sz0, sz1, sz2, sz3, sz4, sz5, sz6, sz7, sz8, sz9, sz10, e_isL hg]
    rw [e1, ← e2, e_app hg (by rw [layW_len]; omega), ← layW_succ]
    exact ⟨f2.fresh (Nat.le_refl _) (Fr.set (by simp)), get_set (lt_of_get hg), by omega, _, _, _, rfl⟩
  · rintro E G2 ⟨f2, hg, hi, x5, x6, x7, rfl⟩
    rw [enW_len, List.length_map] at hg
    simp only [p2_c, p3_c, pT2_c, pT3_c, t_asg, t_expr, t_ret, t_if, t_nx, t_par, t_par3, g_set, g_tup2, g_tup3, g_put, s_bin, s_def, s_defK, s_call, s_cons, v_nil, s_var, v_c, s_lst, s_tup, s_test, s_tru, s_notT, s_andT, s_orT, s_and, s_or, s_not, s_if, s_neg, s_meth, s_cut, v_nopart, s_part, s_chain, s_seq, s_rng1, s_rng2, s_enum, s_zipL, s_tupR1, s_tupR2, s_yes, List.getElem?_cons_zero, List.getElem?_cons_succ, Option.some.injEq, exists_eq_left', v_ok, e_add, e_sub, e_int, e_min, e_max, e_maxU, e_lenT, e_tupT, e_lt, e_le, e_gt, e_ge, i_tup, e_cutT, List.set_cons_succ, List.set_cons_zero, List.length_cons, List.length_nil, Nat.reduceAdd, W.int.injEq, W.bl.injEq, W.ref.injEq, W.tup.injEq, W.str.injEq, reduceCtorEq, false_and, and_false, exists_false, or_false, false_or, true_and, and_true, exists_const, exists_eq_left, sz0, sz1, sz2, sz3, sz4, sz5, sz6, sz7, sz8, sz9, sz10, e_tupL hg]
    exact f2
theorem up_fill {a x : Int} (h : fillOk a) : (x + a - 1) / a * a = x + -x % a := by
  unfold fillOk at h
  rcases h with rfl | rfl | rfl | rfl | rfl | rfl <;> omega
theorem laying_ok {sk : List It} {ln ch : List Int} {G : Cells} {cw : W} (hs : Skel sk) (hl : ln.length = sk.length + 1) (hc : ChW G ch cw) :
    (M_law_laying [skW sk, .tup (ln.map W.int), cw] G).sat fun w G' => ∃ n, w = .ref n ∧ G.length ≤ n ∧ G'[n]? = some (.lst (layW sk ln ch sk.length)) ∧ Fr [] G G' := by
  have hs24 := hs.len2
  refine fun_sat rfl ?_
  show (B_law_laying [some (skW sk), some (.tup (ln.map W.int)), some cw, none, none, none, none, none] G).sat _ _
  unfold B_law_laying
  refine so_seq ?_
  simp only [p2_c, p3_c, pT2_c, pT3_c, t_asg, t_expr, t_ret, t_if, t_nx, t_par, t_par3, g_set, g_tup2, g_tup3, g_put, s_bin, s_def, s_defK, s_call, s_cons, v_nil, s_var, v_c, s_lst, s_tup, s_test, s_tru, s_notT, s_andT, s_orT, s_and, s_or, s_not, s_if, s_neg, s_meth, s_cut, v_nopart, s_part, s_chain, s_seq, s_rng1, s_rng2, s_enum, s_zipL, s_tupR1, s_tupR2, s_yes, List.getElem?_cons_zero, List.getElem?_cons_succ, Option.some.injEq, exists_eq_left', v_ok, e_add, e_sub, e_int, e_min, e_max, e_maxU, e_lenT, e_tupT, e_lt, e_le, e_gt, e_ge, i_tup, e_cutT, List.set_cons_succ, List.set_cons_zero, List.length_cons, List.length_nil, Nat.reduceAdd, W.int.injEq, W.bl.injEq, W.ref.injEq, W.tup.injEq, W.str.injEq, reduceCtorEq, false_and, and_false, exists_false, or_false, false_or, true_and, and_true, exists_const, exists_eq_left, sz0, sz1, sz2, sz3, sz4, sz5, sz6, sz7, sz8, sz9, sz10]
  refine so_seq (so_forI (enW (sk.map It.w)) (fun i E G2 => Fr [] G G2 ∧ G2[G.length]? = some (.lst (layW sk ln ch i)) ∧ i ≤ 24 ∧ ∃ x5 x6 x7 : Option W, E = [some (skW sk), some (.tup (ln.map W.int)), some cw, some (.int (En sk ln ch i)), some (.ref G.length), x5, x6, x7]) ?_ ?_ ?_)
  · simp only [s_bin, s_def, s_defK, s_call, s_cons, v_nil, s_var, v_c, s_lst, s_tup, s_test, s_tru, s_notT, s_andT, s_orT, s_and, s_or, s_not, s_if, s_neg, s_meth, s_cut, v_nopart, s_part, s_chain, s_seq, s_rng1, s_rng2, s_enum, s_zipL, s_tupR1, s_tupR2, s_yes, List.getElem?_cons_zero, List.getElem?_cons_succ, Option.some.injEq, exists_eq_left', v_ok, e_add, e_sub, e_int, e_min, e_max, e_maxU, e_lenT, e_tupT, e_lt, e_le, e_gt, e_ge, i_tup, e_cutT, List.set_cons_succ, List.set_cons_zero, List.length_cons, List.length_nil, Nat.reduceAdd, W.int.injEq, W.bl.injEq, W.ref.injEq, W.tup.injEq, W.str.injEq, reduceCtorEq, false_and, and_false, exists_false, or_false, false_or, true_and, and_true, exists_const, exists_eq_left, sz0, sz1, sz2, sz3, sz4, sz5, sz6, sz7, sz8, sz9, sz10]
    have it := it_enT [G.length] (G ++ [.lst []]) (sk.map It.w)
    exact ⟨it.len, ⟨Fr.push, push_get G _, by omega, none, none, none, rfl⟩, fun i E' G' q => (it_enT [] G' (sk.map It.w)).at' G' i Fr.refl⟩
  · rintro i w E G2 hw ⟨f2, hg, hi, x5, x6, x7, rfl⟩
    obtain ⟨x, hx, rfl⟩ := enW_inv hw
    obtain ⟨it, hit, rfl⟩ := map_get hx
    have hil : i < sk.length := (List.getElem?_eq_some_iff.mp hit).1
    have e1 : En sk ln ch i + atL ln i = Bg sk ln ch i := rfl
    have e2 := En_succ (ln := ln) (ch := ch) hit
    have iok := hs.items it (List.mem_of_getElem? hit)
    simp only [p2_c, p3_c, pT2_c, pT3_c, t_asg, t_expr, t_ret, t_if, t_nx, t_par, t_par3, g_set, g_tup2, g_tup3, g_put, s_bin, s_def, s_defK, s_call, s_cons, v_nil, s_var, v_c, s_lst, s_tup, s_test, s_tru, s_notT, s_andT, s_orT, s_and, s_or, s_not, s_if, s_neg, s_meth, s_cut, v_nopart, s_part, s_chain, s_seq, s_rng1, s_rng2, s_enum, s_zipL, s_tupR1, s_tupR2, s_yes, List.getElem?_cons_zero, List.getElem?_cons_succ, Option.some.injEq, exists_eq_left', v_ok, e_add, e_sub, e_int, e_min, e_max, e_maxU, e_lenT, e_tupT, e_lt, e_le, e_gt, e_ge, i_tup, e_cutT, List.set_cons_succ, List.set_cons_zero, List.length_cons, List.length_nil, Nat.reduceAdd, W.int.injEq, W.bl.injEq, W.ref.injEq, W.tup.injEq, W.str.injEq, reduceCtorEq, false_and, and_false, exists_false, or_false, false_or, true_and, and_true, exists_const, exists_eq_left, sz0, sz1, sz2, sz3, sz4, sz5, sz6, sz7, sz8, sz9, sz10]
    refine so_seq ?_
    simp only [p2_c, p3_c, pT2_c, pT3_c, t_asg, t_expr, t_ret, t_if, t_nx, t_par, t_par3, g_set, g_tup2, g_tup3, g_put, s_bin, s_def, s_defK, s_call, s_cons, v_nil, s_var, v_c, s_lst, s_tup, s_test, s_tru, s_notT, s_andT, s_orT, s_and, s_or, s_not, s_if, s_neg, s_meth, s_cut, v_nopart, s_part, s_chain, s_seq, s_rng1, s_rng2, s_enum, s_zipL, s_tupR1, s_tupR2, s_yes, List.getElem?_cons_zero, List.getElem?_cons_succ, Option.some.injEq, exists_eq_left', v_ok, e_add, e_sub, e_int, e_min, e_max, e_maxU, e_lenT, e_tupT, e_lt, e_le, e_gt, e_ge, i_tup, e_cutT, List.set_cons_succ, List.set_cons_zero, List.length_cons, List.length_nil, Nat.reduceAdd, W.int.injEq, W.bl.injEq, W.ref.injEq, W.tup.injEq, W.str.injEq, reduceCtorEq, false_and, and_false, exists_false, or_false, false_or, true_and, and_true, exists_const, exists_eq_left, sz0, sz1, sz2, sz3, sz4, sz5, sz6, sz7, sz8, sz9, sz10, get_ints (show i < ln.length by omega)]
    rw [e1]
    refine so_seq ?_
    simp only [p2_c, p3_c, pT2_c, pT3_c, t_asg, t_expr, t_ret, t_if, t_nx, t_par, t_par3, g_set, g_tup2, g_tup3, g_put, s_bin, s_def, s_defK, s_call, s_cons, v_nil, s_var, v_c, s_lst, s_tup, s_test, s_tru, s_notT, s_andT, s_orT, s_and, s_or, s_not, s_if, s_neg, s_meth, s_cut, v_nopart, s_part, s_chain, s_seq, s_rng1, s_rng2, s_enum, s_zipL, s_tupR1, s_tupR2, s_yes, List.getElem?_cons_zero, List.getElem?_cons_succ, Option.some.injEq, exists_eq_left', v_ok, e_add, e_sub, e_int, e_min, e_max, e_maxU, e_lenT, e_tupT, e_lt, e_le, e_gt, e_ge, i_tup, e_cutT, List.set_cons_succ, List.set_cons_zero, List.length_cons, List.length_nil, Nat.reduceAdd, W.int.injEq, W.bl.injEq, W.ref.injEq, W.tup.injEq, W.str.injEq, reduceCtorEq, false_and, and_false, exists_false, or_false, false_or, true_and, and_true, exists_const, exists_eq_left, sz0, sz1, sz2, sz3, sz4, sz5, sz6, sz7, sz8, sz9, sz10]
    refine so_seq ?_
    have fin : ∀ y, y = En sk ln ch (i + 1) → (appendW G2 (.ref G.length) [.tup [.int (Bg sk ln ch i), .int y]]).sat fun _ G1 => Fr [] G G1 ∧ G1[G.length]? = some (.lst (layW sk ln ch (i + 1))) ∧ i + 1 ≤ 24 ∧ ∃ x5' x6' x7' : Option W, [some (skW sk), some (W.tup (ln.map W.int)), some cw, some (.int y), some (.ref G.length), some (.int (i : Int)), some it.w, some (.int (Bg sk ln ch i))] = [some (skW sk), some (.tup (ln.map W.int)), some cw, some (.int (En sk ln ch (i + 1))), some (.ref G.length), x5', x6', x7'] := by
      rintro y rfl
      rw [e_app hg (by rw [layW_len]; omega), ← layW_succ]
      exact ⟨f2.fresh (Nat.le_refl _) (Fr.set (by simp)), get_set (lt_of_get hg), by omega, _, _, _, rfl⟩
    cases it with
    | lab =>
      simp only [p2_c, p3_c, pT2_c, pT3_c, t_asg, t_expr, t_ret, t_if, t_nx, t_par, t_par3, g_set, g_tup2, g_tup3, g_put, s_bin, s_def, s_defK, s_call, s_cons, v_nil, s_var, v_c, s_lst, s_tup, s_test, s_tru, s_notT, s_andT, s_orT, s_and, s_or, s_not, s_if, s_neg, s_meth, s_cut, v_nopart, s_part, s_chain, s_seq, s_rng1, s_rng2, s_enum, s_zipL, s_tupR1, s_tupR2, s_yes, List.getElem?_cons_zero, List.getElem?_cons_succ, Option.some.injEq, exists_eq_left', v_ok, e_add, e_sub, e_int, e_min, e_max, e_maxU, e_lenT, e_tupT, e_lt, e_le, e_gt, e_ge, i_tup, e_cutT, List.set_cons_succ, List.set_cons_zero, List.length_cons, List.length_nil, Nat.reduceAdd, W.int.injEq, W.bl.injEq, W.ref.injEq, W.tup.injEq, W.str.injEq, reduceCtorEq, false_and, and_false, exists_false, or_false, false_or, true_and, and_true, exists_const, exists_eq_left, sz0, sz1, sz2, sz3, sz4, sz5, sz6, sz7, sz8, sz9, sz10, w_0, kind_F, kind_J, It.isF, It.isJ, Bool.false_eq_true, if_false]
      refine so_seq ?_
      simp only [p2_c, p3_c, pT2_c, pT3_c, t_asg, t_expr, t_ret, t_if, t_nx, t_par, t_par3, g_set, g_tup2, g_tup3, g_put, s_bin, s_def, s_defK, s_call, s_cons, v_nil, s_var, v_c, s_lst, s_tup, s_test, s_tru, s_notT, s_andT, s_orT, s_and, s_or, s_not, s_if, s_neg, s_meth, s_cut, v_nopart, s_part, s_chain, s_seq, s_rng1, s_rng2, s_enum, s_zipL, s_tupR1, s_tupR2, s_yes, List.getElem?_cons_zero, List.getElem?_cons_succ, Option.some.injEq, exists_eq_left', v_ok, e_add, e_sub, e_int, e_min, e_max, e_maxU, e_lenT, e_tupT, e_lt, e_le, e_gt, e_ge, i_tup, e_cutT, List.set_cons_succ, List.set_cons_zero, List.length_cons, List.length_nil, Nat.reduceAdd, W.int.injEq, W.bl.injEq, W.ref.injEq, W.tup.injEq, W.str.injEq, reduceCtorEq, false_and, and_false, exists_false, or_false, false_or, true_and, and_true, exists_const, exists_eq_left, sz0, sz1, sz2, sz3, sz4, sz5, sz6, sz7, sz8, sz9, sz10, w_0, kind_F, kind_J, It.isF, It.isJ, Bool.false_eq_true, if_false, e_isL hg]
      exact fin _ (by rw [e2]; show _ = _ + (0 : Int); omega)
    | fil a =>
      have ha := fill_pos iok
      simp only [p2_c, p3_c, pT2_c, pT3_c, t_asg, t_expr, t_ret, t_if, t_nx, t_par, t_par3, g_set, g_tup2, g_tup3, g_put, s_bin, s_def, s_defK, s_call, s_cons, v_nil, s_var, v_c, s_lst, s_tup, s_test, s_tru, s_notT, s_andT, s_orT, s_and, s_or, s_not, s_if, s_neg, s_meth, s_cut, v_nopart, s_part, s_chain, s_seq, s_rng1, s_rng2, s_enum, s_zipL, s_tupR1, s_tupR2, s_yes, List.getElem?_cons_zero, List.getElem?_cons_succ, Option.some.injEq, exists_eq_left', v_ok, e_add, e_sub, e_int, e_min, e_max, e_maxU, e_lenT, e_tupT, e_lt, e_le, e_gt, e_ge, i_tup, e_cutT, List.set_cons_succ, List.set_cons_zero, List.length_cons, List.length_nil, Nat.reduceAdd, W.int.injEq, W.bl.injEq, W.ref.injEq, W.tup.injEq, W.str.injEq, reduceCtorEq, false_and, and_false, exists_false, or_false, false_or, true_and, and_true, exists_const, exists_eq_left, sz0, sz1, sz2, sz3, sz4, sz5, sz6, sz7, sz8, sz9, sz10, w_0, kind_F, kind_J, It.isF, It.isJ, if_true, w_f1, e_div ha.1 (show a < 1073741824 by omega), e_mul (mulOk_r (i := (Bg sk ln ch i + a - 1) / a) (j := a) (by omega))]
      refine so_seq ?_
      simp only [p2_c, p3_c, pT2_c, pT3_c, t_asg, t_expr, t_ret, t_if, t_nx, t_par, t_par3, g_set, g_tup2, g_tup3, g_put, s_bin, s_def, s_defK, s_call, s_cons, v_nil, s_var, v_c, s_lst, s_tup, s_test, s_tru, s_notT, s_andT, s_orT, s_and, s_or, s_not, s_if, s_neg, s_meth, s_cut, v_nopart, s_part, s_chain, s_seq, s_rng1, s_rng2, s_enum, s_zipL, s_tupR1, s_tupR2, s_yes, List.getElem?_cons_zero, List.getElem?_cons_succ, Option.some.injEq, exists_eq_left', v_ok, e_add, e_sub, e_int, e_min, e_max, e_maxU, e_lenT, e_tupT, e_lt, e_le, e_gt, e_ge, i_tup, e_cutT, List.set_cons_succ, List.set_cons_zero, List.length_cons, List.length_nil, Nat.reduceAdd, W.int.injEq, W.bl.injEq, W.ref.injEq, W.tup.injEq, W.str.injEq, reduceCtorEq, false_and, and_false, exists_false, or_false, false_or, true_and, and_true, exists_const, exists_eq_left, sz0, sz1, sz2, sz3, sz4, sz5, sz6, sz7, sz8, sz9, sz10, w_0, kind_F, kind_J, It.isF, It.isJ, Bool.false_eq_true, if_false, e_isL hg]
      exact fin _ (by rw [e2, up_fill iok]; rfl)
    | jmp g s l =>
      simp only [p2_c, p3_c, pT2_c, pT3_c, t_asg, t_expr, t_ret, t_if, t_nx, t_par, t_par3, g_set, g_tup2, g_tup3, g_put, s_bin, s_def, s_defK, s_call, s_cons, v_nil, s_var, v_c, s_lst, s_tup, s_test, s_tru, s_notT, s_andT, s_orT, s_and, s_or, s_not, s_if, s_neg, s_meth, s_cut, v_nopart, s_part, s_chain, s_seq, s_rng1, s_rng2, s_enum, s_zipL, s_tupR1, s_tupR2, s_yes, List.getElem?_cons_zero, List.getElem?_cons_succ, Option.some.injEq, exists_eq_left', v_ok, e_add, e_sub, e_int, e_min, e_max, e_maxU, e_lenT, e_tupT, e_lt, e_le, e_gt, e_ge, i_tup, e_cutT, List.set_cons_succ, List.set_cons_zero, List.length_cons, List.length_nil, Nat.reduceAdd, W.int.injEq, W.bl.injEq, W.ref.injEq, W.tup.injEq, W.str.injEq, reduceCtorEq, false_and, and_false, exists_false, or_false, false_or, true_and, and_true, exists_const, exists_eq_left, sz0, sz1, sz2, sz3, sz4, sz5, sz6, sz7, sz8, sz9, sz10, w_0, kind_F, kind_J, It.isF, It.isJ, Bool.false_eq_true, if_false]
      refine so_seq ?_
      simp only [p2_c, p3_c, pT2_c, pT3_c, t_asg, t_expr, t_ret, t_if, t_nx, t_par, t_par3, g_set, g_tup2, g_tup3, g_put, s_bin, s_def, s_defK, s_call, s_cons, v_nil, s_var, v_c, s_lst, s_tup, s_test, s_tru, s_notT, s_andT, s_orT, s_and, s_or, s_not, s_if, s_neg, s_meth, s_cut, v_nopart, s_part, s_chain, s_seq, s_rng1, s_rng2, s_enum, s_zipL, s_tupR1, s_tupR2, s_yes, List.getElem?_cons_zero, List.getElem?_cons_succ, Option.some.injEq, exists_eq_left', v_ok, e_add, e_sub, e_int, e_min, e_max, e_maxU, e_lenT, e_tupT, e_lt, e_le, e_gt, e_ge, i_tup, e_cutT, List.set_cons_succ, List.set_cons_zero, List.length_cons, List.length_nil, Nat.reduceAdd, W.int.injEq, W.bl.injEq, W.ref.injEq, W.tup.injEq, W.str.injEq, reduceCtorEq, false_and, and_false, exists_false, or_false, false_or, true_and, and_true, exists_const, exists_eq_left, sz0, sz1, sz2, sz3, sz4, sz5, sz6, sz7, sz8, sz9, sz10, w_0, kind_F, kind_J, It.isF, It.isJ, if_true, in_place (hc.mono f2)]
      refine hif (fun hb => ?_) fun hb => ?_
      · simp only [p2_c, p3_c, pT2_c, pT3_c, t_asg, t_expr, t_ret, t_if, t_nx, t_par, t_par3, g_set, g_tup2, g_tup3, g_put, s_bin, s_def, s_defK, s_call, s_cons, v_nil, s_var, v_c, s_lst, s_tup, s_test, s_tru, s_notT, s_andT, s_orT, s_and, s_or, s_not, s_if, s_neg, s_meth, s_cut, v_nopart, s_part, s_chain, s_seq, s_rng1, s_rng2, s_enum, s_zipL, s_tupR1, s_tupR2, s_yes, List.getElem?_cons_zero, List.getElem?_cons_succ, Option.some.injEq, exists_eq_left', v_ok, e_add, e_sub, e_int, e_min, e_max, e_maxU, e_lenT, e_tupT, e_lt, e_le, e_gt, e_ge, i_tup, e_cutT, List.set_cons_succ, List.set_cons_zero, List.length_cons, List.length_nil, Nat.reduceAdd, W.int.injEq, W.bl.injEq, W.ref.injEq, W.tup.injEq, W.str.injEq, reduceCtorEq, false_and, and_false, exists_false, or_false, false_or, true_and, and_true, exists_const, exists_eq_left, sz0, sz1, sz2, sz3, sz4, sz5, sz6, sz7, sz8, sz9, sz10, w_j3, e_isL hg]
        exact fin _ (by rw [e2]; unfold ownB; simp [hb])
      · simp only [p2_c, p3_c, pT2_c, pT3_c, t_asg, t_expr, t_ret, t_if, t_nx, t_par, t_par3, g_set, g_tup2, g_tup3, g_put, s_bin, s_def, s_defK, s_call, s_cons, v_nil, s_var, v_c, s_lst, s_tup, s_test, s_tru, s_notT, s_andT, s_orT, s_and, s_or, s_not, s_if, s_neg, s_meth, s_cut, v_nopart, s_part, s_chain, s_seq, s_rng1, s_rng2, s_enum, s_zipL, s_tupR1, s_tupR2, s_yes, List.getElem?_cons_zero, List.getElem?_cons_succ, Option.some.injEq, exists_eq_left', v_ok, e_add, e_sub, e_int, e_min, e_max, e_maxU, e_lenT, e_tupT, e_lt, e_le, e_gt, e_ge, i_tup, e_cutT, List.set_cons_succ, List.set_cons_zero, List.length_cons, List.length_nil, Nat.reduceAdd, W.int.injEq, W.bl.injEq, W.ref.injEq, W.tup.injEq, W.str.injEq, reduceCtorEq, false_and, and_false, exists_false, or_false, false_or, true_and, and_true, exists_const, exists_eq_left, sz0, sz1, sz2, sz3, sz4, sz5, sz6, sz7, sz8, sz9, sz10, w_j2, e_isL hg]
        exact fin _ (by rw [e2]; unfold ownB; simp [hb])
  · rintro E G2 ⟨f2, hg, hi, x5, x6, x7, rfl⟩
    rw [enW_len, List.length_map] at hg
    simp only [p2_c, p3_c, pT2_c, pT3_c, t_asg, t_expr, t_ret, t_if, t_nx, t_par, t_par3, g_set, g_tup2, g_tup3, g_put, s_bin, s_def, s_defK, s_call, s_cons, v_nil, s_var, v_c, s_lst, s_tup, s_test, s_tru, s_notT, s_andT, s_orT, s_and, s_or, s_not, s_if, s_neg, s_meth, s_cut, v_nopart, s_part, s_chain, s_seq, s_rng1, s_rng2, s_enum, s_zipL, s_tupR1, s_tupR2, s_yes, List.getElem?_cons_zero, List.getElem?_cons_succ, Option.some.injEq, exists_eq_left', v_ok, e_add, e_sub, e_int, e_min, e_max, e_maxU, e_lenT, e_tupT, e_lt, e_le, e_gt, e_ge, i_tup, e_cutT, List.set_cons_succ, List.set_cons_zero, List.length_cons, List.length_nil, Nat.reduceAdd, W.int.injEq, W.bl.injEq, W.ref.injEq, W.tup.injEq, W.str.injEq, reduceCtorEq, false_and, and_false, exists_false, or_false, false_or, true_and, and_true, exists_const, exists_eq_left, sz0, sz1, sz2, sz3, sz4, sz5, sz6, sz7, sz8, sz9, sz10]
    exact ⟨Nat.le_refl _, hg, f2⟩
/-! ### ways -/
def wayN (sk : List It) (ln ch : List Int) (p g : Nat) : Int := if p < g then Bg sk ln ch g - En sk ln ch (p + 1) else En sk ln ch (p + 1) - Bg sk ln ch g
abbrev noJ (ch : List Int) (p : Nat) : List Int := ch.filter fun c => decide (c ≠ (p : Int))
def neF (j : Int) : W → Option W
  | .int i => if i ≠ j then some (.int i) else none
  | _ => none
theorem neF_map (j : Int) (ch : List Int) : (ch.map W.int).filterMap (neF j) = (ch.filter fun c => decide (c ≠ j)).map W.int := by
  induction ch with
  | nil => rfl
  | cons c ch ih => by_cases h : c = j <;> simp [List.filterMap_cons, neF, h, ih]
theorem neOp_i {G : Cells} (i j : Int) : neOp G (.int i) (.int j) = .ok (.bl (!decide (i = j))) G := neOp_int i j
/-- the comprehension that leaves a jump out -/
theorem ne_lc {mi : MI} {vs : List Nat} {E : PEnv} {G : Cells} {Q : W → Cells → Prop} {ch : List Int} {k k' : Nat} {j : Int} (hlen : ch.length ≤ 1000)
    (h : (mi E G).sat fun pit G1 => Fr [] G G1 ∧ ItOk [] pit G1 (ch.map W.int)) (hk : ∀ w : W, ((wipeE E vs).set k (some w))[k]? = some (some w)) (hk' : ∀ w : W, ((wipeE E vs).set k (some w))[k']? = some (some (.int j)))
    (hq : ∀ n G', Fr [] G G' → G.length ≤ n → G'[n]? = some (.lst ((ch.filter fun c => decide (c ≠ j)).map W.int)) → Q (.ref n) G') : (mLcI mi (gSet k) (mTest (mBin neOp (mVar k) (mVar k'))) (mVar k) vs E G).sat Q := by
  refine lc_pure (ch.map W.int) (neF j) h (by simp; omega) ?_ fun n G' f hn hg => hq n G' f hn (by rw [hg, neF_map])
  intro i w G' hw _
  obtain ⟨x, hx, rfl⟩ := map_get hw
  simp only [p2_c, p3_c, pT2_c, pT3_c, t_asg, t_expr, t_ret, t_if, t_nx, t_par, t_par3, g_set, g_tup2, g_tup3, g_put, s_bin, s_def, s_defK, s_call, s_cons, v_nil, s_var, v_c, s_lst, s_tup, s_test, s_tru, s_notT, s_andT, s_orT, s_and, s_or, s_not, s_if, s_neg, s_meth, s_cut, v_nopart, s_part, s_chain, s_seq, s_rng1, s_rng2, s_enum, s_zipL, s_tupR1, s_tupR2, s_yes, List.getElem?_cons_zero, List.getElem?_cons_succ, Option.some.injEq, exists_eq_left', v_ok, e_add, e_sub, e_int, e_min, e_max, e_maxU, e_lenT, e_tupT, e_lt, e_le, e_gt, e_ge, i_tup, e_cutT, List.set_cons_succ, List.set_cons_zero, List.length_cons, List.length_nil, Nat.reduceAdd, W.int.injEq, W.bl.injEq, W.ref.injEq, W.tup.injEq, W.str.injEq, reduceCtorEq, false_and, and_false, exists_false, or_false, false_or, true_and, and_true, exists_const, exists_eq_left, sz0, sz1, sz2, sz3, sz4, sz5, sz6, sz7, sz8, sz9, sz10, hk, hk', neOp_i, neF]
  by_cases e : x = j
  · simp [e, Fr.refl]
  · simp [e, Fr.refl]
theorem sk_get {sk : List It} {p : Nat} {it : It} {G : Cells} (h : sk[p]? = some it) : getW G (skW sk) (.int (p : Int)) = .ok it.w G := by
  refine e_getT ?_ (by omega)
  rw [Int.toNat_natCast, List.getElem?_map, h]; rfl
theorem lay_getT {sk : List It} {ln ch : List Int} {G : Cells} {n p : Nat} (h : p < n) : getW G (.tup (layW sk ln ch n)) (.int (p : Int)) = .ok (.tup [.int (Bg sk ln ch p), .int (En sk ln ch (p + 1))]) G :=
  e_getT (by rw [Int.toNat_natCast]; exact layW_get h) (by omega)
theorem lay_getL {sk : List It} {ln ch : List Int} {G : Cells} {n p m : Nat} (hm : G[m]? = some (.lst (layW sk ln ch n))) (h : p < n) : getW G (.ref m) (.int (p : Int)) = .ok (.tup [.int (Bg sk ln ch p), .int (En sk ln ch (p + 1))]) G :=
  e_getL hm (by rw [Int.toNat_natCast]; exact layW_get h) (by omega)
theorem pr0 (a b : W) (G : Cells) : getW G (.tup [a, b]) (.int 0) = .ok a G := e_getT rfl (by decide)
theorem pr1 (a b : W) (G : Cells) : getW G (.tup [a, b]) (.int 1) = .ok b G := e_getT rfl (by decide)
/-- the jump at p goes to g -/
structure Jmp (sk : List It) (p g : Nat) (s l : Int) : Prop where
  at' : sk[p]? = some (.jmp (g : Int) s l)
  goal : sk[g]? = some .lab
  s1 : 1 ≤ s
  sl : s < l
  l9 : l ≤ 999
theorem Skel.jmp {sk : List It} (hs : Skel sk) {p : Nat} {g s l : Int} (h : sk[p]? = some (.jmp g s l)) : ∃ n : Nat, g = (n : Int) ∧ Jmp sk p n s l := by
  obtain ⟨g0, g1, s1, s2, s3⟩ := hs.items _ (List.mem_of_getElem? h)
  obtain ⟨n, rfl⟩ := Int.eq_ofNat_of_zero_le g0
  exact ⟨n, rfl, h, by simpa using g1, s1, s2, s3⟩
theorem Jmp.lt {sk : List It} {p g : Nat} {s l : Int} (h : Jmp sk p g s l) : p < sk.length ∧ g < sk.length := ⟨(List.getElem?_eq_some_iff.mp h.at').1, (List.getElem?_eq_some_iff.mp h.goal).1⟩
theorem Jmp.ne {sk : List It} {p g : Nat} {s l : Int} (h : Jmp sk p g s l) : p ≠ g := by
  rintro rfl
  have := h.at'.symm.trans h.goal
  cases this
theorem law_way_ok {sk : List It} {ln ch : List Int} {p g : Nat} {s l : Int} {G : Cells} (hs : Skel sk) (hj : Jmp sk p g s l) (hl : ln.length = sk.length + 1) (hc : ch.length ≤ 1000) :
    (M_law_way [skW sk, .tup (ln.map W.int), .tup (ch.map W.int), .int (p : Int)] G).sat fun w G' => w = .int (wayN sk ln (noJ ch p) p g) ∧ Fr [] G G' := by
  have hlt := hj.lt
  refine fun_sat rfl ?_
  show (B_law_way [some (skW sk), some (.tup (ln.map W.int)), some (.tup (ch.map W.int)), some (.int (p : Int)), none, none, none] G).sat _ _
  unfold B_law_way
  refine so_seq ?_
  simp only [p2_c, p3_c, pT2_c, pT3_c, t_asg, t_expr, t_ret, t_if, t_nx, t_par, t_par3, g_set, g_tup2, g_tup3, g_put, s_bin, s_def, s_defK, s_call, s_cons, v_nil, s_var, v_c, s_lst, s_tup, s_test, s_tru, s_notT, s_andT, s_orT, s_and, s_or, s_not, s_if, s_neg, s_meth, s_cut, v_nopart, s_part, s_chain, s_seq, s_rng1, s_rng2, s_enum, s_zipL, s_tupR1, s_tupR2, s_yes, List.getElem?_cons_zero, List.getElem?_cons_succ, Option.some.injEq, exists_eq_left', v_ok, e_add, e_sub, e_int, e_min, e_max, e_maxU, e_lenT, e_tupT, e_lt, e_le, e_gt, e_ge, i_tup, e_cutT, List.set_cons_succ, List.set_cons_zero, List.length_cons, List.length_nil, Nat.reduceAdd, W.int.injEq, W.bl.injEq, W.ref.injEq, W.tup.injEq, W.str.injEq, reduceCtorEq, false_and, and_false, exists_false, or_false, false_or, true_and, and_true, exists_const, exists_eq_left, sz0, sz1, sz2, sz3, sz4, sz5, sz6, sz7, sz8, sz9, sz10]
  refine ne_lc (ch := ch) (j := (p : Int)) hc ?_ (fun _ => rfl) (fun _ => rfl) ?_
  · simp only [s_bin, s_def, s_defK, s_call, s_cons, v_nil, s_var, v_c, s_lst, s_tup, s_test, s_tru, s_notT, s_andT, s_orT, s_and, s_or, s_not, s_if, s_neg, s_meth, s_cut, v_nopart, s_part, s_chain, s_seq, s_rng1, s_rng2, s_enum, s_zipL, s_tupR1, s_tupR2, s_yes, List.getElem?_cons_zero, List.getElem?_cons_succ, Option.some.injEq, exists_eq_left', v_ok, e_add, e_sub, e_int, e_min, e_max, e_maxU, e_lenT, e_tupT, e_lt, e_le, e_gt, e_ge, i_tup, e_cutT, List.set_cons_succ, List.set_cons_zero, List.length_cons, List.length_nil, Nat.reduceAdd, W.int.injEq, W.bl.injEq, W.ref.injEq, W.tup.injEq, W.str.injEq, reduceCtorEq, false_and, and_false, exists_false, or_false, false_or, true_and, and_true, exists_const, exists_eq_left, sz0, sz1, sz2, sz3, sz4, sz5, sz6, sz7, sz8, sz9, sz10]
    exact ⟨Fr.refl, it_tup _ _ _⟩
  intro n G1 f1 hn hg
  refine (laying_ok (ch := noJ ch p) hs hl (.lst hg)).mono fun w G2 q => ?_
  obtain ⟨m, rfl, hm, hgm, f2⟩ := q
  refine so_seq ?_
  simp only [p2_c, p3_c, pT2_c, pT3_c, t_asg, t_expr, t_ret, t_if, t_nx, t_par, t_par3, g_set, g_tup2, g_tup3, g_put, s_bin, s_def, s_defK, s_call, s_cons, v_nil, s_var, v_c, s_lst, s_tup, s_test, s_tru, s_notT, s_andT, s_orT, s_and, s_or, s_not, s_if, s_neg, s_meth, s_cut, v_nopart, s_part, s_chain, s_seq, s_rng1, s_rng2, s_enum, s_zipL, s_tupR1, s_tupR2, s_yes, List.getElem?_cons_zero, List.getElem?_cons_succ, Option.some.injEq, exists_eq_left', v_ok, e_add, e_sub, e_int, e_min, e_max, e_maxU, e_lenT, e_tupT, e_lt, e_le, e_gt, e_ge, i_tup, e_cutT, List.set_cons_succ, List.set_cons_zero, List.length_cons, List.length_nil, Nat.reduceAdd, W.int.injEq, W.bl.injEq, W.ref.injEq, W.tup.injEq, W.str.injEq, reduceCtorEq, false_and, and_false, exists_false, or_false, false_or, true_and, and_true, exists_const, exists_eq_left, sz0, sz1, sz2, sz3, sz4, sz5, sz6, sz7, sz8, sz9, sz10, sk_get hj.at', w_j1]
  simp only [p2_c, p3_c, pT2_c, pT3_c, t_asg, t_expr, t_ret, t_if, t_nx, t_par, t_par3, g_set, g_tup2, g_tup3, g_put, s_bin, s_def, s_defK, s_call, s_cons, v_nil, s_var, v_c, s_lst, s_tup, s_test, s_tru, s_notT, s_andT, s_orT, s_and, s_or, s_not, s_if, s_neg, s_meth, s_cut, v_nopart, s_part, s_chain, s_seq, s_rng1, s_rng2, s_enum, s_zipL, s_tupR1, s_tupR2, s_yes, List.getElem?_cons_zero, List.getElem?_cons_succ, Option.some.injEq, exists_eq_left', v_ok, e_add, e_sub, e_int, e_min, e_max, e_maxU, e_lenT, e_tupT, e_lt, e_le, e_gt, e_ge, i_tup, e_cutT, List.set_cons_succ, List.set_cons_zero, List.length_cons, List.length_nil, Nat.reduceAdd, W.int.injEq, W.bl.injEq, W.ref.injEq, W.tup.injEq, W.str.injEq, reduceCtorEq, false_and, and_false, exists_false, or_false, false_or, true_and, and_true, exists_const, exists_eq_left, sz0, sz1, sz2, sz3, sz4, sz5, sz6, sz7, sz8, sz9, sz10, decide_eq_true_eq, lay_getL hgm hlt.1, lay_getL hgm hlt.2, pr0, pr1]
  refine hif (fun h => ?_) fun h => ?_
  · unfold wayN; rw [if_pos (by omega)]; exact ⟨rfl, f1.trans f2⟩
  · unfold wayN; rw [if_neg (by omega)]; exact ⟨rfl, f1.trans f2⟩
end NS
/- part T6v -/
set_option maxHeartbeats 1000000
namespace NS
open PySem PySem.Spec PyProof.Rows L2 PL

theorem way_ok {sk : List It} {ln ch : List Int} {p g : Nat} {s l : Int} {G : Cells} (hj : Jmp sk p g s l) :
    (M_way [skW sk, .tup (layW sk ln ch sk.length), .int (p : Int)] G).sat fun w G' => w = .int (wayN sk ln ch p g) ∧ G' = G := by
  have hl := hj.lt
  refine fun_sat rfl ?_
  show (B_way [some (skW sk), some (.tup (layW sk ln ch sk.length)), some (.int (p : Int)), none] G).sat _ _
  unfold B_way
  refine so_seq ?_
  simp only [p2_c, p3_c, pT2_c, pT3_c, t_asg, t_expr, t_ret, t_if, t_nx, t_par, t_par3, g_set, g_tup2, g_tup3, g_put, s_bin, s_def, s_defK, s_call, s_cons, v_nil, s_var, v_c, s_lst, s_tup, s_test, s_tru, s_notT, s_andT, s_orT, s_and, s_or, s_not, s_if, s_neg, s_meth, s_cut, v_nopart, s_part, s_chain, s_seq, s_rng1, s_rng2, s_enum, s_zipL, s_tupR1, s_tupR2, s_yes, List.getElem?_cons_zero, List.getElem?_cons_succ, Option.some.injEq, exists_eq_left', v_ok, e_add, e_sub, e_int, e_min, e_max, e_maxU, e_lenT, e_tupT, e_lt, e_le, e_gt, e_ge, i_tup, e_cutT, List.set_cons_succ, List.set_cons_zero, List.length_cons, List.length_nil, Nat.reduceAdd, W.int.injEq, W.bl.injEq, W.ref.injEq, W.tup.injEq, W.str.injEq, reduceCtorEq, false_and, and_false, exists_false, or_false, false_or, true_and, and_true, exists_const, exists_eq_left, sz0, sz1, sz2, sz3, sz4, sz5, sz6, sz7, sz8, sz9, sz10, sk_get hj.at', w_j1]
  refine so_seq ?_
  simp only [p2_c, p3_c, pT2_c, pT3_c, t_asg, t_expr, t_ret, t_if, t_nx, t_par, t_par3, g_set, g_tup2, g_tup3, g_put, s_bin, s_def, s_defK, s_call, s_cons, v_nil, s_var, v_c, s_lst, s_tup, s_test, s_tru, s_notT, s_andT, s_orT, s_and, s_or, s_not, s_if, s_neg, s_meth, s_cut, v_nopart, s_part, s_chain, s_seq, s_rng1, s_rng2, s_enum, s_zipL, s_tupR1, s_tupR2, s_yes, List.getElem?_cons_zero, List.getElem?_cons_succ, Option.some.injEq, exists_eq_left', v_ok, e_add, e_sub, e_int, e_min, e_max, e_maxU, e_lenT, e_tupT, e_lt, e_le, e_gt, e_ge, i_tup, e_cutT, List.set_cons_succ, List.set_cons_zero, List.length_cons, List.length_nil, Nat.reduceAdd, W.int.injEq, W.bl.injEq, W.ref.injEq, W.tup.injEq, W.str.injEq, reduceCtorEq, false_and, and_false, exists_false, or_false, false_or, true_and, and_true, exists_const, exists_eq_left, sz0, sz1, sz2, sz3, sz4, sz5, sz6, sz7, sz8, sz9, sz10, decide_eq_true_eq, lay_getT hl.1, lay_getT hl.2, pr0, pr1]
  refine hif (fun h => ?_) fun h => ?_
  · unfold wayN; rw [if_pos (by omega)]
  · unfold wayN; rw [if_neg (by omega)]
end NS
/- part T7 -/
set_option maxHeartbeats 1000000
namespace NS
open PySem PySem.Spec PyProof.Rows L2 PL

/-! ### bounds -/
theorem own_bd {it : It} {sk : List It} {x : Int} {lg : Bool} (h : itOk sk it) : 0 ≤ ownB it x lg ∧ ownB it x lg ≤ 999 := by
  cases it with
  | lab => show (0 : Int) ≤ 0 ∧ (0 : Int) ≤ 999; decide
  | fil a =>
    have ha := fill_pos h
    show 0 ≤ -x % a ∧ -x % a ≤ 999
    have h1 := Int.emod_nonneg (-x) (show a ≠ 0 by omega)
    have h2 := Int.emod_lt_of_pos (-x) ha.1
    omega
  | jmp g s l =>
    obtain ⟨_, _, h1, h2, h3⟩ := h
    show 0 ≤ (if lg = true then l else s) ∧ (if lg = true then l else s) ≤ 999
    split <;> omega
theorem atL_bd {ln : List Int} {B : Int} (hB : 0 ≤ B) (h : ∀ x ∈ ln, 0 ≤ x ∧ x ≤ B) (p : Nat) : 0 ≤ atL ln p ∧ atL ln p ≤ B := by
  unfold atL
  cases hp : ln[p]? with
  | none => exact ⟨Int.le_refl _, hB⟩
  | some x => exact h x (List.mem_of_getElem? hp)
theorem En_bd {sk : List It} {ln ch : List Int} {B : Int} (hB : 0 ≤ B) (hs : Skel sk) (h : ∀ x ∈ ln, 0 ≤ x ∧ x ≤ B) : ∀ p, 0 ≤ En sk ln ch p ∧ En sk ln ch p ≤ p * (B + 999)
  | 0 => ⟨Int.le_refl _, by simp [En]⟩
  | p + 1 => by
    have ih := En_bd (ch := ch) hB hs h p
    have e : ((p + 1 : Nat) : Int) * (B + 999) = p * (B + 999) + (B + 999) := by rw [Int.natCast_add, Int.add_mul]; simp
    rw [e]
    cases hp : sk[p]? with
    | none => rw [En]; simp only [hp]; omega
    | some it =>
      rw [En_succ hp]
      have h1 := own_bd (x := Bg sk ln ch p) (lg := isLong ch p) (hs.items it (List.mem_of_getElem? hp))
      have h2 := atL_bd hB h p
      have h3 : Bg sk ln ch p = En sk ln ch p + atL ln p := rfl
      omega
theorem wayN_eq {sk : List It} {ln ch : List Int} {p g : Nat} {s l : Int} (hj : Jmp sk p g s l) : wayN sk ln ch p g = En sk ln ch (max p g + 1) - En sk ln ch (min p g + 1) := by
  have e := En_succ (ln := ln) (ch := ch) hj.goal
  have e2 : ownB .lab (Bg sk ln ch g) (isLong ch g) = 0 := rfl
  unfold wayN
  split
  · rw [Nat.max_eq_right (by omega), Nat.min_eq_left (by omega)]; omega
  · rw [Nat.max_eq_left (by omega), Nat.min_eq_right (by omega)]; omega
theorem wayN_abs {sk : List It} {ln ch : List Int} {p g : Nat} {s l : Int} (hs : Skel sk) (hj : Jmp sk p g s l) (h : ∀ x ∈ ln, 0 ≤ x ∧ x ≤ 1000000000000) : (wayN sk ln ch p g).natAbs < 10 ^ 40 := by
  rw [wayN_eq hj]
  have h1 := En_bd (ch := ch) (show (0 : Int) ≤ 1000000000000 by decide) hs h (max p g + 1)
  have h2 := En_bd (ch := ch) (show (0 : Int) ≤ 1000000000000 by decide) hs h (min p g + 1)
  have h3 := hj.lt
  have h4 := hs.len2
  omega
theorem eq_nilI {G : Cells} {n m : Nat} {ds : List Int} (h : G[n]? = some (.lst (ds.map W.int))) (h' : G[m]? = some (.lst [])) : eqOp G (.ref n) (.ref m) = .ok (.bl ds.isEmpty) G := by
  have e1 := dat_ints h
  have e2 := dat_ints (ds := []) h'
  have q : eqOp G (.ref n) (.ref m) = (match eqW G (.ref n) (.ref m) with | some b => .ok (.bl b) G | none => .no) := rfl
  have : SeqAt.shaped (.list []) = true := shaped_ints []
  rw [q]
  unfold eqW
  rw [e1, e2]
  simp only [shaped_ints, List.map_nil]
  rw [this]
  cases ds <;> simp [PyData.eqv, PyData.eqvAll]
/-! ### fills -/
def fillA : It → Option Int
  | .fil a => some a
  | _ => none
abbrev fills (l : List It) : List Int := l.filterMap fillA
def filF : W → Option W
  | .tup [k, v] => if isWd "fill" k = true then some v else none
  | _ => none
theorem filF_w (it : It) : filF it.w = (fillA it).map W.int := by
  cases it with
  | lab => rfl
  | fil a =>
    have : isWd "fill" (.str "fill") = true := isWd_t _
    show (if isWd "fill" (.str "fill") = true then some (W.int a) else none) = _
    rw [this]; rfl
  | jmp g s l => rfl
theorem filF_map (l : List It) : (l.map It.w).filterMap filF = (fills l).map W.int := by
  induction l with
  | nil => rfl
  | cons x xs ih =>
    rw [List.map_cons, List.filterMap_cons, filF_w, ih]
    cases x <;> rfl
theorem max_lst {G : Cells} {n : Nat} {i : Int} {is : List Int} (h : G[n]? = some (.lst ((i :: is).map W.int))) : maxU G [.ref n] = .ok (.int (is.foldl max i)) G := by
  have hr := rdL_lst h
  have hi := intsW_map (i :: is)
  unfold maxU maxW
  simp only [hr, hi]
theorem min_cast (p g : Nat) : min (p : Int) (g : Int) = ((min p g : Nat) : Int) := by omega
theorem max_cast (p g : Nat) : max (p : Int) (g : Int) = ((max p g : Nat) : Int) := by omega
/-- the comprehension that tells the fills of some items -/
theorem fil_lc {mi : MI} {vs : List Nat} {E : PEnv} {G : Cells} {Q : W → Cells → Prop} {l : List It} {k : Nat} (hlen : l.length ≤ 1000)
    (h : (mi E G).sat fun pit G1 => Fr [] G G1 ∧ ItOk [] pit G1 (l.map It.w)) (hk : ∀ w : W, ((wipeE E vs).set k (some w))[k]? = some (some w))
    (hq : ∀ n G', Fr [] G G' → G.length ≤ n → G'[n]? = some (.lst ((fills l).map W.int)) → Q (.ref n) G') : (mLcI mi (gSet k) (mTest (mBin eqOp (mBin getW (mVar k) (mC (.int 0))) (mC (.str "fill")))) (mBin getW (mVar k) (mC (.int 1))) vs E G).sat Q := by
  refine lc_pure (l.map It.w) filF h (by simp; omega) ?_ fun n G' f hn hg => hq n G' f hn (by rw [hg, filF_map])
  intro i w G' hw _
  obtain ⟨it, hit, rfl⟩ := map_get hw
  simp only [p2_c, p3_c, pT2_c, pT3_c, t_asg, t_expr, t_ret, t_if, t_nx, t_par, t_par3, g_set, g_tup2, g_tup3, g_put, s_bin, s_def, s_defK, s_call, s_cons, v_nil, s_var, v_c, s_lst, s_tup, s_test, s_tru, s_notT, s_andT, s_orT, s_and, s_or, s_not, s_if, s_neg, s_meth, s_cut, v_nopart, s_part, s_chain, s_seq, s_rng1, s_rng2, s_enum, s_zipL, s_tupR1, s_tupR2, s_yes, List.getElem?_cons_zero, List.getElem?_cons_succ, Option.some.injEq, exists_eq_left', v_ok, e_add, e_sub, e_int, e_min, e_max, e_maxU, e_lenT, e_tupT, e_lt, e_le, e_gt, e_ge, i_tup, e_cutT, List.set_cons_succ, List.set_cons_zero, List.length_cons, List.length_nil, Nat.reduceAdd, W.int.injEq, W.bl.injEq, W.ref.injEq, W.tup.injEq, W.str.injEq, reduceCtorEq, false_and, and_false, exists_false, or_false, false_or, true_and, and_true, exists_const, exists_eq_left, sz0, sz1, sz2, sz3, sz4, sz5, sz6, sz7, sz8, sz9, sz10, hk, w_0, kind_F, filF_w]
  cases it with
  | lab => simp [It.isF, fillA, Fr.refl]
  | fil a => simp [It.isF, fillA, Fr.refl, w_f1]
  | jmp g s l => simp [It.isF, fillA, Fr.refl]
/-! ### one byte more -/
theorem up_step {a m x d : Int} (ha : fillOk a) (hm : m = 1 ∨ fillOk m) (h0 : 0 ≤ d) (h1 : d ≤ m) : 0 ≤ (x + d + -(x + d) % a) - (x + -x % a) ∧ (x + d + -(x + d) % a) - (x + -x % a) ≤ max m a := by
  unfold fillOk at ha hm
  rcases ha with rfl | rfl | rfl | rfl | rfl | rfl <;> rcases hm with rfl | rfl | rfl | rfl | rfl | rfl | rfl <;> omega
abbrev dE (sk : List It) (ln ln' ch : List Int) (p : Nat) : Int := En sk ln' ch p - En sk ln ch p
def mid (sk : List It) (a b : Nat) : List It := (sk.drop a).take (b - a)
theorem mid_succ {sk : List It} {a b : Nat} {it : It} (h : sk[b]? = some it) (hab : a ≤ b) : mid sk a (b + 1) = mid sk a b ++ [it] := by
  unfold mid
  rw [show b + 1 - a = (b - a) + 1 from by omega]
  refine take_one ?_
  rw [List.getElem?_drop, show a + (b - a) = b from by omega]
  exact h
theorem fills_app (l l' : List It) : fills (l ++ l') = fills l ++ fills l' := List.filterMap_append ..
structure More (ln ln' : List Int) (spot : Nat) : Prop where
  at' : ∀ p, atL ln' p = atL ln p + if p = spot then 1 else 0
theorem dE_before {sk : List It} {ln ln' ch : List Int} {spot : Nat} (h : More ln ln' spot) : ∀ p, p ≤ spot → dE sk ln ln' ch p = 0
  | 0, _ => by simp [dE, En]
  | p + 1, hp => by
    have ih := dE_before (sk := sk) (ch := ch) h p (by omega)
    have e := h.at' p
    rw [if_neg (by omega)] at e
    unfold dE at *
    cases hq : sk[p]? with
    | none => rw [En, En]; simp only [hq]; exact ih
    | some it =>
      rw [En_succ hq, En_succ hq]
      have : Bg sk ln' ch p = Bg sk ln ch p := by unfold Bg; omega
      rw [this]; omega
theorem dE_step {sk : List It} {ln ln' ch : List Int} {spot p : Nat} {it : It} (h : More ln ln' spot) (hq : sk[p]? = some it) (hn : fillA it = none) : dE sk ln ln' ch (p + 1) = dE sk ln ln' ch p + if p = spot then 1 else 0 := by
  have e := h.at' p
  unfold dE
  rw [En_succ hq, En_succ hq]
  have hb : Bg sk ln' ch p = Bg sk ln ch p + (En sk ln' ch p - En sk ln ch p) + if p = spot then 1 else 0 := by unfold Bg; omega
  have : ownB it (Bg sk ln' ch p) (isLong ch p) = ownB it (Bg sk ln ch p) (isLong ch p) := by cases it <;> first | rfl | cases hn
  have hb2 : Bg sk ln ch p = En sk ln ch p + atL ln p := rfl
  omega
theorem dE_fill {sk : List It} {ln ln' ch : List Int} {spot p : Nat} {a m : Int} (h : More ln ln' spot) (hq : sk[p]? = some (.fil a)) (ha : fillOk a) (hm : m = 1 ∨ fillOk m) (h0 : 0 ≤ dE sk ln ln' ch p + if p = spot then 1 else 0) (h1 : (dE sk ln ln' ch p + if p = spot then 1 else 0) ≤ m) :
    0 ≤ dE sk ln ln' ch (p + 1) ∧ dE sk ln ln' ch (p + 1) ≤ max m a := by
  have e := h.at' p
  have q := up_step (x := Bg sk ln ch p) ha hm h0 h1
  unfold dE at *
  rw [En_succ hq, En_succ hq]
  have hb : Bg sk ln' ch p = Bg sk ln ch p + ((En sk ln' ch p - En sk ln ch p) + if p = spot then 1 else 0) := by unfold Bg; omega
  rw [hb]
  exact q
theorem dE_after {sk : List It} {ln ln' ch : List Int} {spot : Nat} (hs : Skel sk) (h : More ln ln' spot) : ∀ n, spot + n < sk.length →
    0 ≤ dE sk ln ln' ch (spot + n + 1) ∧ dE sk ln ln' ch (spot + n + 1) ≤ (fills (mid sk spot (spot + n + 1))).foldl max 1 ∧ ((fills (mid sk spot (spot + n + 1))).foldl max 1 = 1 ∨ fillOk ((fills (mid sk spot (spot + n + 1))).foldl max 1)) ∧ (fills (mid sk spot (spot + n + 1)) = [] → dE sk ln ln' ch (spot + n + 1) = 1) := by
  have gen : ∀ (p : Nat) (l : List It), spot ≤ p → p < sk.length → l = mid sk spot p → (0 ≤ dE sk ln ln' ch p + if p = spot then 1 else 0) → (dE sk ln ln' ch p + if p = spot then 1 else 0) ≤ (fills l).foldl max 1 → ((fills l).foldl max 1 = 1 ∨ fillOk ((fills l).foldl max 1)) → (fills l = [] → (dE sk ln ln' ch p + if p = spot then 1 else 0) = 1) →
      0 ≤ dE sk ln ln' ch (p + 1) ∧ dE sk ln ln' ch (p + 1) ≤ (fills (mid sk spot (p + 1))).foldl max 1 ∧ ((fills (mid sk spot (p + 1))).foldl max 1 = 1 ∨ fillOk ((fills (mid sk spot (p + 1))).foldl max 1)) ∧ (fills (mid sk spot (p + 1)) = [] → dE sk ln ln' ch (p + 1) = 1) := by
    intro p l hsp hp hl h0 h1 h2 h3
    have hq : sk[p]? = some sk[p] := List.getElem?_eq_getElem hp
    rw [mid_succ hq hsp, fills_app, ← hl]
    generalize sk[p] = it at *
    have iok := hs.items it (List.mem_of_getElem? hq)
    cases hf : fillA it with
    | none =>
      have : fills [it] = [] := by simp [fills, hf]
      rw [this, List.append_nil, dE_step h hq hf]
      exact ⟨h0, h1, h2, h3⟩
    | some a =>
      obtain rfl : it = .fil a := by cases it <;> cases hf; rfl
      have : fills [It.fil a] = [a] := rfl
      rw [this, List.foldl_append]
      have q := dE_fill h hq iok h2 h0 h1
      refine ⟨q.1, q.2, ?_, fun z => by simp at z⟩
      show max _ a = 1 ∨ fillOk (max _ a)
      have iok' : fillOk a := iok
      generalize (fills l).foldl max 1 = m at *
      unfold fillOk at *
      omega
  intro n
  induction n with
  | zero =>
    intro hn
    have hb := dE_before (sk := sk) (ch := ch) h spot (Nat.le_refl _)
    refine gen spot [] (Nat.le_refl _) hn (by unfold mid; simp) ?_ ?_ (.inl rfl) ?_
    · rw [hb]; simp
    · rw [hb]; simp [fills]
    · rw [hb]; simp
  | succ n ih =>
    intro hn
    obtain ⟨a1, a2, a3, a4⟩ := ih (by omega)
    exact gen (spot + n + 1) _ (by omega) hn rfl (by rw [if_neg (by omega)]; omega) (by rw [if_neg (by omega)]; omega) a3 (fun z => by rw [if_neg (by omega), a4 z]; rfl)
theorem foldl_one {i : Int} {is : List Int} (h : 1 ≤ i) : (i :: is).foldl max 1 = is.foldl max i := by
  show is.foldl max (max 1 i) = _
  rw [Int.max_eq_right h]
end NS
/- part T8 -/
set_option maxHeartbeats 1000000
namespace NS
open PySem PySem.Spec PyProof.Rows L2 PL

/-! ### what is shown of skeletons and of ints -/
theorem da_ints (G : Cells) (k : Nat) (xs : List Int) : dat G (k + 2) (.tup (xs.map W.int)) = some (.tuple (xs.map PyData.int)) := da_tup (mo_map fun _ _ => rfl)
theorem da_intsL {G : Cells} {n : Nat} (k : Nat) {xs : List Int} (h : G[n]? = some (.lst (xs.map W.int))) : dat G (k + 2) (.ref n) = some (.list (xs.map PyData.int)) := da_lst h (mo_map fun _ _ => rfl)
theorem sh_ints {xs : List Int} {n : Nat} (hn : xs.length ≤ n) (h : ∀ x ∈ xs, x.natAbs < 10 ^ 40) : Sh (n * 46 + 44) (.tuple (xs.map PyData.int)) :=
  sh_tup (b := 44) (by simpa using hn) fun d hd => by obtain ⟨x, hx, rfl⟩ := List.mem_map.mp hd; exact sh_int (h x hx)
theorem sh_intsL {xs : List Int} {n : Nat} (hn : xs.length ≤ n) (h : ∀ x ∈ xs, x.natAbs < 10 ^ 40) : Sh (n * 46 + 44) (.list (xs.map PyData.int)) :=
  sh_lst (b := 44) (by simpa using hn) fun d hd => by obtain ⟨x, hx, rfl⟩ := List.mem_map.mp hd; exact sh_int (h x hx)
def It.d : It → PyData
  | .lab => .tuple [.str "label"]
  | .fil a => .tuple [.str "fill", .int a]
  | .jmp g s l => .tuple [.str "jump", .int g, .int s, .int l]
abbrev skD (sk : List It) : PyData := .tuple (sk.map It.d)
theorem it_dat (G : Cells) (k : Nat) (it : It) : dat G (k + 2) it.w = some it.d := by cases it <;> rfl
theorem sk_dat (G : Cells) (k : Nat) (sk : List It) : dat G (k + 3) (skW sk) = some (skD sk) := da_tup (mo_map fun it _ => it_dat G k it)
theorem sh_lab : Sh 44 (.str "label") := sh_str (by decide +kernel)
theorem sh_fil : Sh 44 (.str "fill") := sh_str (by decide +kernel)
theorem sh_jmp : Sh 44 (.str "jump") := sh_str (by decide +kernel)
theorem sk_sh {sk : List It} (hs : Skel sk) : Sh 10000 (skD sk) := by
  have h24 := hs.len2
  refine (sh_tup (b := 300) (n := 24) (by simpa using h24) fun d hd => ?_).wide (by decide)
  obtain ⟨it, hit, rfl⟩ := List.mem_map.mp hd
  have ok := hs.items it hit
  cases it with
  | lab => exact (sh_tup (b := 44) (n := 1) (by simp) (by simp [sh_lab])).wide (by decide)
  | fil a =>
    have : a.natAbs < 10 ^ 40 := by have ok : fillOk a := ok; unfold fillOk at ok; omega
    exact (sh_tup (b := 44) (n := 2) (by simp) (by simp [sh_fil, sh_int this])).wide (by decide)
  | jmp g s l =>
    obtain ⟨g0, g1, s1, s2, s3⟩ := ok
    have gl := (List.getElem?_eq_some_iff.mp g1).1
    have a1 : g.natAbs < 10 ^ 40 := by omega
    have a2 : s.natAbs < 10 ^ 40 := by omega
    have a3 : l.natAbs < 10 ^ 40 := by omega
    exact (sh_tup (b := 44) (n := 4) (by simp) (by simp [sh_jmp, sh_int a1, sh_int a2, sh_int a3])).wide (by decide)
theorem sk_repr {sk : List It} (hs : Skel sk) (G : Cells) : reprW G [skW sk] = .ok (.str (skD sk).shown) G := repr_ok (sk_dat G 57 sk) (sk_sh hs) (by decide)
end NS
/- part T9 -/
set_option maxHeartbeats 1000000
namespace NS
open PySem PySem.Spec PyProof.Rows L2 PL

/-! ### which jumps are stuck -/
def goalOf (sk : List It) (p : Nat) : Nat := match sk[p]? with
  | some (.jmp g _ _) => g.toNat
  | _ => 0
def Wy (sk : List It) (ln ch : List Int) (j : Int) : Int := wayN sk ln ch j.toNat (goalOf sk j.toNat)
theorem Jmp.goalOf {sk : List It} {p g : Nat} {s l : Int} (h : Jmp sk p g s l) : NS.goalOf sk p = g := by
  unfold NS.goalOf; rw [h.at']; simp
theorem Wy_eq {sk : List It} {ln ch : List Int} {p g : Nat} {s l : Int} (h : Jmp sk p g s l) : Wy sk ln ch (p : Int) = wayN sk ln ch p g := by
  unfold Wy; rw [Int.toNat_natCast, h.goalOf]
theorem isLong_congr {ch ch' : List Int} (h : ∀ i, i ∈ ch ↔ i ∈ ch') (p : Nat) : isLong ch p = isLong ch' p := by unfold isLong; exact decide_eq_decide.mpr (h _)
theorem En_congr {sk : List It} {ln ch ch' : List Int} (h : ∀ i, i ∈ ch ↔ i ∈ ch') : ∀ p, En sk ln ch p = En sk ln ch' p
  | 0 => rfl
  | p + 1 => by
    have ih := En_congr (sk := sk) (ln := ln) h p
    cases hp : sk[p]? with
    | none => rw [En, En]; simp only [hp]; exact ih
    | some it => rw [En_succ hp, En_succ hp, isLong_congr h p]; unfold Bg; rw [ih]
theorem wayN_congr {sk : List It} {ln ch ch' : List Int} (h : ∀ i, i ∈ ch ↔ i ∈ ch') (p g : Nat) : wayN sk ln ch p g = wayN sk ln ch' p g := by
  unfold wayN Bg; rw [En_congr h, En_congr h]
theorem noJ_same {ch : List Int} {p : Nat} (h : (p : Int) ∉ ch) : ∀ i, i ∈ noJ ch p ↔ i ∈ ch := fun i => by
  simp only [List.mem_filter, decide_eq_true_eq]
  exact ⟨fun z => z.1, fun z => ⟨z, fun e => h (e ▸ z)⟩⟩
def stF (sk : List It) (ln ch : List Int) (p : Int × Int) : Option Int := if p.1 ∈ ch then none else if p.2 < Wy sk ln ch p.1 then some p.1 else none
def stuckN (sk : List It) (ln rs ch : List Int) : List Int := ((jumpsN sk).zip rs).filterMap (stF sk ln ch)
theorem notin_ch {G : Cells} {ch : List Int} {w : W} (h : ChW G ch w) (i : Int) : inW true G (.int i) w = .ok (.bl (!decide (i ∈ ch))) G := by
  have q : inW true G (.int i) w = (match dat G 60 (.int i), dat G 60 w with
    | some d, some e => (match itemsD e with
      | some xs => if SeqAt.shaped d && SeqAt.shaped e then .ok (.bl (if true = true then !xs.any fun z => PyData.eqv z d else xs.any fun z => PyData.eqv z d)) G else .no
      | none => .no)
    | _, _ => .no) := rfl
  have d0 : dat G 60 (.int i) = some (.int i) := rfl
  have s0 : SeqAt.shaped (.int i) = true := rfl
  rw [q, d0]
  cases h with
  | tup => rw [dat_tints]; simp only [itemsD, s0, shaped_tints, any_ints, Bool.and_self, if_true, Bool.false_eq_true, if_false]
  | lst h => rw [dat_ints h]; simp only [itemsD, s0, shaped_ints, any_ints, Bool.and_self, if_true, Bool.false_eq_true, if_false]
theorem jumps_of_ok {sk : List It} {G : Cells} (hs : sk.length ≤ 24) : (Mjumps_of [skW sk] G).sat fun w G' => w = .tup ((jumpsN sk).map W.int) ∧ Fr [] G G' := by
  refine fun_sat rfl ?_
  show (Bjumps_of [some (skW sk), none, none] G).sat _ _
  unfold Bjumps_of
  simp only [p2_c, p3_c, pT2_c, pT3_c, t_asg, t_expr, t_ret, t_if, t_nx, t_par, t_par3, g_set, g_tup2, g_tup3, g_put, s_bin, s_def, s_defK, s_call, s_cons, v_nil, s_var, v_c, s_lst, s_tup, s_test, s_tru, s_notT, s_andT, s_orT, s_and, s_or, s_not, s_if, s_neg, s_meth, s_cut, v_nopart, s_part, s_chain, s_seq, s_rng1, s_rng2, s_enum, s_zipL, s_tupR1, s_tupR2, s_yes, List.getElem?_cons_zero, List.getElem?_cons_succ, Option.some.injEq, exists_eq_left', v_ok, e_add, e_sub, e_int, e_min, e_max, e_maxU, e_lenT, e_tupT, e_lt, e_le, e_gt, e_ge, i_tup, e_cutT, List.set_cons_succ, List.set_cons_zero, List.length_cons, List.length_nil, Nat.reduceAdd, W.int.injEq, W.bl.injEq, W.ref.injEq, W.tup.injEq, W.str.injEq, reduceCtorEq, false_and, and_false, exists_false, or_false, false_or, true_and, and_true, exists_const, exists_eq_left, sz0, sz1, sz2, sz3, sz4, sz5, sz6, sz7, sz8, sz9, sz10]
  refine lc_pure (enW (sk.map It.w)) (fF isJW) ?_ (by rw [enW_len]; simp; omega) ?_ ?_
  · simp only [s_bin, s_def, s_defK, s_call, s_cons, v_nil, s_var, v_c, s_lst, s_tup, s_test, s_tru, s_notT, s_andT, s_orT, s_and, s_or, s_not, s_if, s_neg, s_meth, s_cut, v_nopart, s_part, s_chain, s_seq, s_rng1, s_rng2, s_enum, s_zipL, s_tupR1, s_tupR2, s_yes, List.getElem?_cons_zero, List.getElem?_cons_succ, Option.some.injEq, exists_eq_left', v_ok, e_add, e_sub, e_int, e_min, e_max, e_maxU, e_lenT, e_tupT, e_lt, e_le, e_gt, e_ge, i_tup, e_cutT, List.set_cons_succ, List.set_cons_zero, List.length_cons, List.length_nil, Nat.reduceAdd, W.int.injEq, W.bl.injEq, W.ref.injEq, W.tup.injEq, W.str.injEq, reduceCtorEq, false_and, and_false, exists_false, or_false, false_or, true_and, and_true, exists_const, exists_eq_left, sz0, sz1, sz2, sz3, sz4, sz5, sz6, sz7, sz8, sz9, sz10]
    exact ⟨Fr.refl, it_enT _ _ _⟩
  · intro i w G' hw _
    obtain ⟨x, hx, rfl⟩ := enW_inv hw
    obtain ⟨it, hit, rfl⟩ := map_get hx
    simp only [wipeE, p2_c, p3_c, pT2_c, pT3_c, t_asg, t_expr, t_ret, t_if, t_nx, t_par, t_par3, g_set, g_tup2, g_tup3, g_put, s_bin, s_def, s_defK, s_call, s_cons, v_nil, s_var, v_c, s_lst, s_tup, s_test, s_tru, s_notT, s_andT, s_orT, s_and, s_or, s_not, s_if, s_neg, s_meth, s_cut, v_nopart, s_part, s_chain, s_seq, s_rng1, s_rng2, s_enum, s_zipL, s_tupR1, s_tupR2, s_yes, List.getElem?_cons_zero, List.getElem?_cons_succ, Option.some.injEq, exists_eq_left', v_ok, e_add, e_sub, e_int, e_min, e_max, e_maxU, e_lenT, e_tupT, e_lt, e_le, e_gt, e_ge, i_tup, e_cutT, List.set_cons_succ, List.set_cons_zero, List.length_cons, List.length_nil, Nat.reduceAdd, W.int.injEq, W.bl.injEq, W.ref.injEq, W.tup.injEq, W.str.injEq, reduceCtorEq, false_and, and_false, exists_false, or_false, false_or, true_and, and_true, exists_const, exists_eq_left, sz0, sz1, sz2, sz3, sz4, sz5, sz6, sz7, sz8, sz9, sz10, w_0, kind_J, fF, isJW_w]
    exact hif (fun h => by simp [h, Fr.refl]) fun h => by simp [h, Fr.refl]
  · intro n G' f hn hg
    unfold enW at hg
    rw [en_places, places_map] at hg
    have e : (fun x => isJW (It.w x)) = It.isJ := by funext it; exact isJW_w it
    rw [e] at hg
    rw [e_tupL hg]
    exact ⟨rfl, f⟩
/-- a program's reaches -/
structure Rea (sk : List It) (rs : List Int) : Prop where
  len : rs.length = (jumpsN sk).length
theorem zi_get {js rs : List Int} {i : Nat} {w : W} (h : (ziW (js.map W.int) (rs.map W.int))[i]? = some w) : ∃ j r, js[i]? = some j ∧ rs[i]? = some r ∧ w = .tup [.int j, .int r] := by
  obtain ⟨x, y, hx, hy, rfl⟩ := ziW_inv h
  obtain ⟨j, hj, rfl⟩ := map_get hx
  obtain ⟨r, hr, rfl⟩ := map_get hy
  exact ⟨j, r, hj, hr, rfl⟩
theorem take_fm {α β : Type} (f : α → Option β) (xs : List α) (i : Nat) (w : α) (h : xs[i]? = some w) : (xs.take (i + 1)).filterMap f = (xs.take i).filterMap f ++ (f w).toList := by
  rw [take_one h, List.filterMap_append]
  cases hf : f w <;> simp [hf]
theorem st_take {sk : List It} {ln rs ch : List Int} {i : Nat} {j r : Int} (hj : (jumpsN sk)[i]? = some j) (hr : rs[i]? = some r) : (((jumpsN sk).zip rs).take (i + 1)).filterMap (stF sk ln ch) = (((jumpsN sk).zip rs).take i).filterMap (stF sk ln ch) ++ (stF sk ln ch (j, r)).toList :=
  take_fm (stF sk ln ch) ((jumpsN sk).zip rs) i (j, r) (List.getElem?_zip_eq_some.mpr ⟨hj, hr⟩)
abbrev prW (sk : List It) (ln rs : List Int) : W := .tup [skW sk, .tup (ln.map W.int), .tup (rs.map W.int)]
theorem stuck_ok {sk : List It} {ln rs ch : List Int} {cw : W} {G : Cells} (hs : Skel sk) (hl : ln.length = sk.length + 1) (hr : Rea sk rs) (hc : ChW G ch cw) :
    (Mstuck [prW sk ln rs, cw] G).sat fun w G' => w = .tup ((stuckN sk ln rs ch).map W.int) ∧ Fr [] G G' := by
  have h24 := hs.len2
  have jl := jumpsN_len (sk := sk)
  have hrl := hr.len
  refine fun_sat rfl ?_
  show (Bstuck [some (prW sk ln rs), some cw, none, none, none, none, none, none, none] G).sat _ _
  unfold Bstuck
  refine so_seq ?_
  simp only [p2_c, p3_c, pT2_c, pT3_c, t_asg, t_expr, t_ret, t_if, t_nx, t_par, t_par3, g_set, g_tup2, g_tup3, g_put, s_bin, s_def, s_defK, s_call, s_cons, v_nil, s_var, v_c, s_lst, s_tup, s_test, s_tru, s_notT, s_andT, s_orT, s_and, s_or, s_not, s_if, s_neg, s_meth, s_cut, v_nopart, s_part, s_chain, s_seq, s_rng1, s_rng2, s_enum, s_zipL, s_tupR1, s_tupR2, s_yes, List.getElem?_cons_zero, List.getElem?_cons_succ, Option.some.injEq, exists_eq_left', v_ok, e_add, e_sub, e_int, e_min, e_max, e_maxU, e_lenT, e_tupT, e_lt, e_le, e_gt, e_ge, i_tup, e_cutT, List.set_cons_succ, List.set_cons_zero, List.length_cons, List.length_nil, Nat.reduceAdd, W.int.injEq, W.bl.injEq, W.ref.injEq, W.tup.injEq, W.str.injEq, reduceCtorEq, false_and, and_false, exists_false, or_false, false_or, true_and, and_true, exists_const, exists_eq_left, sz0, sz1, sz2, sz3, sz4, sz5, sz6, sz7, sz8, sz9, sz10]
  refine so_seq ?_
  simp only [p2_c, p3_c, pT2_c, pT3_c, t_asg, t_expr, t_ret, t_if, t_nx, t_par, t_par3, g_set, g_tup2, g_tup3, g_put, s_bin, s_def, s_defK, s_call, s_cons, v_nil, s_var, v_c, s_lst, s_tup, s_test, s_tru, s_notT, s_andT, s_orT, s_and, s_or, s_not, s_if, s_neg, s_meth, s_cut, v_nopart, s_part, s_chain, s_seq, s_rng1, s_rng2, s_enum, s_zipL, s_tupR1, s_tupR2, s_yes, List.getElem?_cons_zero, List.getElem?_cons_succ, Option.some.injEq, exists_eq_left', v_ok, e_add, e_sub, e_int, e_min, e_max, e_maxU, e_lenT, e_tupT, e_lt, e_le, e_gt, e_ge, i_tup, e_cutT, List.set_cons_succ, List.set_cons_zero, List.length_cons, List.length_nil, Nat.reduceAdd, W.int.injEq, W.bl.injEq, W.ref.injEq, W.tup.injEq, W.str.injEq, reduceCtorEq, false_and, and_false, exists_false, or_false, false_or, true_and, and_true, exists_const, exists_eq_left, sz0, sz1, sz2, sz3, sz4, sz5, sz6, sz7, sz8, sz9, sz10]
  refine (laid_ok (ch := ch) hs hl hc).mono fun w G1 q => ?_
  obtain ⟨rfl, f1⟩ := q
  refine so_seq ?_
  simp only [p2_c, p3_c, pT2_c, pT3_c, t_asg, t_expr, t_ret, t_if, t_nx, t_par, t_par3, g_set, g_tup2, g_tup3, g_put, s_bin, s_def, s_defK, s_call, s_cons, v_nil, s_var, v_c, s_lst, s_tup, s_test, s_tru, s_notT, s_andT, s_orT, s_and, s_or, s_not, s_if, s_neg, s_meth, s_cut, v_nopart, s_part, s_chain, s_seq, s_rng1, s_rng2, s_enum, s_zipL, s_tupR1, s_tupR2, s_yes, List.getElem?_cons_zero, List.getElem?_cons_succ, Option.some.injEq, exists_eq_left', v_ok, e_add, e_sub, e_int, e_min, e_max, e_maxU, e_lenT, e_tupT, e_lt, e_le, e_gt, e_ge, i_tup, e_cutT, List.set_cons_succ, List.set_cons_zero, List.length_cons, List.length_nil, Nat.reduceAdd, W.int.injEq, W.bl.injEq, W.ref.injEq, W.tup.injEq, W.str.injEq, reduceCtorEq, false_and, and_false, exists_false, or_false, false_or, true_and, and_true, exists_const, exists_eq_left, sz0, sz1, sz2, sz3, sz4, sz5, sz6, sz7, sz8, sz9, sz10]
  have f2 : Fr [] G1 (G1 ++ [.lst []]) := Fr.push
  have hf2 := push_get G1 (.lst [])
  have f12 := f1.trans f2
  have hn := f1.1
  generalize hm : G1.length = m at *
  generalize G1 ++ [Cell.lst []] = G2 at *
  refine so_seq (so_forI (ziW ((jumpsN sk).map W.int) (rs.map W.int)) (fun i E G3 => Fr [] G G3 ∧ i ≤ 24 ∧ G3[m]? = some (.lst (((((jumpsN sk).zip rs).take i).filterMap (stF sk ln ch)).map W.int)) ∧ ∃ x7 x8, E = [some (prW sk ln rs), some cw, some (skW sk), some (.tup (ln.map W.int)), some (.tup (rs.map W.int)), some (.tup (layW sk ln ch sk.length)), some (.ref m), x7, x8]) ?_ ?_ ?_)
  · simp only [s_zip, s_bin, s_def, s_defK, s_call, s_cons, v_nil, s_var, v_c, s_lst, s_tup, s_test, s_tru, s_notT, s_andT, s_orT, s_and, s_or, s_not, s_if, s_neg, s_meth, s_cut, v_nopart, s_part, s_chain, s_seq, s_rng1, s_rng2, s_enum, s_zipL, s_tupR1, s_tupR2, s_yes, List.getElem?_cons_zero, List.getElem?_cons_succ, Option.some.injEq, exists_eq_left', v_ok, e_add, e_sub, e_int, e_min, e_max, e_maxU, e_lenT, e_tupT, e_lt, e_le, e_gt, e_ge, i_tup, e_cutT, List.set_cons_succ, List.set_cons_zero, List.length_cons, List.length_nil, Nat.reduceAdd, W.int.injEq, W.bl.injEq, W.ref.injEq, W.tup.injEq, W.str.injEq, reduceCtorEq, false_and, and_false, exists_false, or_false, false_or, true_and, and_true, exists_const, exists_eq_left, sz0, sz1, sz2, sz3, sz4, sz5, sz6, sz7, sz8, sz9, sz10]
    refine (jumps_of_ok h24).mono fun w G3 q => ?_
    obtain ⟨rfl, f3⟩ := q
    have it := it_zipT [] G3 ((jumpsN sk).map W.int) (rs.map W.int)
    refine ⟨_, rfl, it.len, ⟨f12.trans f3, by omega, f3.get hf2 (by simp), none, none, rfl⟩, fun i E' G' q => (it_zipT [] G' _ _).at' G' i Fr.refl⟩
  · rintro i w E G3 hw ⟨f3, hi, hg, x7, x8, rfl⟩
    obtain ⟨j, r, hj, hrr, rfl⟩ := zi_get hw
    obtain ⟨p, g', s, l, hp, rfl⟩ := jumpsN_mem.mp (List.mem_of_getElem? hj)
    obtain ⟨g, rfl, hjm⟩ := hs.jmp hp
    have hil : i < (jumpsN sk).length := (List.getElem?_eq_some_iff.mp hj).1
    have et := st_take (ln := ln) (ch := ch) hj hrr
    have al : ((((jumpsN sk).zip rs).take i).filterMap (stF sk ln ch)).length ≤ 24 := by
      refine Nat.le_trans (List.length_filterMap_le _ _) ?_
      simp; omega
    simp only [p2_c, p3_c, pT2_c, pT3_c, t_asg, t_expr, t_ret, t_if, t_nx, t_par, t_par3, g_set, g_tup2, g_tup3, g_put, s_bin, s_def, s_defK, s_call, s_cons, v_nil, s_var, v_c, s_lst, s_tup, s_test, s_tru, s_notT, s_andT, s_orT, s_and, s_or, s_not, s_if, s_neg, s_meth, s_cut, v_nopart, s_part, s_chain, s_seq, s_rng1, s_rng2, s_enum, s_zipL, s_tupR1, s_tupR2, s_yes, List.getElem?_cons_zero, List.getElem?_cons_succ, Option.some.injEq, exists_eq_left', v_ok, e_add, e_sub, e_int, e_min, e_max, e_maxU, e_lenT, e_tupT, e_lt, e_le, e_gt, e_ge, i_tup, e_cutT, List.set_cons_succ, List.set_cons_zero, List.length_cons, List.length_nil, Nat.reduceAdd, W.int.injEq, W.bl.injEq, W.ref.injEq, W.tup.injEq, W.str.injEq, reduceCtorEq, false_and, and_false, exists_false, or_false, false_or, true_and, and_true, exists_const, exists_eq_left, sz0, sz1, sz2, sz3, sz4, sz5, sz6, sz7, sz8, sz9, sz10, notin_ch (hc.mono f3)]
    refine hif (fun h => ?_) fun h => ?_
    · have h' : (p : Int) ∉ ch := by simpa using h
      refine (way_ok hjm).mono fun w G4 q => ?_
      obtain ⟨rfl, rfl⟩ := q
      simp only [s_bin, s_def, s_defK, s_call, s_cons, v_nil, s_var, v_c, s_lst, s_tup, s_test, s_tru, s_notT, s_andT, s_orT, s_and, s_or, s_not, s_if, s_neg, s_meth, s_cut, v_nopart, s_part, s_chain, s_seq, s_rng1, s_rng2, s_enum, s_zipL, s_tupR1, s_tupR2, s_yes, List.getElem?_cons_zero, List.getElem?_cons_succ, Option.some.injEq, exists_eq_left', v_ok, e_add, e_sub, e_int, e_min, e_max, e_maxU, e_lenT, e_tupT, e_lt, e_le, e_gt, e_ge, i_tup, e_cutT, List.set_cons_succ, List.set_cons_zero, List.length_cons, List.length_nil, Nat.reduceAdd, W.int.injEq, W.bl.injEq, W.ref.injEq, W.tup.injEq, W.str.injEq, reduceCtorEq, false_and, and_false, exists_false, or_false, false_or, true_and, and_true, exists_const, exists_eq_left, sz0, sz1, sz2, sz3, sz4, sz5, sz6, sz7, sz8, sz9, sz10, decide_eq_true_eq, e_isL hg]
      refine hif (fun h2 => ?_) fun h2 => ?_
      · rw [e_app hg (by simp only [List.length_map]; omega)]
        refine ⟨f3.fresh hn (Fr.set (by simp)), by omega, ?_, _, _, rfl⟩
        rw [get_set (lt_of_get hg), et]
        have : stF sk ln ch ((p : Int), r) = some (p : Int) := by unfold stF; rw [if_neg h', Wy_eq hjm, if_pos h2]
        rw [this, List.map_append]; rfl
      · refine ⟨f3, by omega, ?_, _, _, rfl⟩
        have : stF sk ln ch ((p : Int), r) = none := by unfold stF; rw [if_neg h', Wy_eq hjm, if_neg h2]
        rw [hg, et, this, Option.toList_none, List.append_nil]
    · have h' : (p : Int) ∈ ch := by simpa using h
      simp only [Bool.false_eq_true, if_false]
      refine ⟨f3, by omega, ?_, _, _, rfl⟩
      have : stF sk ln ch ((p : Int), r) = none := by unfold stF; rw [if_pos h']
      rw [hg, et, this, Option.toList_none, List.append_nil]
  · rintro E G3 ⟨f3, hi, hg, x7, x8, rfl⟩
    have e : ((jumpsN sk).zip rs).take (ziW ((jumpsN sk).map W.int) (rs.map W.int)).length = (jumpsN sk).zip rs := by
      refine List.take_of_length_le ?_
      rw [ziW_len]; simp
    rw [e] at hg
    simp only [p2_c, p3_c, pT2_c, pT3_c, t_asg, t_expr, t_ret, t_if, t_nx, t_par, t_par3, g_set, g_tup2, g_tup3, g_put, s_bin, s_def, s_defK, s_call, s_cons, v_nil, s_var, v_c, s_lst, s_tup, s_test, s_tru, s_notT, s_andT, s_orT, s_and, s_or, s_not, s_if, s_neg, s_meth, s_cut, v_nopart, s_part, s_chain, s_seq, s_rng1, s_rng2, s_enum, s_zipL, s_tupR1, s_tupR2, s_yes, List.getElem?_cons_zero, List.getElem?_cons_succ, Option.some.injEq, exists_eq_left', v_ok, e_add, e_sub, e_int, e_min, e_max, e_maxU, e_lenT, e_tupT, e_lt, e_le, e_gt, e_ge, i_tup, e_cutT, List.set_cons_succ, List.set_cons_zero, List.length_cons, List.length_nil, Nat.reduceAdd, W.int.injEq, W.bl.injEq, W.ref.injEq, W.tup.injEq, W.str.injEq, reduceCtorEq, false_and, and_false, exists_false, or_false, false_or, true_and, and_true, exists_const, exists_eq_left, sz0, sz1, sz2, sz3, sz4, sz5, sz6, sz7, sz8, sz9, sz10, e_tupL hg]
    exact ⟨rfl, f3⟩
theorem serves_ok {sk : List It} {ln rs ch : List Int} {cw : W} {G : Cells} (hs : Skel sk) (hl : ln.length = sk.length + 1) (hr : Rea sk rs) (hc : ChW G ch cw) :
    (Mserves [prW sk ln rs, cw] G).sat fun w G' => w = .bl (decide (stuckN sk ln rs ch = [])) ∧ Fr [] G G' := by
  refine fun_sat rfl ?_
  show (Bserves [some (prW sk ln rs), some cw] G).sat _ _
  unfold Bserves
  simp only [p2_c, p3_c, pT2_c, pT3_c, t_asg, t_expr, t_ret, t_if, t_nx, t_par, t_par3, g_set, g_tup2, g_tup3, g_put, s_bin, s_def, s_defK, s_call, s_cons, v_nil, s_var, v_c, s_lst, s_tup, s_test, s_tru, s_notT, s_andT, s_orT, s_and, s_or, s_not, s_if, s_neg, s_meth, s_cut, v_nopart, s_part, s_chain, s_seq, s_rng1, s_rng2, s_enum, s_zipL, s_tupR1, s_tupR2, s_yes, List.getElem?_cons_zero, List.getElem?_cons_succ, Option.some.injEq, exists_eq_left', v_ok, e_add, e_sub, e_int, e_min, e_max, e_maxU, e_lenT, e_tupT, e_lt, e_le, e_gt, e_ge, i_tup, e_cutT, List.set_cons_succ, List.set_cons_zero, List.length_cons, List.length_nil, Nat.reduceAdd, W.int.injEq, W.bl.injEq, W.ref.injEq, W.tup.injEq, W.str.injEq, reduceCtorEq, false_and, and_false, exists_false, or_false, false_or, true_and, and_true, exists_const, exists_eq_left, sz0, sz1, sz2, sz3, sz4, sz5, sz6, sz7, sz8, sz9, sz10]
  refine (stuck_ok hs hl hr hc).mono fun w G1 q => ?_
  obtain ⟨rfl, f1⟩ := q
  simp only [s_bin, s_def, s_defK, s_call, s_cons, v_nil, s_var, v_c, s_lst, s_tup, s_test, s_tru, s_notT, s_andT, s_orT, s_and, s_or, s_not, s_if, s_neg, s_meth, s_cut, v_nopart, s_part, s_chain, s_seq, s_rng1, s_rng2, s_enum, s_zipL, s_tupR1, s_tupR2, s_yes, List.getElem?_cons_zero, List.getElem?_cons_succ, Option.some.injEq, exists_eq_left', v_ok, e_add, e_sub, e_int, e_min, e_max, e_maxU, e_lenT, e_tupT, e_lt, e_le, e_gt, e_ge, i_tup, e_cutT, List.set_cons_succ, List.set_cons_zero, List.length_cons, List.length_nil, Nat.reduceAdd, W.int.injEq, W.bl.injEq, W.ref.injEq, W.tup.injEq, W.str.injEq, reduceCtorEq, false_and, and_false, exists_false, or_false, false_or, true_and, and_true, exists_const, exists_eq_left, sz0, sz1, sz2, sz3, sz4, sz5, sz6, sz7, sz8, sz9, sz10, eqOp_int, List.length_map]
  have e : decide (((stuckN sk ln rs ch).length : Int) = 0) = decide (stuckN sk ln rs ch = []) := decide_eq_decide.mpr ⟨fun h => List.length_eq_zero_iff.mp (by omega), fun h => by rw [h]; rfl⟩
  exact ⟨e, f1⟩
end NS
/- part T10 -/
set_option maxHeartbeats 1000000
namespace NS
open PySem PySem.Spec PyProof.Rows L2 PL

theorem held_ok {sk : List It} {ln rs ch : List Int} {G : Cells} (hs : Skel sk) (hl : ln.length = sk.length + 1) (hr : Rea sk rs) (hc : ch.length ≤ 1000) :
    (M_law_held [prW sk ln rs, .tup (ch.map W.int)] G).sat fun w G' => w = .tup ((stuckN sk ln rs ch).map W.int) ∧ Fr [] G G' := by
  have h24 := hs.len2
  have jl := jumpsN_len (sk := sk)
  have hrl := hr.len
  refine fun_sat rfl ?_
  show (B_law_held [some (prW sk ln rs), some (.tup (ch.map W.int)), none, none, none, none, none, none] G).sat _ _
  unfold B_law_held
  refine so_seq ?_
  simp only [p2_c, p3_c, pT2_c, pT3_c, t_asg, t_expr, t_ret, t_if, t_nx, t_par, t_par3, g_set, g_tup2, g_tup3, g_put, s_bin, s_def, s_defK, s_call, s_cons, v_nil, s_var, v_c, s_lst, s_tup, s_test, s_tru, s_notT, s_andT, s_orT, s_and, s_or, s_not, s_if, s_neg, s_meth, s_cut, v_nopart, s_part, s_chain, s_seq, s_rng1, s_rng2, s_enum, s_zipL, s_tupR1, s_tupR2, s_yes, List.getElem?_cons_zero, List.getElem?_cons_succ, Option.some.injEq, exists_eq_left', v_ok, e_add, e_sub, e_int, e_min, e_max, e_maxU, e_lenT, e_tupT, e_lt, e_le, e_gt, e_ge, i_tup, e_cutT, List.set_cons_succ, List.set_cons_zero, List.length_cons, List.length_nil, Nat.reduceAdd, W.int.injEq, W.bl.injEq, W.ref.injEq, W.tup.injEq, W.str.injEq, reduceCtorEq, false_and, and_false, exists_false, or_false, false_or, true_and, and_true, exists_const, exists_eq_left, sz0, sz1, sz2, sz3, sz4, sz5, sz6, sz7, sz8, sz9, sz10]
  refine so_seq ?_
  simp only [p2_c, p3_c, pT2_c, pT3_c, t_asg, t_expr, t_ret, t_if, t_nx, t_par, t_par3, g_set, g_tup2, g_tup3, g_put, s_bin, s_def, s_defK, s_call, s_cons, v_nil, s_var, v_c, s_lst, s_tup, s_test, s_tru, s_notT, s_andT, s_orT, s_and, s_or, s_not, s_if, s_neg, s_meth, s_cut, v_nopart, s_part, s_chain, s_seq, s_rng1, s_rng2, s_enum, s_zipL, s_tupR1, s_tupR2, s_yes, List.getElem?_cons_zero, List.getElem?_cons_succ, Option.some.injEq, exists_eq_left', v_ok, e_add, e_sub, e_int, e_min, e_max, e_maxU, e_lenT, e_tupT, e_lt, e_le, e_gt, e_ge, i_tup, e_cutT, List.set_cons_succ, List.set_cons_zero, List.length_cons, List.length_nil, Nat.reduceAdd, W.int.injEq, W.bl.injEq, W.ref.injEq, W.tup.injEq, W.str.injEq, reduceCtorEq, false_and, and_false, exists_false, or_false, false_or, true_and, and_true, exists_const, exists_eq_left, sz0, sz1, sz2, sz3, sz4, sz5, sz6, sz7, sz8, sz9, sz10]
  have f2 : Fr [] G (G ++ [.lst []]) := Fr.push
  have hf2 := push_get G (.lst [])
  generalize hm : G.length = m at *
  generalize G ++ [Cell.lst []] = G2 at *
  refine so_seq (so_forG (P := fun pit G3 => ∃ n, pit = .zipM n (rs.map W.int) ∧ G3[n]? = some (.lst ((jumpsN sk).map W.int)) ∧ m < n ∧ Fr [] G2 G3) ?_ ?_)
  · simp only [s_bin, s_def, s_defK, s_call, s_cons, v_nil, s_var, v_c, s_lst, s_tup, s_test, s_tru, s_notT, s_andT, s_orT, s_and, s_or, s_not, s_if, s_neg, s_meth, s_cut, v_nopart, s_part, s_chain, s_seq, s_rng1, s_rng2, s_enum, s_zipL, s_tupR1, s_tupR2, s_yes, List.getElem?_cons_zero, List.getElem?_cons_succ, Option.some.injEq, exists_eq_left', v_ok, e_add, e_sub, e_int, e_min, e_max, e_maxU, e_lenT, e_tupT, e_lt, e_le, e_gt, e_ge, i_tup, e_cutT, List.set_cons_succ, List.set_cons_zero, List.length_cons, List.length_nil, Nat.reduceAdd, W.int.injEq, W.bl.injEq, W.ref.injEq, W.tup.injEq, W.str.injEq, reduceCtorEq, false_and, and_false, exists_false, or_false, false_or, true_and, and_true, exists_const, exists_eq_left, sz0, sz1, sz2, sz3, sz4, sz5, sz6, sz7, sz8, sz9, sz10]
    refine (jumps_ok h24).mono fun w G3 q => ?_
    obtain ⟨n, rfl, hn, hg, f3⟩ := q
    exact ⟨n, rfl, by rw [rdL_lst hg]; rfl, n, rfl, hg, by have := lt_of_get hf2; omega, f3⟩
  rintro pit G3 e ⟨n, rfl, hgn, hmn, f3⟩
  have it := it_zipM (S := [m]) (ys := rs.map W.int) hgn (by simp; omega) (by simp [hrl])
  refine so_forI (ziW ((jumpsN sk).map W.int) (rs.map W.int)) (fun i E G4 => Fr [m] G3 G4 ∧ Fr [] G G4 ∧ i ≤ (jumpsN sk).length ∧ G4[m]? = some (.lst (((((jumpsN sk).zip rs).take i).filterMap (stF sk ln ch)).map W.int)) ∧ ∃ x6 x7, E = [some (prW sk ln rs), some (.tup (ch.map W.int)), some (skW sk), some (.tup (ln.map W.int)), some (.tup (rs.map W.int)), some (.ref m), x6, x7]) (e.mono ?_) ?_ ?_
  · rintro p g ⟨rfl, rfl⟩
    exact ⟨it.1, ⟨Fr.refl, f2.trans f3, by omega, f3.get hf2 (by simp), none, none, rfl⟩, fun i E' G' q => it.2 G' i (by simpa using q.2.2.1) q.1⟩
  · rintro i w E G4 hw ⟨f4, f04, hi, hg, x6, x7, rfl⟩
    obtain ⟨j, r, hj, hrr, rfl⟩ := zi_get hw
    obtain ⟨p, g', s, l, hp, rfl⟩ := jumpsN_mem.mp (List.mem_of_getElem? hj)
    obtain ⟨g, rfl, hjm⟩ := hs.jmp hp
    have hil : i < (jumpsN sk).length := (List.getElem?_eq_some_iff.mp hj).1
    have et := st_take (ln := ln) (ch := ch) hj hrr
    have al : ((((jumpsN sk).zip rs).take i).filterMap (stF sk ln ch)).length ≤ 24 := by
      refine Nat.le_trans (List.length_filterMap_le _ _) ?_
      simp; omega
    simp only [p2_c, p3_c, pT2_c, pT3_c, t_asg, t_expr, t_ret, t_if, t_nx, t_par, t_par3, g_set, g_tup2, g_tup3, g_put, s_bin, s_def, s_defK, s_call, s_cons, v_nil, s_var, v_c, s_lst, s_tup, s_test, s_tru, s_notT, s_andT, s_orT, s_and, s_or, s_not, s_if, s_neg, s_meth, s_cut, v_nopart, s_part, s_chain, s_seq, s_rng1, s_rng2, s_enum, s_zipL, s_tupR1, s_tupR2, s_yes, List.getElem?_cons_zero, List.getElem?_cons_succ, Option.some.injEq, exists_eq_left', v_ok, e_add, e_sub, e_int, e_min, e_max, e_maxU, e_lenT, e_tupT, e_lt, e_le, e_gt, e_ge, i_tup, e_cutT, List.set_cons_succ, List.set_cons_zero, List.length_cons, List.length_nil, Nat.reduceAdd, W.int.injEq, W.bl.injEq, W.ref.injEq, W.tup.injEq, W.str.injEq, reduceCtorEq, false_and, and_false, exists_false, or_false, false_or, true_and, and_true, exists_const, exists_eq_left, sz0, sz1, sz2, sz3, sz4, sz5, sz6, sz7, sz8, sz9, sz10, notin_ch ChW.tup]
    refine hif (fun h => ?_) fun h => ?_
    · have h' : (p : Int) ∉ ch := by simpa using h
      refine (law_way_ok hs hjm hl hc).mono fun w G5 q => ?_
      obtain ⟨rfl, f5⟩ := q
      have ew : wayN sk ln (noJ ch p) p g = Wy sk ln ch (p : Int) := by rw [Wy_eq hjm]; exact wayN_congr (noJ_same h') p g
      have hg5 := f5.get hg (by simp)
      simp only [s_bin, s_def, s_defK, s_call, s_cons, v_nil, s_var, v_c, s_lst, s_tup, s_test, s_tru, s_notT, s_andT, s_orT, s_and, s_or, s_not, s_if, s_neg, s_meth, s_cut, v_nopart, s_part, s_chain, s_seq, s_rng1, s_rng2, s_enum, s_zipL, s_tupR1, s_tupR2, s_yes, List.getElem?_cons_zero, List.getElem?_cons_succ, Option.some.injEq, exists_eq_left', v_ok, e_add, e_sub, e_int, e_min, e_max, e_maxU, e_lenT, e_tupT, e_lt, e_le, e_gt, e_ge, i_tup, e_cutT, List.set_cons_succ, List.set_cons_zero, List.length_cons, List.length_nil, Nat.reduceAdd, W.int.injEq, W.bl.injEq, W.ref.injEq, W.tup.injEq, W.str.injEq, reduceCtorEq, false_and, and_false, exists_false, or_false, false_or, true_and, and_true, exists_const, exists_eq_left, sz0, sz1, sz2, sz3, sz4, sz5, sz6, sz7, sz8, sz9, sz10, decide_eq_true_eq, e_isL hg5, ew]
      refine hif (fun h2 => ?_) fun h2 => ?_
      · rw [e_app hg5 (by simp only [List.length_map]; omega)]
        refine ⟨(f4.trans f5.of_nil).trans (Fr.set (by simp)), (f04.trans f5).fresh (n := m) (by omega) (Fr.set (by simp)), by omega, ?_, _, _, rfl⟩
        rw [get_set (lt_of_get hg5), et]
        have : stF sk ln ch ((p : Int), r) = some (p : Int) := by unfold stF; rw [if_neg h', if_pos h2]
        rw [this, List.map_append]; rfl
      · refine ⟨f4.trans f5.of_nil, f04.trans f5, by omega, ?_, _, _, rfl⟩
        have : stF sk ln ch ((p : Int), r) = none := by unfold stF; rw [if_neg h', if_neg h2]
        rw [hg5, et, this, Option.toList_none, List.append_nil]
    · have h' : (p : Int) ∈ ch := by simpa using h
      simp only [Bool.false_eq_true, if_false]
      refine ⟨f4, f04, by omega, ?_, _, _, rfl⟩
      have : stF sk ln ch ((p : Int), r) = none := by unfold stF; rw [if_pos h']
      rw [hg, et, this, Option.toList_none, List.append_nil]
  · rintro E G4 ⟨f4, f04, hi, hg, x6, x7, rfl⟩
    have e : ((jumpsN sk).zip rs).take (ziW ((jumpsN sk).map W.int) (rs.map W.int)).length = (jumpsN sk).zip rs := by
      refine List.take_of_length_le ?_
      rw [ziW_len]; simp
    rw [e] at hg
    simp only [p2_c, p3_c, pT2_c, pT3_c, t_asg, t_expr, t_ret, t_if, t_nx, t_par, t_par3, g_set, g_tup2, g_tup3, g_put, s_bin, s_def, s_defK, s_call, s_cons, v_nil, s_var, v_c, s_lst, s_tup, s_test, s_tru, s_notT, s_andT, s_orT, s_and, s_or, s_not, s_if, s_neg, s_meth, s_cut, v_nopart, s_part, s_chain, s_seq, s_rng1, s_rng2, s_enum, s_zipL, s_tupR1, s_tupR2, s_yes, List.getElem?_cons_zero, List.getElem?_cons_succ, Option.some.injEq, exists_eq_left', v_ok, e_add, e_sub, e_int, e_min, e_max, e_maxU, e_lenT, e_tupT, e_lt, e_le, e_gt, e_ge, i_tup, e_cutT, List.set_cons_succ, List.set_cons_zero, List.length_cons, List.length_nil, Nat.reduceAdd, W.int.injEq, W.bl.injEq, W.ref.injEq, W.tup.injEq, W.str.injEq, reduceCtorEq, false_and, and_false, exists_false, or_false, false_or, true_and, and_true, exists_const, exists_eq_left, sz0, sz1, sz2, sz3, sz4, sz5, sz6, sz7, sz8, sz9, sz10, e_tupL hg]
    exact ⟨rfl, f04⟩
structure Prg (sk : List It) (ln rs : List Int) : Prop where
  hsk : Skel sk
  hln : Lens sk ln
  hrs : Rea sk rs
  nn : ∀ x ∈ rs, 0 ≤ x ∧ x ≤ 1000000000
theorem program_ok {r d c : Nat} {sk : List It} {b : Bool} {G : Cells} (hs : Skel sk) (h : RI r d c G) :
    (M_law_program [.ref r, skW sk, .bl b] G).sat fun w G' => ∃ ln rs, w = prW sk ln rs ∧ Prg sk ln rs ∧ RI r d c G' ∧ Fr [r, d] G G' := by
  have h24 := hs.len2
  have jl := jumpsN_len (sk := sk)
  have hlt := h.lt
  refine fun_sat rfl ?_
  show (B_law_program [some (.ref r), some (skW sk), some (.bl b), none, none, none, none, none, none] G).sat _ _
  unfold B_law_program
  refine so_seq ?_
  simp only [p2_c, p3_c, pT2_c, pT3_c, t_asg, t_expr, t_ret, t_if, t_nx, t_par, t_par3, g_set, g_tup2, g_tup3, g_put, s_bin, s_def, s_defK, s_call, s_cons, v_nil, s_var, v_c, s_lst, s_tup, s_test, s_tru, s_notT, s_andT, s_orT, s_and, s_or, s_not, s_if, s_neg, s_meth, s_cut, v_nopart, s_part, s_chain, s_seq, s_rng1, s_rng2, s_enum, s_zipL, s_tupR1, s_tupR2, s_yes, List.getElem?_cons_zero, List.getElem?_cons_succ, Option.some.injEq, exists_eq_left', v_ok, e_add, e_sub, e_int, e_min, e_max, e_maxU, e_lenT, e_tupT, e_lt, e_le, e_gt, e_ge, i_tup, e_cutT, List.set_cons_succ, List.set_cons_zero, List.length_cons, List.length_nil, Nat.reduceAdd, W.int.injEq, W.bl.injEq, W.ref.injEq, W.tup.injEq, W.str.injEq, reduceCtorEq, false_and, and_false, exists_false, or_false, false_or, true_and, and_true, exists_const, exists_eq_left, sz0, sz1, sz2, sz3, sz4, sz5, sz6, sz7, sz8, sz9, sz10]
  refine (lengths_ok h h24).mono fun w G1 q => ?_
  obtain ⟨ln, rfl, hl, r1, f1⟩ := q
  refine (jumps_ok h24).mono fun w G2 q => ?_
  obtain ⟨jn, rfl, hjn, hgj, f2⟩ := q
  have r2 := r1.keep (f2.trans (Fr.push (c := .lst [])))
  have hgj2 := (Fr.push (S := []) (c := .lst [])).get hgj (by simp)
  have f12 := f1.trans (f2.trans (Fr.push (c := .lst []))).of_nil
  have hf2 := push_get G2 (.lst [])
  have jlt := lt_of_get hgj
  have glt := f1.1
  generalize hm : G2.length = m at *
  generalize G2 ++ [Cell.lst []] = G3 at *
  refine so_seq (so_forI ((jumpsN sk).map W.int) (fun i E G4 => RI r d c G4 ∧ Fr [m, r, d] G3 G4 ∧ Fr [r, d] G G4 ∧ i ≤ 24 ∧ (∃ rs : List Int, G4[m]? = some (.lst (rs.map W.int)) ∧ rs.length = i ∧ ∀ x ∈ rs, 0 ≤ x ∧ x ≤ 1000000000) ∧ ∃ x6 x7 x8, E = [some (.ref r), some (skW sk), some (.bl b), some (.tup (ln.map W.int)), some (.ref jn), some (.ref m), x6, x7, x8]) ?_ ?_ ?_)
  · simp only [s_bin, s_def, s_defK, s_call, s_cons, v_nil, s_var, v_c, s_lst, s_tup, s_test, s_tru, s_notT, s_andT, s_orT, s_and, s_or, s_not, s_if, s_neg, s_meth, s_cut, v_nopart, s_part, s_chain, s_seq, s_rng1, s_rng2, s_enum, s_zipL, s_tupR1, s_tupR2, s_yes, List.getElem?_cons_zero, List.getElem?_cons_succ, Option.some.injEq, exists_eq_left', v_ok, e_add, e_sub, e_int, e_min, e_max, e_maxU, e_lenT, e_tupT, e_lt, e_le, e_gt, e_ge, i_tup, e_cutT, List.set_cons_succ, List.set_cons_zero, List.length_cons, List.length_nil, Nat.reduceAdd, W.int.injEq, W.bl.injEq, W.ref.injEq, W.tup.injEq, W.str.injEq, reduceCtorEq, false_and, and_false, exists_false, or_false, false_or, true_and, and_true, exists_const, exists_eq_left, sz0, sz1, sz2, sz3, sz4, sz5, sz6, sz7, sz8, sz9, sz10, i_lst hgj2]
    have it := it_lst (S := [m, r, d]) hgj2 (by simp; omega)
    exact ⟨it.len, ⟨r2, Fr.refl, f12, by omega, ⟨[], hf2, rfl, by simp⟩, none, none, none, by simp⟩, fun i E' G' q => it.at' _ _ q.2.1⟩
  · rintro i w E G4 hw ⟨r4, f4, f04, hi, ⟨rs, hrs, hrl, hrn⟩, x6, x7, x8, rfl⟩
    obtain ⟨j, hj, rfl⟩ := map_get hw
    obtain ⟨p, g', s, l, hp, rfl⟩ := jumpsN_mem.mp (List.mem_of_getElem? hj)
    obtain ⟨g, rfl, hjm⟩ := hs.jmp hp
    have hil : i < (jumpsN sk).length := (List.getElem?_eq_some_iff.mp hj).1
    have hgj4 := f4.get hgj2 (by simp; omega)
    simp only [p2_c, p3_c, pT2_c, pT3_c, t_asg, t_expr, t_ret, t_if, t_nx, t_par, t_par3, g_set, g_tup2, g_tup3, g_put, s_bin, s_def, s_defK, s_call, s_cons, v_nil, s_var, v_c, s_lst, s_tup, s_test, s_tru, s_notT, s_andT, s_orT, s_and, s_or, s_not, s_if, s_neg, s_meth, s_cut, v_nopart, s_part, s_chain, s_seq, s_rng1, s_rng2, s_enum, s_zipL, s_tupR1, s_tupR2, s_yes, List.getElem?_cons_zero, List.getElem?_cons_succ, Option.some.injEq, exists_eq_left', v_ok, e_add, e_sub, e_int, e_min, e_max, e_maxU, e_lenT, e_tupT, e_lt, e_le, e_gt, e_ge, i_tup, e_cutT, List.set_cons_succ, List.set_cons_zero, List.length_cons, List.length_nil, Nat.reduceAdd, W.int.injEq, W.bl.injEq, W.ref.injEq, W.tup.injEq, W.str.injEq, reduceCtorEq, false_and, and_false, exists_false, or_false, false_or, true_and, and_true, exists_const, exists_eq_left, sz0, sz1, sz2, sz3, sz4, sz5, sz6, sz7, sz8, sz9, sz10]
    refine so_seq ?_
    simp only [p2_c, p3_c, pT2_c, pT3_c, t_asg, t_expr, t_ret, t_if, t_nx, t_par, t_par3, g_set, g_tup2, g_tup3, g_put, s_bin, s_def, s_defK, s_call, s_cons, v_nil, s_var, v_c, s_lst, s_tup, s_test, s_tru, s_notT, s_andT, s_orT, s_and, s_or, s_not, s_if, s_neg, s_meth, s_cut, v_nopart, s_part, s_chain, s_seq, s_rng1, s_rng2, s_enum, s_zipL, s_tupR1, s_tupR2, s_yes, List.getElem?_cons_zero, List.getElem?_cons_succ, Option.some.injEq, exists_eq_left', v_ok, e_add, e_sub, e_int, e_min, e_max, e_maxU, e_lenT, e_tupT, e_lt, e_le, e_gt, e_ge, i_tup, e_cutT, List.set_cons_succ, List.set_cons_zero, List.length_cons, List.length_nil, Nat.reduceAdd, W.int.injEq, W.bl.injEq, W.ref.injEq, W.tup.injEq, W.str.injEq, reduceCtorEq, false_and, and_false, exists_false, or_false, false_or, true_and, and_true, exists_const, exists_eq_left, sz0, sz1, sz2, sz3, sz4, sz5, sz6, sz7, sz8, sz9, sz10]
    refine (some_ok r4 hgj4 (by omega) (by omega) (by omega)).mono fun w G5 q => ?_
    obtain ⟨ch, rfl, hch, r5, f5⟩ := q
    have hcl := hch.length_le
    refine (law_way_ok hs hjm hl.len (by omega)).mono fun w G6 q => ?_
    obtain ⟨rfl, f6⟩ := q
    generalize wayN sk ln (noJ ch p) p g = v
    have r6 := r5.keep f6
    refine so_seq ?_
    simp only [p2_c, p3_c, pT2_c, pT3_c, t_asg, t_expr, t_ret, t_if, t_nx, t_par, t_par3, g_set, g_tup2, g_tup3, g_put, s_bin, s_def, s_defK, s_call, s_cons, v_nil, s_var, v_c, s_lst, s_tup, s_test, s_tru, s_notT, s_andT, s_orT, s_and, s_or, s_not, s_if, s_neg, s_meth, s_cut, v_nopart, s_part, s_chain, s_seq, s_rng1, s_rng2, s_enum, s_zipL, s_tupR1, s_tupR2, s_yes, List.getElem?_cons_zero, List.getElem?_cons_succ, Option.some.injEq, exists_eq_left', v_ok, e_add, e_sub, e_int, e_min, e_max, e_maxU, e_lenT, e_tupT, e_lt, e_le, e_gt, e_ge, i_tup, e_cutT, List.set_cons_succ, List.set_cons_zero, List.length_cons, List.length_nil, Nat.reduceAdd, W.int.injEq, W.bl.injEq, W.ref.injEq, W.tup.injEq, W.str.injEq, reduceCtorEq, false_and, and_false, exists_false, or_false, false_or, true_and, and_true, exists_const, exists_eq_left, sz0, sz1, sz2, sz3, sz4, sz5, sz6, sz7, sz8, sz9, sz10, e_pow9]
    refine (draw_ok r6 (size := 20) (by decide) (by decide)).mono fun w G7 q => ?_
    obtain ⟨⟨z, rfl, z0, z1⟩, r7, f7⟩ := q
    refine (picks_ok r7 (by simp) (by simp)).mono fun w G8 q => ?_
    obtain ⟨q1, r8, f8⟩ := q
    obtain ⟨u, rfl⟩ : ∃ a, w = .int a := by
      simp only [List.mem_cons, List.not_mem_nil, or_false] at q1
      rcases q1 with h | h | h | h | h | h | h | h <;> exact ⟨_, h⟩
    have f48 := ((f5.trans f6.of_nil).trans f7).trans f8
    have hrs8 := f48.get hrs (by simp; omega)
    simp only [p2_c, p3_c, pT2_c, pT3_c, t_asg, t_expr, t_ret, t_if, t_nx, t_par, t_par3, g_set, g_tup2, g_tup3, g_put, s_bin, s_def, s_defK, s_call, s_cons, v_nil, s_var, v_c, s_lst, s_tup, s_test, s_tru, s_notT, s_andT, s_orT, s_and, s_or, s_not, s_if, s_neg, s_meth, s_cut, v_nopart, s_part, s_chain, s_seq, s_rng1, s_rng2, s_enum, s_zipL, s_tupR1, s_tupR2, s_yes, List.getElem?_cons_zero, List.getElem?_cons_succ, Option.some.injEq, exists_eq_left', v_ok, e_add, e_sub, e_int, e_min, e_max, e_maxU, e_lenT, e_tupT, e_lt, e_le, e_gt, e_ge, i_tup, e_cutT, List.set_cons_succ, List.set_cons_zero, List.length_cons, List.length_nil, Nat.reduceAdd, W.int.injEq, W.bl.injEq, W.ref.injEq, W.tup.injEq, W.str.injEq, reduceCtorEq, false_and, and_false, exists_false, or_false, false_or, true_and, and_true, exists_const, exists_eq_left, sz0, sz1, sz2, sz3, sz4, sz5, sz6, sz7, sz8, sz9, sz10, e_isL hrs8, e_pow9]
    rw [e_app hrs8 (by simp; omega)]
    refine ⟨r8.setOther (by omega) (by omega) (by omega), (f4.trans (f48.sub (by simp))).trans (Fr.set (by simp)), (f04.trans f48).fresh (n := m) (by omega) (Fr.set (by simp)), by omega, ⟨rs ++ [min (max 0 u) 1000000000], ?_, by simp [hrl], ?_⟩, _, _, _, rfl⟩
    · rw [get_set (lt_of_get hrs8), List.map_append]; rfl
    · intro x hx
      rcases List.mem_append.mp hx with hx | hx
      · exact hrn x hx
      · rw [List.mem_singleton.mp hx]; omega
  · rintro E G4 ⟨r4, f4, f04, hi, ⟨rs, hrs, hrl, hrn⟩, x6, x7, x8, rfl⟩
    simp only [p2_c, p3_c, pT2_c, pT3_c, t_asg, t_expr, t_ret, t_if, t_nx, t_par, t_par3, g_set, g_tup2, g_tup3, g_put, s_bin, s_def, s_defK, s_call, s_cons, v_nil, s_var, v_c, s_lst, s_tup, s_test, s_tru, s_notT, s_andT, s_orT, s_and, s_or, s_not, s_if, s_neg, s_meth, s_cut, v_nopart, s_part, s_chain, s_seq, s_rng1, s_rng2, s_enum, s_zipL, s_tupR1, s_tupR2, s_yes, List.getElem?_cons_zero, List.getElem?_cons_succ, Option.some.injEq, exists_eq_left', v_ok, e_add, e_sub, e_int, e_min, e_max, e_maxU, e_lenT, e_tupT, e_lt, e_le, e_gt, e_ge, i_tup, e_cutT, List.set_cons_succ, List.set_cons_zero, List.length_cons, List.length_nil, Nat.reduceAdd, W.int.injEq, W.bl.injEq, W.ref.injEq, W.tup.injEq, W.str.injEq, reduceCtorEq, false_and, and_false, exists_false, or_false, false_or, true_and, and_true, exists_const, exists_eq_left, sz0, sz1, sz2, sz3, sz4, sz5, sz6, sz7, sz8, sz9, sz10, e_tupL hrs]
    exact ⟨ln, rs, rfl, ⟨hs, hl, ⟨by simpa using hrl⟩, hrn⟩, r4, f04⟩
end NS
/- part M1 -/
set_option maxHeartbeats 1000000
namespace NS
open PySem PySem.Spec PyProof.Rows L2 PL

/-! ### moves from choice to choice -/
structure Mv where
  js : List Int → List Int
  nx : List Int → Int → List Int
structure MvOk (M : Mv) (inv : List Int → Prop) (rm : List Int → Nat) : Prop where
  le : ∀ {ch}, inv ch → rm ch ≤ 24
  len : ∀ {ch}, inv ch → ch.length ≤ 24
  jl : ∀ {ch}, inv ch → (M.js ch).length ≤ 24
  nd : ∀ {ch}, inv ch → (M.js ch).Nodup
  step : ∀ {ch j}, inv ch → j ∈ M.js ch → inv (M.nx ch j) ∧ rm (M.nx ch j) + 1 ≤ rm ch
def fuL (M : Mv) (ch : List Int) : List (Key × W) := (M.js ch).map fun j => (.inl j, .tup ((M.nx ch j).map W.int))
theorem fuL_val {M : Mv} {ch : List Int} {j : Int} : valW (fuL M ch) (.inl j) = if j ∈ M.js ch then some (.tup ((M.nx ch j).map W.int)) else none := by
  by_cases h : j ∈ M.js ch
  · rw [if_pos h]
    exact valW_map (fun j => (Sum.inl j : Key)) (fun j => W.tup ((M.nx ch j).map W.int)) (M.js ch) (fun x _ y _ e => Sum.inl.inj e) h
  · rw [if_neg h]
    refine valW_none fun p hp e => h ?_
    obtain ⟨x, hx, rfl⟩ := List.mem_map.mp hp
    rw [← Sum.inl.inj e]; exact hx
theorem fuL_emp {M : Mv} {ch : List Int} : (fuL M ch).isEmpty = (M.js ch).isEmpty := by unfold fuL; cases M.js ch <;> rfl
theorem fuL_keys {M : Mv} {ch : List Int} (nd : (M.js ch).Nodup) : ((fuL M ch).map (·.1)).Nodup := by
  unfold fuL
  rw [List.map_map]
  exact List.Pairwise.map _ (fun a b h e => h (Sum.inl.inj e)) nd
abbrev FuQ (M : Mv) (ch : List Int) (G : Cells) : W → Cells → Prop := fun w G' => ∃ n, w = .ref n ∧ G.length ≤ n ∧ G'[n]? = some (.dct (fuL M ch)) ∧ Fr [] G G'
def MovF (pr : W) (M : Mv) (inv : List Int → Prop) (F : PF) : Prop := ∀ {ch : List Int} {G : Cells}, inv ch → (F [pr, .tup (ch.map W.int)] G).sat (FuQ M ch G)
/-- the function at a, called by a local name -/
def PickF (v : Nat → Addr) (a : Addr) (F : PF) : Prop := ∀ {i : Nat} {m : MA} {E : PEnv} {G : Cells} {Q : W → Cells → Prop}, E[i]? = some (some (.fn a)) → (mDefL2 i (v 0) M_longer (v 1) M_shorter m E G).sat Q = (m E G).sat fun ws G1 => (F ws G1).sat Q
theorem tru_dct {G : Cells} {n : Nat} {kvs : List (Key × W)} (h : G[n]? = some (.dct kvs)) : truW G (.ref n) = some (!kvs.isEmpty) := by unfold truW; simp only [h]
theorem get_fur {G : Cells} {n : Nat} {M : Mv} {ch : List Int} {j : Int} (h : G[n]? = some (.dct (fuL M ch))) (hj : j ∈ M.js ch) : getW G (.ref n) (.int j) = .ok (.tup ((M.nx ch j).map W.int)) G := by
  unfold getW
  simp only [h, keyW, fuL_val, hj, if_true]
def fst1 (ord st : List Int) : Int := (ord.filter fun j => decide (j ∈ st)).headD 0
def inF (st : List Int) : W → Option W
  | .int i => if i ∈ st then some (.int i) else none
  | _ => none
theorem inF_map (st ord : List Int) : (ord.map W.int).filterMap (inF st) = (ord.filter fun j => decide (j ∈ st)).map W.int := by
  induction ord with
  | nil => rfl
  | cons x xs ih => by_cases h : x ∈ st <;> simp [List.filterMap_cons, inF, h, ih]
theorem fst1_mem {ord st : List Int} (h : st ≠ []) (ho : ∀ j ∈ st, j ∈ ord) : ∃ r, (ord.filter fun j => decide (j ∈ st)) = fst1 ord st :: r ∧ fst1 ord st ∈ st := by
  unfold fst1
  cases hf : ord.filter fun j => decide (j ∈ st) with
  | nil =>
    obtain ⟨x, hx⟩ := List.exists_mem_of_ne_nil _ h
    have : x ∈ ord.filter fun j => decide (j ∈ st) := by simp [ho x hx, hx]
    rw [hf] at this; cases this
  | cons y ys =>
    have : y ∈ ord.filter fun j => decide (j ∈ st) := by rw [hf]; simp
    simp only [List.mem_filter, decide_eq_true_eq] at this
    exact ⟨ys, rfl, this.2⟩
/-- the row from ch on, and its end -/
def rw1 (M : Mv) (ord : List Int) : Nat → List Int → List Int × List Int
  | 0, ch => ([], ch)
  | m + 1, ch => if M.js ch = [] then ([], ch) else (fst1 ord (M.js ch) :: (rw1 M ord m (M.nx ch (fst1 ord (M.js ch)))).1, (rw1 M ord m (M.nx ch (fst1 ord (M.js ch)))).2)
theorem rw1_end {M : Mv} {ord ch : List Int} (m : Nat) (h : M.js ch = []) : rw1 M ord m ch = ([], ch) := by
  cases m with
  | zero => rfl
  | succ m => unfold rw1; rw [if_pos h]
/-- how a row stands in the midst -/
structure Mid (M : Mv) (inv : List Int → Prop) (rm : List Int → Nat) (ord ch0 : List Int) (m : Nat) (row ch : List Int) : Prop where
  inv : inv ch
  le : rm ch ≤ m
  rl : row.length + m ≤ 24
  row : row ++ (rw1 M ord m ch).1 = (rw1 M ord 24 ch0).1
  fin : (rw1 M ord m ch).2 = (rw1 M ord 24 ch0).2
theorem Mid.zero {M : Mv} {inv : List Int → Prop} {rm : List Int → Nat} {ord ch0 : List Int} (ok : MvOk M inv rm) (h : inv ch0) : Mid M inv rm ord ch0 24 [] ch0 := ⟨h, ok.le h, Nat.le_refl _, rfl, rfl⟩
theorem Mid.next {M : Mv} {inv : List Int → Prop} {rm : List Int → Nat} {ord ch0 row ch : List Int} {m : Nat} (ok : MvOk M inv rm) (h : Mid M inv rm ord ch0 m row ch) (hne : M.js ch ≠ []) (ho : ∀ j ∈ M.js ch, j ∈ ord) :
    ∃ m', m = m' + 1 ∧ Mid M inv rm ord ch0 m' (row ++ [fst1 ord (M.js ch)]) (M.nx ch (fst1 ord (M.js ch))) ∧ fst1 ord (M.js ch) ∈ M.js ch := by
  obtain ⟨r, _, hm⟩ := fst1_mem hne ho
  obtain ⟨i2, h2⟩ := ok.step h.inv hm
  have h3 := h.le
  have h5 := h.rl
  obtain ⟨m', rfl⟩ : ∃ m', m = m' + 1 := ⟨m - 1, by omega⟩
  have hr := h.row
  have hf := h.fin
  unfold rw1 at hr hf
  rw [if_neg hne] at hr hf
  refine ⟨m', rfl, ⟨i2, by omega, by simp; omega, ?_, ?_⟩, hm⟩
  · rw [List.append_assoc]; exact hr
  · exact hf
theorem Mid.stop {M : Mv} {inv : List Int → Prop} {rm : List Int → Nat} {ord ch0 row ch : List Int} {m : Nat} (h : Mid M inv rm ord ch0 m row ch) (he : M.js ch = []) : row = (rw1 M ord 24 ch0).1 ∧ ch = (rw1 M ord 24 ch0).2 := by
  have hr := h.row
  have hf := h.fin
  rw [rw1_end m he] at hr hf
  rw [List.append_nil] at hr
  exact ⟨hr, hf⟩
theorem rw1_fin {M : Mv} {inv : List Int → Prop} {rm : List Int → Nat} {ord : List Int} (ok : MvOk M inv rm) (ho : ∀ ch, inv ch → ∀ j ∈ M.js ch, j ∈ ord) : ∀ m ch, inv ch → rm ch ≤ m → M.js (rw1 M ord m ch).2 = [] ∧ inv (rw1 M ord m ch).2 ∧ (rw1 M ord m ch).1.length ≤ m ∧ ∀ j ∈ (rw1 M ord m ch).1, ∃ c, inv c ∧ j ∈ M.js c
  | m, ch, hi, h => by
    by_cases he : M.js ch = []
    · rw [rw1_end m he]; exact ⟨he, hi, by simp, fun j hj => by cases hj⟩
    · obtain ⟨r, _, hm⟩ := fst1_mem he (ho ch hi)
      obtain ⟨i2, h2⟩ := ok.step hi hm
      match m, h with
      | 0, h => omega
      | m + 1, h =>
        unfold rw1
        rw [if_neg he]
        obtain ⟨a, b, c, d⟩ := rw1_fin ok ho m _ i2 (by omega)
        refine ⟨a, b, by simp only [List.length_cons]; omega, fun j hj => ?_⟩
        rcases List.mem_cons.mp hj with rfl | hj
        · exact ⟨ch, hi, hm⟩
        · exact d j hj
end NS
/- part M1r -/
set_option maxHeartbeats 1000000
namespace NS
open PySem PySem.Spec PyProof.Rows L2 PL

theorem int_ok {j : Int} {G : Cells} : (Mis_integer [.int j] G).sat fun w G' => w = .bl true ∧ G' = G := by
  refine fun_sat rfl ?_
  show (Bis_integer [some (.int j)] G).sat _ _
  unfold Bis_integer
  have i1 : isiW G [.int j, .ty "int"] = .ok (.bl true) G := rfl
  have i2 : isiW G [.int j, .ty "bool"] = .ok (.bl false) G := rfl
  simp only [p2_c, p3_c, pT2_c, pT3_c, t_asg, t_expr, t_ret, t_if, t_nx, t_par, t_par3, g_set, g_tup2, g_tup3, g_put, s_bin, s_def, s_defK, s_call, s_cons, v_nil, s_var, v_c, s_lst, s_tup, s_test, s_tru, s_notT, s_andT, s_orT, s_and, s_or, s_not, s_if, s_neg, s_meth, s_cut, v_nopart, s_part, s_chain, s_seq, s_rng1, s_rng2, s_enum, s_zipL, s_tupR1, s_tupR2, s_yes, List.getElem?_cons_zero, List.getElem?_cons_succ, Option.some.injEq, exists_eq_left', v_ok, e_add, e_sub, e_int, e_min, e_max, e_maxU, e_lenT, e_tupT, e_lt, e_le, e_gt, e_ge, i_tup, e_cutT, List.set_cons_succ, List.set_cons_zero, List.length_cons, List.length_nil, Nat.reduceAdd, W.int.injEq, W.bl.injEq, W.ref.injEq, W.tup.injEq, W.str.injEq, reduceCtorEq, false_and, and_false, exists_false, or_false, false_or, true_and, and_true, exists_const, exists_eq_left, sz0, sz1, sz2, sz3, sz4, sz5, sz6, sz7, sz8, sz9, sz10, i1, i2]
  exact ⟨true, rfl, by rw [if_pos rfl]; exact ⟨false, rfl, rfl⟩⟩
/-- is this a row from ch on, up to an end? -/
def isr (M : Mv) : List Int → List Int → Bool
  | ch, [] => (M.js ch).isEmpty
  | ch, j :: r => if j ∈ M.js ch then isr M (M.nx ch j) r else false
theorem isr_rw1 {M : Mv} {inv : List Int → Prop} {rm : List Int → Nat} {ord : List Int} (ok : MvOk M inv rm) (ho : ∀ ch, inv ch → ∀ j ∈ M.js ch, j ∈ ord) : ∀ m ch, inv ch → rm ch ≤ m → isr M ch (rw1 M ord m ch).1 = true ∧ ((rw1 M ord m ch).1 ≠ [] → isr M ch (rw1 M ord m ch).1.dropLast = false)
  | m, ch, hi, h => by
    by_cases he : M.js ch = []
    · rw [rw1_end m he]; exact ⟨by simp [isr, he], fun z => absurd rfl z⟩
    · obtain ⟨r, _, hm⟩ := fst1_mem he (ho ch hi)
      obtain ⟨i2, h2⟩ := ok.step hi hm
      match m, h with
      | 0, h => omega
      | m + 1, h =>
        unfold rw1
        rw [if_neg he]
        obtain ⟨a, b⟩ := isr_rw1 ok ho m _ i2 (by omega)
        refine ⟨by simp only [isr, hm, if_true]; exact a, fun _ => ?_⟩
        cases hr : (rw1 M ord m (M.nx ch (fst1 ord (M.js ch)))).1 with
        | nil => simp [isr, he]
        | cons x xs =>
          rw [List.dropLast_cons_of_ne_nil (by simp), ← hr]
          simp only [isr, hm, if_true]
          exact b (by rw [hr]; simp)
theorem is_row_ok {v : Nat → Addr} {a : Addr} {F : PF} {pr : W} {M : Mv} {inv : List Int → Prop} {rm : List Int → Nat} {row ch0 : List Int} {G : Cells} (pk : PickF v a F) (mf : MovF pr M inv F) (ok : MvOk M inv rm) (h0 : inv ch0) :
    (Mis_row v [pr, .tup (row.map W.int), .tup (ch0.map W.int), .fn a] G).sat fun w G' => w = .bl (isr M ch0 row) ∧ Fr [] G G' := by
  refine fun_sat rfl ?_
  show (Bis_row v [some pr, some (.tup (row.map W.int)), some (.tup (ch0.map W.int)), some (.fn a), none, none] G).sat _ _
  unfold Bis_row
  refine so_seq ?_
  have i1 : ∀ ws : List W, isiW G [.tup ws, .ty "tuple"] = .ok (.bl true) G := fun ws => rfl
  simp only [p2_c, p3_c, pT2_c, pT3_c, t_asg, t_expr, t_ret, t_if, t_nx, t_par, t_par3, g_set, g_tup2, g_tup3, g_put, s_bin, s_def, s_defK, s_call, s_cons, v_nil, s_var, v_c, s_lst, s_tup, s_test, s_tru, s_notT, s_andT, s_orT, s_and, s_or, s_not, s_if, s_neg, s_meth, s_cut, v_nopart, s_part, s_chain, s_seq, s_rng1, s_rng2, s_enum, s_zipL, s_tupR1, s_tupR2, s_yes, List.getElem?_cons_zero, List.getElem?_cons_succ, Option.some.injEq, exists_eq_left', v_ok, e_add, e_sub, e_int, e_min, e_max, e_maxU, e_lenT, e_tupT, e_lt, e_le, e_gt, e_ge, i_tup, e_cutT, List.set_cons_succ, List.set_cons_zero, List.length_cons, List.length_nil, Nat.reduceAdd, W.int.injEq, W.bl.injEq, W.ref.injEq, W.tup.injEq, W.str.injEq, reduceCtorEq, false_and, and_false, exists_false, or_false, false_or, true_and, and_true, exists_const, exists_eq_left, sz0, sz1, sz2, sz3, sz4, sz5, sz6, sz7, sz8, sz9, sz10, i1, truW, Bool.not_true, Bool.false_eq_true, if_false]
  refine so_seq ?_
  simp only [p2_c, p3_c, pT2_c, pT3_c, t_asg, t_expr, t_ret, t_if, t_nx, t_par, t_par3, g_set, g_tup2, g_tup3, g_put]
  rw [pk rfl]
  simp only [s_bin, s_def, s_defK, s_call, s_cons, v_nil, s_var, v_c, s_lst, s_tup, s_test, s_tru, s_notT, s_andT, s_orT, s_and, s_or, s_not, s_if, s_neg, s_meth, s_cut, v_nopart, s_part, s_chain, s_seq, s_rng1, s_rng2, s_enum, s_zipL, s_tupR1, s_tupR2, s_yes, List.getElem?_cons_zero, List.getElem?_cons_succ, Option.some.injEq, exists_eq_left', v_ok, e_add, e_sub, e_int, e_min, e_max, e_maxU, e_lenT, e_tupT, e_lt, e_le, e_gt, e_ge, i_tup, e_cutT, List.set_cons_succ, List.set_cons_zero, List.length_cons, List.length_nil, Nat.reduceAdd, W.int.injEq, W.bl.injEq, W.ref.injEq, W.tup.injEq, W.str.injEq, reduceCtorEq, false_and, and_false, exists_false, or_false, false_or, true_and, and_true, exists_const, exists_eq_left, sz0, sz1, sz2, sz3, sz4, sz5, sz6, sz7, sz8, sz9, sz10]
  refine (mf h0).mono fun w G1 q => ?_
  obtain ⟨n, rfl, hn, hg, f1⟩ := q
  refine so_seq (so_forI (row.map W.int) (fun i E G2 => ∃ ch n x5, E = [some pr, some (.tup (row.map W.int)), some (.tup (ch0.map W.int)), some (.fn a), some (.ref n), x5] ∧ G2[n]? = some (.dct (fuL M ch)) ∧ inv ch ∧ isr M ch0 row = isr M ch (row.drop i) ∧ Fr [] G G2) ?_ ?_ ?_)
  · simp only [s_bin, s_def, s_defK, s_call, s_cons, v_nil, s_var, v_c, s_lst, s_tup, s_test, s_tru, s_notT, s_andT, s_orT, s_and, s_or, s_not, s_if, s_neg, s_meth, s_cut, v_nopart, s_part, s_chain, s_seq, s_rng1, s_rng2, s_enum, s_zipL, s_tupR1, s_tupR2, s_yes, List.getElem?_cons_zero, List.getElem?_cons_succ, Option.some.injEq, exists_eq_left', v_ok, e_add, e_sub, e_int, e_min, e_max, e_maxU, e_lenT, e_tupT, e_lt, e_le, e_gt, e_ge, i_tup, e_cutT, List.set_cons_succ, List.set_cons_zero, List.length_cons, List.length_nil, Nat.reduceAdd, W.int.injEq, W.bl.injEq, W.ref.injEq, W.tup.injEq, W.str.injEq, reduceCtorEq, false_and, and_false, exists_false, or_false, false_or, true_and, and_true, exists_const, exists_eq_left, sz0, sz1, sz2, sz3, sz4, sz5, sz6, sz7, sz8, sz9, sz10]
    have it := it_tup [] G1 (row.map W.int)
    exact ⟨it.len, ⟨ch0, n, none, rfl, hg, h0, rfl, f1⟩, fun i E' G' q => (it_tup [] G' (row.map W.int)).at' G' i Fr.refl⟩
  · rintro i w E G2 hw ⟨ch, n, x5, rfl, hg, hi, hd, f2⟩
    obtain ⟨j, hj, rfl⟩ := map_get hw
    obtain ⟨hil, hje⟩ := List.getElem?_eq_some_iff.mp hj
    rw [List.drop_eq_getElem_cons hil, hje] at hd
    have hin : inDW true G2 (.int j) (.ref n) = .ok (.bl (!decide (j ∈ M.js ch))) G2 := by
      unfold inDW
      simp only [hg, keyW, fuL_val]
      by_cases e : j ∈ M.js ch <;> simp [e]
    simp only [p2_c, p3_c, pT2_c, pT3_c, t_asg, t_expr, t_ret, t_if, t_nx, t_par, t_par3, g_set, g_tup2, g_tup3, g_put, s_bin, s_def, s_defK, s_call, s_cons, v_nil, s_var, v_c, s_lst, s_tup, s_test, s_tru, s_notT, s_andT, s_orT, s_and, s_or, s_not, s_if, s_neg, s_meth, s_cut, v_nopart, s_part, s_chain, s_seq, s_rng1, s_rng2, s_enum, s_zipL, s_tupR1, s_tupR2, s_yes, List.getElem?_cons_zero, List.getElem?_cons_succ, Option.some.injEq, exists_eq_left', v_ok, e_add, e_sub, e_int, e_min, e_max, e_maxU, e_lenT, e_tupT, e_lt, e_le, e_gt, e_ge, i_tup, e_cutT, List.set_cons_succ, List.set_cons_zero, List.length_cons, List.length_nil, Nat.reduceAdd, W.int.injEq, W.bl.injEq, W.ref.injEq, W.tup.injEq, W.str.injEq, reduceCtorEq, false_and, and_false, exists_false, or_false, false_or, true_and, and_true, exists_const, exists_eq_left, sz0, sz1, sz2, sz3, sz4, sz5, sz6, sz7, sz8, sz9, sz10]
    refine so_seq ?_
    simp only [p2_c, p3_c, pT2_c, pT3_c, t_asg, t_expr, t_ret, t_if, t_nx, t_par, t_par3, g_set, g_tup2, g_tup3, g_put, s_bin, s_def, s_defK, s_call, s_cons, v_nil, s_var, v_c, s_lst, s_tup, s_test, s_tru, s_notT, s_andT, s_orT, s_and, s_or, s_not, s_if, s_neg, s_meth, s_cut, v_nopart, s_part, s_chain, s_seq, s_rng1, s_rng2, s_enum, s_zipL, s_tupR1, s_tupR2, s_yes, List.getElem?_cons_zero, List.getElem?_cons_succ, Option.some.injEq, exists_eq_left', v_ok, e_add, e_sub, e_int, e_min, e_max, e_maxU, e_lenT, e_tupT, e_lt, e_le, e_gt, e_ge, i_tup, e_cutT, List.set_cons_succ, List.set_cons_zero, List.length_cons, List.length_nil, Nat.reduceAdd, W.int.injEq, W.bl.injEq, W.ref.injEq, W.tup.injEq, W.str.injEq, reduceCtorEq, false_and, and_false, exists_false, or_false, false_or, true_and, and_true, exists_const, exists_eq_left, sz0, sz1, sz2, sz3, sz4, sz5, sz6, sz7, sz8, sz9, sz10]
    refine int_ok.mono fun w G3 q => ?_
    obtain ⟨rfl, rfl⟩ := q
    by_cases e : j ∈ M.js ch
    · simp only [p2_c, p3_c, pT2_c, pT3_c, t_asg, t_expr, t_ret, t_if, t_nx, t_par, t_par3, g_set, g_tup2, g_tup3, g_put, s_bin, s_def, s_defK, s_call, s_cons, v_nil, s_var, v_c, s_lst, s_tup, s_test, s_tru, s_notT, s_andT, s_orT, s_and, s_or, s_not, s_if, s_neg, s_meth, s_cut, v_nopart, s_part, s_chain, s_seq, s_rng1, s_rng2, s_enum, s_zipL, s_tupR1, s_tupR2, s_yes, List.getElem?_cons_zero, List.getElem?_cons_succ, Option.some.injEq, exists_eq_left', v_ok, e_add, e_sub, e_int, e_min, e_max, e_maxU, e_lenT, e_tupT, e_lt, e_le, e_gt, e_ge, i_tup, e_cutT, List.set_cons_succ, List.set_cons_zero, List.length_cons, List.length_nil, Nat.reduceAdd, W.int.injEq, W.bl.injEq, W.ref.injEq, W.tup.injEq, W.str.injEq, reduceCtorEq, false_and, and_false, exists_false, or_false, false_or, true_and, and_true, exists_const, exists_eq_left, sz0, sz1, sz2, sz3, sz4, sz5, sz6, sz7, sz8, sz9, sz10, truW, hin, e, decide_true, Bool.not_true, Bool.false_eq_true, if_false]
      rw [pk rfl]
      simp only [s_bin, s_def, s_defK, s_call, s_cons, v_nil, s_var, v_c, s_lst, s_tup, s_test, s_tru, s_notT, s_andT, s_orT, s_and, s_or, s_not, s_if, s_neg, s_meth, s_cut, v_nopart, s_part, s_chain, s_seq, s_rng1, s_rng2, s_enum, s_zipL, s_tupR1, s_tupR2, s_yes, List.getElem?_cons_zero, List.getElem?_cons_succ, Option.some.injEq, exists_eq_left', v_ok, e_add, e_sub, e_int, e_min, e_max, e_maxU, e_lenT, e_tupT, e_lt, e_le, e_gt, e_ge, i_tup, e_cutT, List.set_cons_succ, List.set_cons_zero, List.length_cons, List.length_nil, Nat.reduceAdd, W.int.injEq, W.bl.injEq, W.ref.injEq, W.tup.injEq, W.str.injEq, reduceCtorEq, false_and, and_false, exists_false, or_false, false_or, true_and, and_true, exists_const, exists_eq_left, sz0, sz1, sz2, sz3, sz4, sz5, sz6, sz7, sz8, sz9, sz10, get_fur hg e]
      obtain ⟨i2, _⟩ := ok.step hi e
      refine (mf i2).mono fun w G4 q => ?_
      obtain ⟨n', rfl, hn', hg', f4⟩ := q
      exact ⟨_, n', _, rfl, hg', i2, by rw [hd]; simp only [isr, e, if_true], f2.trans f4⟩
    · simp only [p2_c, p3_c, pT2_c, pT3_c, t_asg, t_expr, t_ret, t_if, t_nx, t_par, t_par3, g_set, g_tup2, g_tup3, g_put, s_bin, s_def, s_defK, s_call, s_cons, v_nil, s_var, v_c, s_lst, s_tup, s_test, s_tru, s_notT, s_andT, s_orT, s_and, s_or, s_not, s_if, s_neg, s_meth, s_cut, v_nopart, s_part, s_chain, s_seq, s_rng1, s_rng2, s_enum, s_zipL, s_tupR1, s_tupR2, s_yes, List.getElem?_cons_zero, List.getElem?_cons_succ, Option.some.injEq, exists_eq_left', v_ok, e_add, e_sub, e_int, e_min, e_max, e_maxU, e_lenT, e_tupT, e_lt, e_le, e_gt, e_ge, i_tup, e_cutT, List.set_cons_succ, List.set_cons_zero, List.length_cons, List.length_nil, Nat.reduceAdd, W.int.injEq, W.bl.injEq, W.ref.injEq, W.tup.injEq, W.str.injEq, reduceCtorEq, false_and, and_false, exists_false, or_false, false_or, true_and, and_true, exists_const, exists_eq_left, sz0, sz1, sz2, sz3, sz4, sz5, sz6, sz7, sz8, sz9, sz10, truW, hin, e, decide_false, Bool.not_true, Bool.not_false, Bool.false_eq_true, if_false, if_true]
      exact ⟨by rw [hd]; simp only [isr, e, if_false], f2⟩
  · rintro E G2 ⟨ch, n, x5, rfl, hg, hi, hd, f2⟩
    rw [List.length_map, List.drop_length] at hd
    have hl : lenW G2 [.ref n] = .ok (.int ((M.js ch).length : Int)) G2 := by unfold lenW fuL at *; simp only [hg, List.length_map]
    simp only [p2_c, p3_c, pT2_c, pT3_c, t_asg, t_expr, t_ret, t_if, t_nx, t_par, t_par3, g_set, g_tup2, g_tup3, g_put, s_bin, s_def, s_defK, s_call, s_cons, v_nil, s_var, v_c, s_lst, s_tup, s_test, s_tru, s_notT, s_andT, s_orT, s_and, s_or, s_not, s_if, s_neg, s_meth, s_cut, v_nopart, s_part, s_chain, s_seq, s_rng1, s_rng2, s_enum, s_zipL, s_tupR1, s_tupR2, s_yes, List.getElem?_cons_zero, List.getElem?_cons_succ, Option.some.injEq, exists_eq_left', v_ok, e_add, e_sub, e_int, e_min, e_max, e_maxU, e_lenT, e_tupT, e_lt, e_le, e_gt, e_ge, i_tup, e_cutT, List.set_cons_succ, List.set_cons_zero, List.length_cons, List.length_nil, Nat.reduceAdd, W.int.injEq, W.bl.injEq, W.ref.injEq, W.tup.injEq, W.str.injEq, reduceCtorEq, false_and, and_false, exists_false, or_false, false_or, true_and, and_true, exists_const, exists_eq_left, sz0, sz1, sz2, sz3, sz4, sz5, sz6, sz7, sz8, sz9, sz10, hl, eqOp_int]
    refine ⟨?_, f2⟩
    rw [hd]
    cases h : M.js ch <;> simp [isr, h]
    omega
end NS
/- part M2 -/
set_option maxHeartbeats 1000000
namespace NS
open PySem PySem.Spec PyProof.Rows L2 PL

/-! ### choices, and growing -/
structure Chc (sk : List It) (ch : List Int) : Prop where
  up : ch.Pairwise (· < ·)
  mem : ∀ j ∈ ch, j ∈ jumpsN sk
theorem up_nd {l : List Int} (h : l.Pairwise (· < ·)) : l.Nodup := h.imp fun h => by omega
theorem Chc.len {sk : List It} {ch : List Int} (h : Chc sk ch) : ch.length ≤ (jumpsN sk).length := nodup_len (up_nd h.up) h.mem
theorem Chc.nil {sk : List It} : Chc sk [] := ⟨.nil, fun j h => by cases h⟩
theorem jumps_up {sk : List It} : (jumpsN sk).Pairwise (· < ·) := (places_lt (p := It.isJ)).1
theorem Chc.all {sk : List It} : Chc sk (jumpsN sk) := ⟨jumps_up, fun _ h => h⟩
/-- a strictly rising list is told by its members -/
theorem up_ext : ∀ {l r : List Int}, l.Pairwise (· < ·) → r.Pairwise (· < ·) → (∀ x, x ∈ l ↔ x ∈ r) → l = r := by
  intro l r hl hr h
  have p : l.Perm r := (List.perm_ext_iff_of_nodup (up_nd hl) (up_nd hr)).mpr h
  exact p.eq_of_pairwise (le := fun a b => a ≤ b) (fun a b _ _ h k => by omega) (hl.imp fun h => by omega) (hr.imp fun h => by omega)
def nxt (ch : List Int) (j : Int) : List Int := (ch ++ [j]).mergeSort leB
theorem nxt_len (ch : List Int) (j : Int) : (nxt ch j).length = ch.length + 1 := by unfold nxt; rw [List.length_mergeSort]; simp
theorem nxt_mem {ch : List Int} {i j : Int} : i ∈ nxt ch j ↔ i ∈ ch ∨ i = j := by unfold nxt; rw [List.mem_mergeSort, List.mem_append, List.mem_singleton]
theorem nxt_up {ch : List Int} {j : Int} (h : ch.Pairwise (· < ·)) (hj : j ∉ ch) : (nxt ch j).Pairwise (· < ·) := by
  have q2 : (nxt ch j).Pairwise (fun a b => leB a b = true) := List.pairwise_mergeSort (fun a b c h k => by unfold leB at *; simp at *; omega) (fun a b => by unfold leB; simp; omega) _
  have nd : (nxt ch j).Nodup := by
    unfold nxt
    rw [(List.mergeSort_perm _ _).nodup_iff, List.nodup_append]
    exact ⟨up_nd h, by simp, fun a ha b hb => by rw [List.mem_singleton.mp hb]; rintro rfl; exact hj ha⟩
  have nd' : (nxt ch j).Pairwise (fun a b => a ≠ b) := nd
  exact (q2.and nd').imp fun h => by obtain ⟨a, b⟩ := h; unfold leB at a; simp at a; omega
theorem stuckN_mem {sk : List It} {ln rs ch : List Int} {j : Int} (h : j ∈ stuckN sk ln rs ch) : j ∈ jumpsN sk ∧ j ∉ ch := by
  unfold stuckN at h
  obtain ⟨p, hp, hf⟩ := List.mem_filterMap.mp h
  unfold stF at hf
  split at hf
  · cases hf
  · rename_i hc
    split at hf
    · cases hf
      exact ⟨(List.of_mem_zip hp).1, hc⟩
    · cases hf
theorem sub_zip (f : Int × Int → Option Int) (hf : ∀ p, f p = none ∨ f p = some p.1) : ∀ (js rs : List Int), ((js.zip rs).filterMap f).Sublist js
  | [], rs => by simp
  | j :: js, [] => by simp
  | j :: js, r :: rs => by
    have ih := sub_zip f hf js rs
    rw [List.zip_cons_cons]
    rcases hf (j, r) with h | h
    · rw [List.filterMap_cons_none h]; exact ih.cons _
    · rw [List.filterMap_cons_some h]; exact ih.cons_cons _
theorem stuckN_sub {sk : List It} {ln rs ch : List Int} : (stuckN sk ln rs ch).Sublist (jumpsN sk) := by
  unfold stuckN
  refine sub_zip _ (fun p => ?_) _ _
  unfold stF
  split
  · exact .inl rfl
  · split
    · exact .inr rfl
    · exact .inl rfl
theorem stuckN_up {sk : List It} {ln rs ch : List Int} : (stuckN sk ln rs ch).Pairwise (· < ·) := jumps_up.sublist stuckN_sub
theorem stuckN_len {sk : List It} {ln rs ch : List Int} (hs : sk.length ≤ 24) : (stuckN sk ln rs ch).length ≤ 24 := by
  have := (stuckN_sub (sk := sk) (ln := ln) (rs := rs) (ch := ch)).length_le
  have := jumpsN_len (sk := sk)
  omega
def rem (sk : List It) (ch : List Int) : Nat := ((jumpsN sk).filter fun j => decide (j ∉ ch)).length
theorem rem_nxt {sk : List It} {ch : List Int} {j : Int} (h1 : j ∈ jumpsN sk) (h2 : j ∉ ch) : rem sk (nxt ch j) + 1 ≤ rem sk ch := by
  unfold rem
  generalize jumpsN sk = js at *
  have mono : ∀ l : List Int, (l.filter fun i => decide (i ∉ nxt ch j)).length ≤ (l.filter fun i => decide (i ∉ ch)).length := by
    intro l
    induction l with
    | nil => exact Nat.le_refl _
    | cons x xs ih =>
      rw [List.filter_cons, List.filter_cons]
      by_cases e : x ∈ ch
      · have : x ∈ nxt ch j := nxt_mem.mpr (.inl e)
        simp [e, this]; simpa using ih
      · by_cases e2 : x ∈ nxt ch j
        · simp [e, e2]; have := ih; simp at this; omega
        · simp [e, e2]; simpa using ih
  induction js with
  | nil => cases h1
  | cons x xs ih =>
    rw [List.filter_cons, List.filter_cons]
    by_cases e : x = j
    · subst e
      have q : x ∈ nxt ch x := nxt_mem.mpr (.inr rfl)
      have := mono xs
      simp only [q, h2, not_true_eq_false, not_false_eq_true, decide_false, decide_true, Bool.false_eq_true, if_false, if_true, List.length_cons]
      omega
    · have hx : j ∈ xs := by rcases List.mem_cons.mp h1 with h | h; exact absurd h.symm e; exact h
      have := ih hx
      by_cases e1 : x ∈ ch
      · have q : x ∈ nxt ch j := nxt_mem.mpr (.inl e1)
        simp only [q, e1, not_true_eq_false, decide_false, Bool.false_eq_true, if_false]
        exact this
      · have q : x ∉ nxt ch j := fun z => (nxt_mem.mp z).elim e1 e
        simp only [q, e1, not_false_eq_true, decide_true, if_true, List.length_cons]
        omega
theorem rem_le {sk : List It} {ch : List Int} (hs : sk.length ≤ 24) : rem sk ch ≤ 24 := by
  have h1 := List.length_filter_le (fun j => decide (j ∉ ch)) (jumpsN sk)
  have h2 := jumpsN_len (sk := sk)
  unfold rem; omega
def growM (sk : List It) (ln rs : List Int) : Mv := ⟨stuckN sk ln rs, nxt⟩
theorem growOk {sk : List It} {ln rs : List Int} (hs : sk.length ≤ 24) : MvOk (growM sk ln rs) (Chc sk) (rem sk) := by
  have h2 := jumpsN_len (sk := sk)
  refine ⟨fun _ => rem_le hs, fun h => by have := h.len; omega, fun _ => stuckN_len hs, fun _ => up_nd stuckN_up, fun {ch j} h hj => ?_⟩
  obtain ⟨a, b⟩ := stuckN_mem hj
  refine ⟨⟨nxt_up h.up b, fun i hi => ?_⟩, rem_nxt a b⟩
  rcases nxt_mem.mp hi with z | z
  · exact h.mem i z
  · rw [z]; exact a
def fuF (nx : Int → List Int) : W → Option (Key × W)
  | .int j => some (.inl j, .tup ((nx j).map W.int))
  | _ => none
theorem fuF_map (nx : Int → List Int) (js : List Int) : (js.map W.int).filterMap (fuF nx) = js.map fun j => (.inl j, .tup ((nx j).map W.int)) := by
  induction js with
  | nil => rfl
  | cons x xs ih => simp [List.filterMap_cons, fuF, ih]
/-- order has all jumps -/
def Ord (sk : List It) (ord : List Int) : Prop := (∀ j ∈ jumpsN sk, j ∈ ord) ∧ ord.length ≤ 24
theorem Ord.grow {sk : List It} {ln rs ord : List Int} (h : Ord sk ord) : ∀ ch, Chc sk ch → ∀ j ∈ (growM sk ln rs).js ch, j ∈ ord := fun ch _ j hj => h.1 j (stuckN_mem hj).1
theorem ne_nilT {G : Cells} (ds : List Int) : neOp G (.tup (ds.map W.int)) (.tup []) = .ok (.bl (!ds.isEmpty)) G := by
  have e1 := dat_tints G ds
  have e2 := dat_tints G []
  have q : neOp G (.tup (ds.map W.int)) (.tup []) = (match dat G 60 (.tup (ds.map W.int)), dat G 60 (.tup ([].map W.int)) with
    | some d, some e => if SeqAt.shaped d && SeqAt.shaped e then .ok (.bl (!PyData.eqv d e)) G else .no
    | _, _ => .no) := rfl
  rw [q, e1, e2]
  simp only [shaped_tints, Bool.and_self, if_true]
  cases ds <;> simp [PyData.eqv, PyData.eqvAll]
theorem eq_nilT {G : Cells} (ds : List Int) : eqOp G (.tup (ds.map W.int)) (.tup []) = .ok (.bl ds.isEmpty) G := by
  have e1 := dat_tints G ds
  have e2 := dat_tints G []
  have q : eqOp G (.tup (ds.map W.int)) (.tup []) = (match eqW G (.tup (ds.map W.int)) (.tup ([].map W.int)) with | some b => .ok (.bl b) G | none => .no) := rfl
  rw [q]
  unfold eqW
  rw [e1, e2]
  simp only [shaped_tints]
  cases ds <;> simp [PyData.eqv, PyData.eqvAll]
theorem ord_of {sk : List It} {o : List Int} (h24 : sk.length ≤ 24) (h : o.length = (jumpsN sk).length ∧ ∀ x ∈ jumpsN sk, x ∈ o) : Ord sk o := by
  have jl := jumpsN_len (sk := sk)
  exact ⟨h.2, by omega⟩
end NS
/- part M2l -/
set_option maxHeartbeats 1000000
namespace NS
open PySem PySem.Spec PyProof.Rows L2 PL

theorem longer_ok {sk : List It} {ln rs ch : List Int} {G : Cells} (P : Prg sk ln rs) (hc : Chc sk ch) :
    (M_longer [prW sk ln rs, .tup (ch.map W.int)] G).sat (FuQ (growM sk ln rs) ch G) := by
  have h24 := P.hsk.len2
  have hsl := stuckN_len (ln := ln) (rs := rs) (ch := ch) h24
  have hcl := (growOk (ln := ln) (rs := rs) h24).len hc
  refine fun_sat rfl ?_
  show (B_longer [some (prW sk ln rs), some (.tup (ch.map W.int)), none] G).sat _ _
  unfold B_longer
  simp only [p2_c, p3_c, pT2_c, pT3_c, t_asg, t_expr, t_ret, t_if, t_nx, t_par, t_par3, g_set, g_tup2, g_tup3, g_put]
  refine dc_pure ((stuckN sk ln rs ch).map W.int) (fuF (nxt ch)) ?_ (by simp; omega) ?_ ?_
  · simp only [s_bin, s_def, s_defK, s_call, s_cons, v_nil, s_var, v_c, s_lst, s_tup, s_test, s_tru, s_notT, s_andT, s_orT, s_and, s_or, s_not, s_if, s_neg, s_meth, s_cut, v_nopart, s_part, s_chain, s_seq, s_rng1, s_rng2, s_enum, s_zipL, s_tupR1, s_tupR2, s_yes, List.getElem?_cons_zero, List.getElem?_cons_succ, Option.some.injEq, exists_eq_left', v_ok, e_add, e_sub, e_int, e_min, e_max, e_maxU, e_lenT, e_tupT, e_lt, e_le, e_gt, e_ge, i_tup, e_cutT, List.set_cons_succ, List.set_cons_zero, List.length_cons, List.length_nil, Nat.reduceAdd, W.int.injEq, W.bl.injEq, W.ref.injEq, W.tup.injEq, W.str.injEq, reduceCtorEq, false_and, and_false, exists_false, or_false, false_or, true_and, and_true, exists_const, exists_eq_left, sz0, sz1, sz2, sz3, sz4, sz5, sz6, sz7, sz8, sz9, sz10]
    refine (stuck_ok P.hsk P.hln.len P.hrs .tup).mono fun w G1 q => ?_
    obtain ⟨rfl, f1⟩ := q
    simp only [s_bin, s_def, s_defK, s_call, s_cons, v_nil, s_var, v_c, s_lst, s_tup, s_test, s_tru, s_notT, s_andT, s_orT, s_and, s_or, s_not, s_if, s_neg, s_meth, s_cut, v_nopart, s_part, s_chain, s_seq, s_rng1, s_rng2, s_enum, s_zipL, s_tupR1, s_tupR2, s_yes, List.getElem?_cons_zero, List.getElem?_cons_succ, Option.some.injEq, exists_eq_left', v_ok, e_add, e_sub, e_int, e_min, e_max, e_maxU, e_lenT, e_tupT, e_lt, e_le, e_gt, e_ge, i_tup, e_cutT, List.set_cons_succ, List.set_cons_zero, List.length_cons, List.length_nil, Nat.reduceAdd, W.int.injEq, W.bl.injEq, W.ref.injEq, W.tup.injEq, W.str.injEq, reduceCtorEq, false_and, and_false, exists_false, or_false, false_or, true_and, and_true, exists_const, exists_eq_left, sz0, sz1, sz2, sz3, sz4, sz5, sz6, sz7, sz8, sz9, sz10]
    exact ⟨f1, it_tup _ _ _⟩
  · intro i w G' hw _
    obtain ⟨j, hj, rfl⟩ := map_get hw
    simp only [wipeE, p2_c, p3_c, pT2_c, pT3_c, t_asg, t_expr, t_ret, t_if, t_nx, t_par, t_par3, g_set, g_tup2, g_tup3, g_put, s_bin, s_def, s_defK, s_call, s_cons, v_nil, s_var, v_c, s_lst, s_tup, s_test, s_tru, s_notT, s_andT, s_orT, s_and, s_or, s_not, s_if, s_neg, s_meth, s_cut, v_nopart, s_part, s_chain, s_seq, s_rng1, s_rng2, s_enum, s_zipL, s_tupR1, s_tupR2, s_yes, List.getElem?_cons_zero, List.getElem?_cons_succ, Option.some.injEq, exists_eq_left', v_ok, e_add, e_sub, e_int, e_min, e_max, e_maxU, e_lenT, e_tupT, e_lt, e_le, e_gt, e_ge, i_tup, e_cutT, List.set_cons_succ, List.set_cons_zero, List.length_cons, List.length_nil, Nat.reduceAdd, W.int.injEq, W.bl.injEq, W.ref.injEq, W.tup.injEq, W.str.injEq, reduceCtorEq, false_and, and_false, exists_false, or_false, false_or, true_and, and_true, exists_const, exists_eq_left, sz0, sz1, sz2, sz3, sz4, sz5, sz6, sz7, sz8, sz9, sz10, if_true]
    rw [e_addT (by simp; omega)]
    have e : ch.map W.int ++ [W.int j] = (ch ++ [j]).map W.int := by simp
    have hs : sortedTW G' [.tup ((ch ++ [j]).map W.int)] = .ok (.ref G'.length) (G' ++ [.lst (((ch ++ [j]).mergeSort leB).map W.int)]) := by
      unfold sortedTW
      simp only [intsW_map]
      rw [if_pos (by simp; omega)]
    rw [e]
    simp only [s_bin, s_def, s_defK, s_call, s_cons, v_nil, s_var, v_c, s_lst, s_tup, s_test, s_tru, s_notT, s_andT, s_orT, s_and, s_or, s_not, s_if, s_neg, s_meth, s_cut, v_nopart, s_part, s_chain, s_seq, s_rng1, s_rng2, s_enum, s_zipL, s_tupR1, s_tupR2, s_yes, List.getElem?_cons_zero, List.getElem?_cons_succ, Option.some.injEq, exists_eq_left', v_ok, e_add, e_sub, e_int, e_min, e_max, e_maxU, e_lenT, e_tupT, e_lt, e_le, e_gt, e_ge, i_tup, e_cutT, List.set_cons_succ, List.set_cons_zero, List.length_cons, List.length_nil, Nat.reduceAdd, W.int.injEq, W.bl.injEq, W.ref.injEq, W.tup.injEq, W.str.injEq, reduceCtorEq, false_and, and_false, exists_false, or_false, false_or, true_and, and_true, exists_const, exists_eq_left, sz0, sz1, sz2, sz3, sz4, sz5, sz6, sz7, sz8, sz9, sz10, hs]
    rw [e_tupL (push_get _ _)]
    exact ⟨⟨.inl j, rfl, rfl⟩, Fr.push⟩
  · intro n G' f hn hg
    have nd := fuL_keys (M := growM sk ln rs) (ch := ch) (up_nd stuckN_up)
    rw [fuF_map] at hg
    rw [show ((stuckN sk ln rs ch).map fun j => ((.inl j : Key), W.tup ((nxt ch j).map W.int))) = fuL (growM sk ln rs) ch from rfl, mergeW_nil nd] at hg
    exact ⟨n, rfl, hn, hg, f⟩
theorem growF {sk : List It} {ln rs : List Int} (P : Prg sk ln rs) : MovF (prW sk ln rs) (growM sk ln rs) (Chc sk) M_longer := fun h => longer_ok P h
end NS
/- part M3 -/
set_option maxHeartbeats 1000000
namespace NS
open PySem PySem.Spec PyProof.Rows L2 PL

/-! ### shrinking -/
abbrev noI (ch : List Int) (j : Int) : List Int := ch.filter fun c => decide (c ≠ j)
theorem Chc.noI {sk : List It} {ch : List Int} (h : Chc sk ch) (j : Int) : Chc sk (noI ch j) := ⟨h.up.sublist List.filter_sublist, fun i hi => h.mem i (List.mem_filter.mp hi).1⟩
theorem noI_mem {ch : List Int} {i j : Int} : i ∈ noI ch j ↔ i ∈ ch ∧ i ≠ j := by simp [noI]
theorem noI_len {ch : List Int} {j : Int} (h : j ∈ ch) : (noI ch j).length + 1 ≤ ch.length := by
  induction ch with
  | nil => cases h
  | cons x xs ih =>
    have hf : (noI xs j).length ≤ xs.length := List.length_filter_le ..
    by_cases e : x = j
    · have : noI (x :: xs) j = noI xs j := by unfold noI; rw [List.filter_cons_of_neg (by simp [e])]
      rw [this, List.length_cons]; omega
    · have hx : j ∈ xs := by rcases List.mem_cons.mp h with h | h; exact absurd h.symm e; exact h
      have := ih hx
      have e2 : noI (x :: xs) j = x :: noI xs j := by unfold noI; rw [List.filter_cons_of_pos (by simp [e])]
      rw [e2, List.length_cons, List.length_cons]; omega
def shrJ (sk : List It) (ln rs ch : List Int) : List Int := ch.filter fun j => decide (stuckN sk ln rs (noI ch j) = [])
def shrM (sk : List It) (ln rs : List Int) : Mv := ⟨shrJ sk ln rs, noI⟩
theorem shrJ_mem {sk : List It} {ln rs ch : List Int} {j : Int} : j ∈ shrJ sk ln rs ch ↔ j ∈ ch ∧ stuckN sk ln rs (noI ch j) = [] := by simp [shrJ]
theorem shrOk {sk : List It} {ln rs : List Int} (hs : sk.length ≤ 24) : MvOk (shrM sk ln rs) (Chc sk) List.length := by
  have h2 := jumpsN_len (sk := sk)
  have hl : ∀ {ch}, Chc sk ch → ch.length ≤ 24 := fun h => by have := h.len; omega
  refine ⟨hl, hl, fun h => Nat.le_trans (List.length_filter_le ..) (hl h), fun h => (up_nd h.up).sublist List.filter_sublist, fun {ch j} h hj => ⟨h.noI j, noI_len (shrJ_mem.mp hj).1⟩⟩
def shF (sk : List It) (ln rs : List Int) : W → Option (Key × W)
  | .tup [.int j, .tup ws] => (match intsW ws with | some c => if stuckN sk ln rs c = [] then some (.inl j, .tup ws) else none | none => none)
  | _ => none
theorem shF_map {sk : List It} {ln rs ch : List Int} (js : List Int) : (vwI (js.map fun j => ((.inl j : Key), W.tup ((noI ch j).map W.int)))).filterMap (shF sk ln rs) = (js.filter fun j => decide (stuckN sk ln rs (noI ch j) = [])).map fun j => ((.inl j : Key), W.tup ((noI ch j).map W.int)) := by
  induction js with
  | nil => rfl
  | cons x xs ih =>
    have e : vwI ((x :: xs).map fun j => ((.inl j : Key), W.tup ((noI ch j).map W.int))) = W.tup [.int x, .tup ((noI ch x).map W.int)] :: vwI (xs.map fun j => ((.inl j : Key), W.tup ((noI ch j).map W.int))) := rfl
    rw [e, List.filterMap_cons, ih]
    simp only [shF, intsW_map]
    by_cases h : stuckN sk ln rs (noI ch x) = []
    · rw [List.filter_cons_of_pos (by simp [h])]; simp [h]
    · rw [List.filter_cons_of_neg (by simp [h])]; simp [h]
theorem shorter_ok {sk : List It} {ln rs ch : List Int} {G : Cells} (P : Prg sk ln rs) (hc : Chc sk ch) :
    (M_shorter [prW sk ln rs, .tup (ch.map W.int)] G).sat (FuQ (shrM sk ln rs) ch G) := by
  have h24 := P.hsk.len2
  have hcl := (shrOk (ln := ln) (rs := rs) h24).len hc
  refine fun_sat rfl ?_
  show (B_shorter [some (prW sk ln rs), some (.tup (ch.map W.int)), none, none, none, none] G).sat _ _
  unfold B_shorter
  refine so_seq ?_
  simp only [p2_c, p3_c, pT2_c, pT3_c, t_asg, t_expr, t_ret, t_if, t_nx, t_par, t_par3, g_set, g_tup2, g_tup3, g_put]
  refine dc_pure (ch.map W.int) (fuF (noI ch)) ?_ (by simp; omega) ?_ ?_
  · simp only [s_bin, s_def, s_defK, s_call, s_cons, v_nil, s_var, v_c, s_lst, s_tup, s_test, s_tru, s_notT, s_andT, s_orT, s_and, s_or, s_not, s_if, s_neg, s_meth, s_cut, v_nopart, s_part, s_chain, s_seq, s_rng1, s_rng2, s_enum, s_zipL, s_tupR1, s_tupR2, s_yes, List.getElem?_cons_zero, List.getElem?_cons_succ, Option.some.injEq, exists_eq_left', v_ok, e_add, e_sub, e_int, e_min, e_max, e_maxU, e_lenT, e_tupT, e_lt, e_le, e_gt, e_ge, i_tup, e_cutT, List.set_cons_succ, List.set_cons_zero, List.length_cons, List.length_nil, Nat.reduceAdd, W.int.injEq, W.bl.injEq, W.ref.injEq, W.tup.injEq, W.str.injEq, reduceCtorEq, false_and, and_false, exists_false, or_false, false_or, true_and, and_true, exists_const, exists_eq_left, sz0, sz1, sz2, sz3, sz4, sz5, sz6, sz7, sz8, sz9, sz10]
    exact ⟨Fr.refl, it_tup _ _ _⟩
  · intro i w G' hw _
    obtain ⟨j, hj, rfl⟩ := map_get hw
    simp only [wipeE, p2_c, p3_c, pT2_c, pT3_c, t_asg, t_expr, t_ret, t_if, t_nx, t_par, t_par3, g_set, g_tup2, g_tup3, g_put, s_bin, s_def, s_defK, s_call, s_cons, v_nil, s_var, v_c, s_lst, s_tup, s_test, s_tru, s_notT, s_andT, s_orT, s_and, s_or, s_not, s_if, s_neg, s_meth, s_cut, v_nopart, s_part, s_chain, s_seq, s_rng1, s_rng2, s_enum, s_zipL, s_tupR1, s_tupR2, s_yes, List.getElem?_cons_zero, List.getElem?_cons_succ, Option.some.injEq, exists_eq_left', v_ok, e_add, e_sub, e_int, e_min, e_max, e_maxU, e_lenT, e_tupT, e_lt, e_le, e_gt, e_ge, i_tup, e_cutT, List.set_cons_succ, List.set_cons_zero, List.length_cons, List.length_nil, Nat.reduceAdd, W.int.injEq, W.bl.injEq, W.ref.injEq, W.tup.injEq, W.str.injEq, reduceCtorEq, false_and, and_false, exists_false, or_false, false_or, true_and, and_true, exists_const, exists_eq_left, sz0, sz1, sz2, sz3, sz4, sz5, sz6, sz7, sz8, sz9, sz10, if_true]
    refine ne_lc (ch := ch) (k := 4) (k' := 3) (j := j) (by omega) (by simp only [s_bin, s_def, s_defK, s_call, s_cons, v_nil, s_var, v_c, s_lst, s_tup, s_test, s_tru, s_notT, s_andT, s_orT, s_and, s_or, s_not, s_if, s_neg, s_meth, s_cut, v_nopart, s_part, s_chain, s_seq, s_rng1, s_rng2, s_enum, s_zipL, s_tupR1, s_tupR2, s_yes, List.getElem?_cons_zero, List.getElem?_cons_succ, Option.some.injEq, exists_eq_left', v_ok, e_add, e_sub, e_int, e_min, e_max, e_maxU, e_lenT, e_tupT, e_lt, e_le, e_gt, e_ge, i_tup, e_cutT, List.set_cons_succ, List.set_cons_zero, List.length_cons, List.length_nil, Nat.reduceAdd, W.int.injEq, W.bl.injEq, W.ref.injEq, W.tup.injEq, W.str.injEq, reduceCtorEq, false_and, and_false, exists_false, or_false, false_or, true_and, and_true, exists_const, exists_eq_left, sz0, sz1, sz2, sz3, sz4, sz5, sz6, sz7, sz8, sz9, sz10]; exact ⟨Fr.refl, it_tup _ _ _⟩) (fun w => rfl) (fun w => rfl) fun n G2 f2 hn hg => ?_
    rw [e_tupL hg]
    exact ⟨⟨.inl j, rfl, rfl⟩, f2⟩
  intro n G1 f1 hn hg
  have nd : ((ch.map fun j => ((.inl j : Key), W.tup ((noI ch j).map W.int))).map (·.1)).Nodup := by
    rw [List.map_map]
    exact List.Pairwise.map _ (fun a b h e => h (Sum.inl.inj e)) (up_nd hc.up)
  rw [fuF_map, mergeW_nil nd] at hg
  simp only [p2_c, p3_c, pT2_c, pT3_c, t_asg, t_expr, t_ret, t_if, t_nx, t_par, t_par3, g_set, g_tup2, g_tup3, g_put, s_bin, s_def, s_defK, s_call, s_cons, v_nil, s_var, v_c, s_lst, s_tup, s_test, s_tru, s_notT, s_andT, s_orT, s_and, s_or, s_not, s_if, s_neg, s_meth, s_cut, v_nopart, s_part, s_chain, s_seq, s_rng1, s_rng2, s_enum, s_zipL, s_tupR1, s_tupR2, s_yes, List.getElem?_cons_zero, List.getElem?_cons_succ, Option.some.injEq, exists_eq_left', v_ok, e_add, e_sub, e_int, e_min, e_max, e_maxU, e_lenT, e_tupT, e_lt, e_le, e_gt, e_ge, i_tup, e_cutT, List.set_cons_succ, List.set_cons_zero, List.length_cons, List.length_nil, Nat.reduceAdd, W.int.injEq, W.bl.injEq, W.ref.injEq, W.tup.injEq, W.str.injEq, reduceCtorEq, false_and, and_false, exists_false, or_false, false_or, true_and, and_true, exists_const, exists_eq_left, sz0, sz1, sz2, sz3, sz4, sz5, sz6, sz7, sz8, sz9, sz10]
  refine dcD_pure (i := 2) rfl hg (shF sk ln rs) (by unfold vwI; simp; omega) ?_ ?_
  · intro i w G' hw fr hlk
    obtain ⟨p, hp, rfl⟩ := map_get hw
    obtain ⟨j, hj, rfl⟩ := map_get hp
    simp only [wipeE, p2_c, p3_c, pT2_c, pT3_c, t_asg, t_expr, t_ret, t_if, t_nx, t_par, t_par3, g_set, g_tup2, g_tup3, g_put, s_bin, s_def, s_defK, s_call, s_cons, v_nil, s_var, v_c, s_lst, s_tup, s_test, s_tru, s_notT, s_andT, s_orT, s_and, s_or, s_not, s_if, s_neg, s_meth, s_cut, v_nopart, s_part, s_chain, s_seq, s_rng1, s_rng2, s_enum, s_zipL, s_tupR1, s_tupR2, s_yes, List.getElem?_cons_zero, List.getElem?_cons_succ, Option.some.injEq, exists_eq_left', v_ok, e_add, e_sub, e_int, e_min, e_max, e_maxU, e_lenT, e_tupT, e_lt, e_le, e_gt, e_ge, i_tup, e_cutT, List.set_cons_succ, List.set_cons_zero, List.length_cons, List.length_nil, Nat.reduceAdd, W.int.injEq, W.bl.injEq, W.ref.injEq, W.tup.injEq, W.str.injEq, reduceCtorEq, false_and, and_false, exists_false, or_false, false_or, true_and, and_true, exists_const, exists_eq_left, sz0, sz1, sz2, sz3, sz4, sz5, sz6, sz7, sz8, sz9, sz10, kW]
    refine (serves_ok P.hsk P.hln.len P.hrs .tup).mono fun w G2 q => ?_
    obtain ⟨rfl, f2⟩ := q
    simp only [truW, Option.some.injEq, exists_eq_left', shF, intsW_map, s_bin, s_def, s_defK, s_call, s_cons, v_nil, s_var, v_c, s_lst, s_tup, s_test, s_tru, s_notT, s_andT, s_orT, s_and, s_or, s_not, s_if, s_neg, s_meth, s_cut, v_nopart, s_part, s_chain, s_seq, s_rng1, s_rng2, s_enum, s_zipL, s_tupR1, s_tupR2, s_yes, List.getElem?_cons_zero, List.getElem?_cons_succ, Option.some.injEq, exists_eq_left', v_ok, e_add, e_sub, e_int, e_min, e_max, e_maxU, e_lenT, e_tupT, e_lt, e_le, e_gt, e_ge, i_tup, e_cutT, List.set_cons_succ, List.set_cons_zero, List.length_cons, List.length_nil, Nat.reduceAdd, W.int.injEq, W.bl.injEq, W.ref.injEq, W.tup.injEq, W.str.injEq, reduceCtorEq, false_and, and_false, exists_false, or_false, false_or, true_and, and_true, exists_const, exists_eq_left, sz0, sz1, sz2, sz3, sz4, sz5, sz6, sz7, sz8, sz9, sz10]
    by_cases h : stuckN sk ln rs (noI ch j) = []
    · simp [h, keyW]; exact f2
    · simp [h]; exact f2
  · intro m G' f hm hgm
    rw [shF_map] at hgm
    have e : ((ch.filter fun j => decide (stuckN sk ln rs (noI ch j) = [])).map fun j => ((.inl j : Key), W.tup ((noI ch j).map W.int))) = fuL (shrM sk ln rs) ch := rfl
    rw [e, mergeW_nil (fuL_keys ((shrOk (ln := ln) (rs := rs) h24).nd hc))] at hgm
    exact ⟨m, rfl, by have := f1.1; omega, hgm, f1.trans f⟩
theorem shrF {sk : List It} {ln rs : List Int} (P : Prg sk ln rs) : MovF (prW sk ln rs) (shrM sk ln rs) (Chc sk) M_shorter := fun h => shorter_ok P h
theorem Ord.shr {sk : List It} {ln rs ord : List Int} (h : Ord sk ord) : ∀ ch, Chc sk ch → ∀ j ∈ (shrM sk ln rs).js ch, j ∈ ord := fun ch hc j hj => h.1 j (hc.mem j (shrJ_mem.mp hj).1)
theorem leaves_ok {sk : List It} {ln rs ch : List Int} {G : Cells} (P : Prg sk ln rs) (hc : Chc sk ch) :
    (M_law_leaves [prW sk ln rs, .tup (ch.map W.int)] G).sat fun w G' => ∃ n, w = .ref n ∧ G.length ≤ n ∧ G'[n]? = some (.lst ((shrJ sk ln rs ch).map W.int)) ∧ Fr [] G G' := by
  have h24 := P.hsk.len2
  have hcl := (shrOk (ln := ln) (rs := rs) h24).len hc
  refine fun_sat rfl ?_
  show (B_law_leaves [some (prW sk ln rs), some (.tup (ch.map W.int)), none, none, none] G).sat _ _
  unfold B_law_leaves
  refine so_seq ?_
  simp only [p2_c, p3_c, pT2_c, pT3_c, t_asg, t_expr, t_ret, t_if, t_nx, t_par, t_par3, g_set, g_tup2, g_tup3, g_put, s_bin, s_def, s_defK, s_call, s_cons, v_nil, s_var, v_c, s_lst, s_tup, s_test, s_tru, s_notT, s_andT, s_orT, s_and, s_or, s_not, s_if, s_neg, s_meth, s_cut, v_nopart, s_part, s_chain, s_seq, s_rng1, s_rng2, s_enum, s_zipL, s_tupR1, s_tupR2, s_yes, List.getElem?_cons_zero, List.getElem?_cons_succ, Option.some.injEq, exists_eq_left', v_ok, e_add, e_sub, e_int, e_min, e_max, e_maxU, e_lenT, e_tupT, e_lt, e_le, e_gt, e_ge, i_tup, e_cutT, List.set_cons_succ, List.set_cons_zero, List.length_cons, List.length_nil, Nat.reduceAdd, W.int.injEq, W.bl.injEq, W.ref.injEq, W.tup.injEq, W.str.injEq, reduceCtorEq, false_and, and_false, exists_false, or_false, false_or, true_and, and_true, exists_const, exists_eq_left, sz0, sz1, sz2, sz3, sz4, sz5, sz6, sz7, sz8, sz9, sz10]
  have h0 := push_get G (.lst [])
  refine so_seq (so_forI (ch.map W.int) (fun i E G2 => ∃ x3 x4, E = [some (prW sk ln rs), some (.tup (ch.map W.int)), some (.ref G.length), x3, x4] ∧ G2[G.length]? = some (.lst (((ch.take i).filter fun j => decide (stuckN sk ln rs (noI ch j) = [])).map W.int)) ∧ Fr [] G G2) ?_ ?_ ?_)
  · simp only [s_bin, s_def, s_defK, s_call, s_cons, v_nil, s_var, v_c, s_lst, s_tup, s_test, s_tru, s_notT, s_andT, s_orT, s_and, s_or, s_not, s_if, s_neg, s_meth, s_cut, v_nopart, s_part, s_chain, s_seq, s_rng1, s_rng2, s_enum, s_zipL, s_tupR1, s_tupR2, s_yes, List.getElem?_cons_zero, List.getElem?_cons_succ, Option.some.injEq, exists_eq_left', v_ok, e_add, e_sub, e_int, e_min, e_max, e_maxU, e_lenT, e_tupT, e_lt, e_le, e_gt, e_ge, i_tup, e_cutT, List.set_cons_succ, List.set_cons_zero, List.length_cons, List.length_nil, Nat.reduceAdd, W.int.injEq, W.bl.injEq, W.ref.injEq, W.tup.injEq, W.str.injEq, reduceCtorEq, false_and, and_false, exists_false, or_false, false_or, true_and, and_true, exists_const, exists_eq_left, sz0, sz1, sz2, sz3, sz4, sz5, sz6, sz7, sz8, sz9, sz10]
    have it := it_tup [] (G ++ [Cell.lst []]) (ch.map W.int)
    exact ⟨it.len, ⟨none, none, rfl, h0, Fr.push⟩, fun i E' G' q => (it_tup [] G' (ch.map W.int)).at' G' i Fr.refl⟩
  · rintro i w E G2 hw ⟨x3, x4, rfl, hg, f2⟩
    obtain ⟨j, hj, rfl⟩ := map_get hw
    simp only [p2_c, p3_c, pT2_c, pT3_c, t_asg, t_expr, t_ret, t_if, t_nx, t_par, t_par3, g_set, g_tup2, g_tup3, g_put, s_bin, s_def, s_defK, s_call, s_cons, v_nil, s_var, v_c, s_lst, s_tup, s_test, s_tru, s_notT, s_andT, s_orT, s_and, s_or, s_not, s_if, s_neg, s_meth, s_cut, v_nopart, s_part, s_chain, s_seq, s_rng1, s_rng2, s_enum, s_zipL, s_tupR1, s_tupR2, s_yes, List.getElem?_cons_zero, List.getElem?_cons_succ, Option.some.injEq, exists_eq_left', v_ok, e_add, e_sub, e_int, e_min, e_max, e_maxU, e_lenT, e_tupT, e_lt, e_le, e_gt, e_ge, i_tup, e_cutT, List.set_cons_succ, List.set_cons_zero, List.length_cons, List.length_nil, Nat.reduceAdd, W.int.injEq, W.bl.injEq, W.ref.injEq, W.tup.injEq, W.str.injEq, reduceCtorEq, false_and, and_false, exists_false, or_false, false_or, true_and, and_true, exists_const, exists_eq_left, sz0, sz1, sz2, sz3, sz4, sz5, sz6, sz7, sz8, sz9, sz10]
    refine ne_lc (ch := ch) (k := 4) (k' := 3) (j := j) (by omega) (by simp only [s_bin, s_def, s_defK, s_call, s_cons, v_nil, s_var, v_c, s_lst, s_tup, s_test, s_tru, s_notT, s_andT, s_orT, s_and, s_or, s_not, s_if, s_neg, s_meth, s_cut, v_nopart, s_part, s_chain, s_seq, s_rng1, s_rng2, s_enum, s_zipL, s_tupR1, s_tupR2, s_yes, List.getElem?_cons_zero, List.getElem?_cons_succ, Option.some.injEq, exists_eq_left', v_ok, e_add, e_sub, e_int, e_min, e_max, e_maxU, e_lenT, e_tupT, e_lt, e_le, e_gt, e_ge, i_tup, e_cutT, List.set_cons_succ, List.set_cons_zero, List.length_cons, List.length_nil, Nat.reduceAdd, W.int.injEq, W.bl.injEq, W.ref.injEq, W.tup.injEq, W.str.injEq, reduceCtorEq, false_and, and_false, exists_false, or_false, false_or, true_and, and_true, exists_const, exists_eq_left, sz0, sz1, sz2, sz3, sz4, sz5, sz6, sz7, sz8, sz9, sz10]; exact ⟨Fr.refl, it_tup _ _ _⟩) (fun w => rfl) (fun w => rfl) fun n G3 f3 hn hg3 => ?_
    rw [e_tupL hg3]
    simp only [s_bin, s_def, s_defK, s_call, s_cons, v_nil, s_var, v_c, s_lst, s_tup, s_test, s_tru, s_notT, s_andT, s_orT, s_and, s_or, s_not, s_if, s_neg, s_meth, s_cut, v_nopart, s_part, s_chain, s_seq, s_rng1, s_rng2, s_enum, s_zipL, s_tupR1, s_tupR2, s_yes, List.getElem?_cons_zero, List.getElem?_cons_succ, Option.some.injEq, exists_eq_left', v_ok, e_add, e_sub, e_int, e_min, e_max, e_maxU, e_lenT, e_tupT, e_lt, e_le, e_gt, e_ge, i_tup, e_cutT, List.set_cons_succ, List.set_cons_zero, List.length_cons, List.length_nil, Nat.reduceAdd, W.int.injEq, W.bl.injEq, W.ref.injEq, W.tup.injEq, W.str.injEq, reduceCtorEq, false_and, and_false, exists_false, or_false, false_or, true_and, and_true, exists_const, exists_eq_left, sz0, sz1, sz2, sz3, sz4, sz5, sz6, sz7, sz8, sz9, sz10]
    refine (held_ok (ch := noI ch j) P.hsk P.hln.len P.hrs (by have := List.length_filter_le (fun c => decide (c ≠ j)) ch; show (noI ch j).length ≤ 1000; unfold noI; omega)).mono fun w G4 q => ?_
    obtain ⟨rfl, f4⟩ := q
    have hg4 := (f3.trans f4).get hg (by simp)
    have hlen : ((ch.take i).filter fun j => decide (stuckN sk ln rs (noI ch j) = [])).length ≤ 24 := Nat.le_trans (List.length_filter_le ..) (by simp; omega)
    simp only [s_bin, s_def, s_defK, s_call, s_cons, v_nil, s_var, v_c, s_lst, s_tup, s_test, s_tru, s_notT, s_andT, s_orT, s_and, s_or, s_not, s_if, s_neg, s_meth, s_cut, v_nopart, s_part, s_chain, s_seq, s_rng1, s_rng2, s_enum, s_zipL, s_tupR1, s_tupR2, s_yes, List.getElem?_cons_zero, List.getElem?_cons_succ, Option.some.injEq, exists_eq_left', v_ok, e_add, e_sub, e_int, e_min, e_max, e_maxU, e_lenT, e_tupT, e_lt, e_le, e_gt, e_ge, i_tup, e_cutT, List.set_cons_succ, List.set_cons_zero, List.length_cons, List.length_nil, Nat.reduceAdd, W.int.injEq, W.bl.injEq, W.ref.injEq, W.tup.injEq, W.str.injEq, reduceCtorEq, false_and, and_false, exists_false, or_false, false_or, true_and, and_true, exists_const, exists_eq_left, sz0, sz1, sz2, sz3, sz4, sz5, sz6, sz7, sz8, sz9, sz10, eq_nilT, List.isEmpty_iff]
    have ht : ch.take (i + 1) = ch.take i ++ [j] := by rw [List.take_succ, hj]; rfl
    refine hif (fun he => ?_) fun he => ?_
    · simp only [p2_c, p3_c, pT2_c, pT3_c, t_asg, t_expr, t_ret, t_if, t_nx, t_par, t_par3, g_set, g_tup2, g_tup3, g_put, s_bin, s_def, s_defK, s_call, s_cons, v_nil, s_var, v_c, s_lst, s_tup, s_test, s_tru, s_notT, s_andT, s_orT, s_and, s_or, s_not, s_if, s_neg, s_meth, s_cut, v_nopart, s_part, s_chain, s_seq, s_rng1, s_rng2, s_enum, s_zipL, s_tupR1, s_tupR2, s_yes, List.getElem?_cons_zero, List.getElem?_cons_succ, Option.some.injEq, exists_eq_left', v_ok, e_add, e_sub, e_int, e_min, e_max, e_maxU, e_lenT, e_tupT, e_lt, e_le, e_gt, e_ge, i_tup, e_cutT, List.set_cons_succ, List.set_cons_zero, List.length_cons, List.length_nil, Nat.reduceAdd, W.int.injEq, W.bl.injEq, W.ref.injEq, W.tup.injEq, W.str.injEq, reduceCtorEq, false_and, and_false, exists_false, or_false, false_or, true_and, and_true, exists_const, exists_eq_left, sz0, sz1, sz2, sz3, sz4, sz5, sz6, sz7, sz8, sz9, sz10, e_isL hg4]
      rw [e_app hg4 (by simp; omega)]
      simp only [s_bin, s_def, s_defK, s_call, s_cons, v_nil, s_var, v_c, s_lst, s_tup, s_test, s_tru, s_notT, s_andT, s_orT, s_and, s_or, s_not, s_if, s_neg, s_meth, s_cut, v_nopart, s_part, s_chain, s_seq, s_rng1, s_rng2, s_enum, s_zipL, s_tupR1, s_tupR2, s_yes, List.getElem?_cons_zero, List.getElem?_cons_succ, Option.some.injEq, exists_eq_left', v_ok, e_add, e_sub, e_int, e_min, e_max, e_maxU, e_lenT, e_tupT, e_lt, e_le, e_gt, e_ge, i_tup, e_cutT, List.set_cons_succ, List.set_cons_zero, List.length_cons, List.length_nil, Nat.reduceAdd, W.int.injEq, W.bl.injEq, W.ref.injEq, W.tup.injEq, W.str.injEq, reduceCtorEq, false_and, and_false, exists_false, or_false, false_or, true_and, and_true, exists_const, exists_eq_left, sz0, sz1, sz2, sz3, sz4, sz5, sz6, sz7, sz8, sz9, sz10]
      refine ⟨_, _, rfl, ?_, ((f2.trans f3).trans f4).fresh (n := G.length) (Nat.le_refl _) (Fr.set (by simp))⟩
      rw [get_set (lt_of_get hg4), ht, List.filter_append, List.map_append]
      simp [he]
    · refine ⟨_, _, rfl, ?_, (f2.trans f3).trans f4⟩
      rw [hg4, ht, List.filter_append]
      simp [he]
  · rintro E G2 ⟨x3, x4, rfl, hg, f2⟩
    rw [List.length_map, List.take_length] at hg
    simp only [p2_c, p3_c, pT2_c, pT3_c, t_asg, t_expr, t_ret, t_if, t_nx, t_par, t_par3, g_set, g_tup2, g_tup3, g_put, s_bin, s_def, s_defK, s_call, s_cons, v_nil, s_var, v_c, s_lst, s_tup, s_test, s_tru, s_notT, s_andT, s_orT, s_and, s_or, s_not, s_if, s_neg, s_meth, s_cut, v_nopart, s_part, s_chain, s_seq, s_rng1, s_rng2, s_enum, s_zipL, s_tupR1, s_tupR2, s_yes, List.getElem?_cons_zero, List.getElem?_cons_succ, Option.some.injEq, exists_eq_left', v_ok, e_add, e_sub, e_int, e_min, e_max, e_maxU, e_lenT, e_tupT, e_lt, e_le, e_gt, e_ge, i_tup, e_cutT, List.set_cons_succ, List.set_cons_zero, List.length_cons, List.length_nil, Nat.reduceAdd, W.int.injEq, W.bl.injEq, W.ref.injEq, W.tup.injEq, W.str.injEq, reduceCtorEq, false_and, and_false, exists_false, or_false, false_or, true_and, and_true, exists_const, exists_eq_left, sz0, sz1, sz2, sz3, sz4, sz5, sz6, sz7, sz8, sz9, sz10]
    exact ⟨Nat.le_refl _, hg, f2⟩
end NS
/- part P4 -/
set_option maxHeartbeats 1000000
namespace NS
open PySem PySem.Spec PyProof.Rows L2 PL

def prD (sk : List It) (ln rs : List Int) : PyData := .tuple [skD sk, .tuple (ln.map PyData.int), .tuple (rs.map PyData.int)]
theorem pr_dat (G : Cells) (k : Nat) (sk : List It) (ln rs : List Int) : dat G (k + 4) (prW sk ln rs) = some (prD sk ln rs) := by
  refine da_tup ?_
  have h1 := sk_dat G k sk
  have h2 := da_ints G (k + 1) ln
  have h3 := da_ints G (k + 1) rs
  simp only [mapO, h1, h2, h3]
structure OrdB (ord : List Int) : Prop where
  len : ord.length ≤ 24
  bd : ∀ j ∈ ord, j.natAbs < 10 ^ 40
theorem ord_sh {ord : List Int} (h : OrdB ord) : Sh 2000 (.tuple (ord.map PyData.int)) := (sh_ints h.len h.bd).wide (by decide)
theorem pr_sh {sk : List It} {ln rs : List Int} (P : Prg sk ln rs) : Sh 40000 (prD sk ln rs) := by
  have h24 := P.hsk.len2
  have hl := P.hln.len
  have hr := P.hrs.len
  have jl := jumpsN_len (sk := sk)
  refine (sh_tup (b := 10000) (n := 3) (by simp) fun d hd => ?_).wide (by decide)
  simp only [List.mem_cons, List.not_mem_nil, or_false] at hd
  rcases hd with rfl | rfl | rfl
  · exact sk_sh P.hsk
  · exact (sh_ints (n := 25) (by omega) fun x hx => by have := P.hln.nn x hx; omega).wide (by decide)
  · exact (sh_ints (n := 24) (by omega) fun x hx => by have := P.nn x hx; omega).wide (by decide)
theorem row_repr {row : List Int} (G : Cells) (h : OrdB row) : reprW G [.tup (row.map W.int)] = .ok (.str (PyData.tuple (row.map PyData.int)).shown) G := repr_ok (da_ints G 58 row) (ord_sh h) (by decide)
theorem jumps_bd {sk : List It} (hs : sk.length ≤ 24) : ∀ j ∈ jumpsN sk, j.natAbs < 10 ^ 40 := fun j hj => by
  obtain ⟨n, g, s, l, hn, rfl⟩ := jumpsN_mem.mp hj
  have := (List.getElem?_eq_some_iff.mp hn).1
  omega
theorem Chc.ordB {sk : List It} {ch : List Int} (hs : sk.length ≤ 24) (h : Chc sk ch) : OrdB ch := ⟨by have := h.len; have := jumpsN_len (sk := sk); omega, fun j hj => jumps_bd hs j (h.mem j hj)⟩
end NS
/- part P4g -/
set_option maxHeartbeats 1000000
namespace NS
open PySem PySem.Spec PyProof.Rows L2 PL

theorem grow_ordB {sk : List It} {ln rs ord : List Int} (hs : sk.length ≤ 24) (ho : Ord sk ord) : OrdB (rw1 (growM sk ln rs) ord 24 []).1 := by
  obtain ⟨_, _, c, d⟩ := rw1_fin (growOk (ln := ln) (rs := rs) hs) ho.grow 24 [] Chc.nil (rem_le hs)
  exact ⟨c, fun j hj => by obtain ⟨c, _, h⟩ := d j hj; exact jumps_bd hs j (stuckN_mem h).1⟩
end NS
/- part P4s -/
set_option maxHeartbeats 1000000
namespace NS
open PySem PySem.Spec PyProof.Rows L2 PL

theorem shr_ordB {sk : List It} {ln rs ord : List Int} (hs : sk.length ≤ 24) (ho : Ord sk ord) : OrdB (rw1 (shrM sk ln rs) ord 24 (jumpsN sk)).1 := by
  obtain ⟨_, _, c, d⟩ := rw1_fin (shrOk (ln := ln) (rs := rs) hs) ho.shr 24 (jumpsN sk) Chc.all ((shrOk (ln := ln) (rs := rs) hs).le Chc.all)
  exact ⟨c, fun j hj => by obtain ⟨c, hc, h⟩ := d j hj; exact jumps_bd hs j (hc.mem j (shrJ_mem.mp h).1)⟩
theorem all_serve {sk : List It} {ln rs : List Int} : stuckN sk ln rs (jumpsN sk) = [] := by
  cases h : stuckN sk ln rs (jumpsN sk) with
  | nil => rfl
  | cons x xs =>
    have hx : x ∈ stuckN sk ln rs (jumpsN sk) := by rw [h]; simp
    exact absurd (stuckN_mem hx).1 (stuckN_mem hx).2
theorem shrOk2 {sk : List It} {ln rs : List Int} (hs : sk.length ≤ 24) : MvOk (shrM sk ln rs) (fun ch => Chc sk ch ∧ stuckN sk ln rs ch = []) List.length := by
  have h := shrOk (ln := ln) (rs := rs) hs
  exact ⟨fun q => h.le q.1, fun q => h.len q.1, fun q => h.jl q.1, fun q => h.nd q.1, fun {ch j} q hj => ⟨⟨(h.step q.1 hj).1, (shrJ_mem.mp hj).2⟩, (h.step q.1 hj).2⟩⟩
end NS
/- part V0 -/
set_option maxHeartbeats 1000000
namespace NS
open PySem PySem.Spec PyProof.Rows L2 PL

/-! ### values of all kinds -/
def isInt : W → Bool | .int _ => true | _ => false
def isBl : W → Bool | .bl _ => true | _ => false
def isTup : W → Bool | .tup _ => true | _ => false
def isSt : W → Bool | .str _ => true | _ => false
theorem tyN_gv {S : List Nat} {G : Cells} {ns : List Nat} {w : W} (h : gv S G ns w) : ∃ t, tyN G w = some t ∧ isiB t "int" = (isInt w || isBl w) ∧ isiB t "bool" = isBl w ∧ isiB t "tuple" = isTup w ∧ isiB t "str" = isSt w := by
  cases w with
  | ty s => cases ns <;> exact h.elim
  | fn s => cases ns <;> exact h.elim
  | ref n =>
    cases ns with
    | nil => exact h.elim
    | cons m ns =>
      rcases h.2 with q | ⟨ws, q, _⟩
      · exact ⟨"dict", by simp only [tyN, q], (by decide : isiB "dict" "int" = false), (by decide : isiB "dict" "bool" = false), (by decide : isiB "dict" "tuple" = false), (by decide : isiB "dict" "str" = false)⟩
      · exact ⟨"list", by simp only [tyN, q], (by decide : isiB "list" "int" = false), (by decide : isiB "list" "bool" = false), (by decide : isiB "list" "tuple" = false), (by decide : isiB "list" "str" = false)⟩
  | non => exact ⟨"NoneType", rfl, (by decide : isiB "NoneType" "int" = false), (by decide : isiB "NoneType" "bool" = false), (by decide : isiB "NoneType" "tuple" = false), (by decide : isiB "NoneType" "str" = false)⟩
  | bl b => exact ⟨"bool", rfl, (by decide : isiB "bool" "int" = true), (by decide : isiB "bool" "bool" = true), (by decide : isiB "bool" "tuple" = false), (by decide : isiB "bool" "str" = false)⟩
  | int b => exact ⟨"int", rfl, (by decide : isiB "int" "int" = true), (by decide : isiB "int" "bool" = false), (by decide : isiB "int" "tuple" = false), (by decide : isiB "int" "str" = false)⟩
  | str b => exact ⟨"str", rfl, (by decide : isiB "str" "int" = false), (by decide : isiB "str" "bool" = false), (by decide : isiB "str" "tuple" = false), (by decide : isiB "str" "str" = true)⟩
  | tup b => exact ⟨"tuple", rfl, (by decide : isiB "tuple" "int" = false), (by decide : isiB "tuple" "bool" = false), (by decide : isiB "tuple" "tuple" = true), (by decide : isiB "tuple" "str" = false)⟩
section
variable {S : List Nat} {G : Cells} {ns : List Nat} {w : W}
theorem isi_int (h : gv S G ns w) : isiW G [w, .ty "int"] = .ok (.bl (isInt w || isBl w)) G := by
  obtain ⟨t, h1, h2, h3, h4, h5⟩ := tyN_gv h
  unfold isiW; simp only [h1, h2, show knownTy "int" = true from by decide, if_true]
theorem isi_bool (h : gv S G ns w) : isiW G [w, .ty "bool"] = .ok (.bl (isBl w)) G := by
  obtain ⟨t, h1, h2, h3, h4, h5⟩ := tyN_gv h
  unfold isiW; simp only [h1, h3, show knownTy "bool" = true from by decide, if_true]
theorem isi_tup (h : gv S G ns w) : isiW G [w, .ty "tuple"] = .ok (.bl (isTup w)) G := by
  obtain ⟨t, h1, h2, h3, h4, h5⟩ := tyN_gv h
  unfold isiW; simp only [h1, h4, show knownTy "tuple" = true from by decide, if_true]
theorem isi_str (h : gv S G ns w) : isiW G [w, .ty "str"] = .ok (.bl (isSt w)) G := by
  obtain ⟨t, h1, h2, h3, h4, h5⟩ := tyN_gv h
  unfold isiW; simp only [h1, h5, show knownTy "str" = true from by decide, if_true]
end
theorem isInt_gv {S : List Nat} {G : Cells} {ns : List Nat} {w : W} (h : gv S G ns w) : (Mis_integer [w] G).sat fun x G' => x = .bl (isInt w) ∧ G' = G := by
  refine fun_sat rfl ?_
  show (Bis_integer [some w] G).sat _ _
  unfold Bis_integer
  simp only [p2_c, p3_c, pT2_c, pT3_c, t_asg, t_expr, t_ret, t_if, t_nx, t_par, t_par3, g_set, g_tup2, g_tup3, g_put, s_bin, s_def, s_defK, s_call, s_cons, v_nil, s_var, v_c, s_lst, s_tup, s_test, s_tru, s_notT, s_andT, s_orT, s_and, s_or, s_not, s_if, s_neg, s_meth, s_cut, v_nopart, s_part, s_chain, s_seq, s_rng1, s_rng2, s_enum, s_zipL, s_tupR1, s_tupR2, s_yes, List.getElem?_cons_zero, List.getElem?_cons_succ, Option.some.injEq, exists_eq_left', v_ok, e_add, e_sub, e_int, e_min, e_max, e_maxU, e_lenT, e_tupT, e_lt, e_le, e_gt, e_ge, i_tup, e_cutT, List.set_cons_succ, List.set_cons_zero, List.length_cons, List.length_nil, Nat.reduceAdd, W.int.injEq, W.bl.injEq, W.ref.injEq, W.tup.injEq, W.str.injEq, reduceCtorEq, false_and, and_false, exists_false, or_false, false_or, true_and, and_true, exists_const, exists_eq_left, sz0, sz1, sz2, sz3, sz4, sz5, sz6, sz7, sz8, sz9, sz10, isi_int h, isi_bool h, truW, Option.some.injEq, exists_eq_left']
  cases w <;> simp [isInt, isBl]
/-- is this value a row from ch on, up to an end? -/
def isrW (M : Mv) : List Int → List W → Bool
  | ch, [] => (M.js ch).isEmpty
  | ch, .int j :: r => if j ∈ M.js ch then isrW M (M.nx ch j) r else false
  | _, _ :: _ => false
def isrV (M : Mv) (ch : List Int) : W → Bool
  | .tup ws => isrW M ch ws
  | _ => false
theorem isrW_ints {M : Mv} : ∀ (row ch : List Int), isrW M ch (row.map W.int) = isr M ch row
  | [], _ => rfl
  | j :: r, ch => by
    simp only [List.map_cons, isrW, isr]
    split
    · exact isrW_ints r _
    · rfl
theorem isrW_odd {M : Mv} : ∀ (ws : List W) (ch : List Int), ws.all isInt = false → isrW M ch ws = false
  | [], _, h => by cases h
  | w :: r, ch, h => by
    cases w with
    | int j =>
      unfold isrW
      split
      · exact isrW_odd r _ (by simpa [isInt] using h)
      · rfl
    | _ => rfl
theorem isrW_cons {M : Mv} {ch : List Int} {w : W} {r : List W} (h : isInt w = false) : isrW M ch (w :: r) = false := by cases w <;> first | rfl | cases h
theorem all_ints : ∀ {ws : List W}, ws.all isInt = true → ∃ row : List Int, ws = row.map W.int
  | [], _ => ⟨[], rfl⟩
  | w :: r, h => by
    simp only [List.all_cons, Bool.and_eq_true] at h
    obtain ⟨row, rfl⟩ := all_ints h.2
    cases w with
    | int j => exact ⟨j :: row, rfl⟩
    | _ => cases h.1
theorem is_rowV_ok {v : Nat → Addr} {a : Addr} {F : PF} {pr w : W} {M : Mv} {inv : List Int → Prop} {rm : List Int → Nat} {ch0 : List Int} {G : Cells} {n0 : Nat} {ns : List Nat} (pk : PickF v a F) (mf : MovF pr M inv F) (ok : MvOk M inv rm) (h0 : inv ch0) (hv : gv [] G (n0 :: ns) w) (hn0 : n0 ≤ 1000) :
    (Mis_row v [pr, w, .tup (ch0.map W.int), .fn a] G).sat fun x G' => x = .bl (isrV M ch0 w) ∧ Fr [] G G' := by
  refine fun_sat rfl ?_
  show (Bis_row v [some pr, some w, some (.tup (ch0.map W.int)), some (.fn a), none, none] G).sat _ _
  unfold Bis_row
  refine so_seq ?_
  simp only [p2_c, p3_c, pT2_c, pT3_c, t_asg, t_expr, t_ret, t_if, t_nx, t_par, t_par3, g_set, g_tup2, g_tup3, g_put, s_bin, s_def, s_defK, s_call, s_cons, v_nil, s_var, v_c, s_lst, s_tup, s_test, s_tru, s_notT, s_andT, s_orT, s_and, s_or, s_not, s_if, s_neg, s_meth, s_cut, v_nopart, s_part, s_chain, s_seq, s_rng1, s_rng2, s_enum, s_zipL, s_tupR1, s_tupR2, s_yes, List.getElem?_cons_zero, List.getElem?_cons_succ, Option.some.injEq, exists_eq_left', v_ok, e_add, e_sub, e_int, e_min, e_max, e_maxU, e_lenT, e_tupT, e_lt, e_le, e_gt, e_ge, i_tup, e_cutT, List.set_cons_succ, List.set_cons_zero, List.length_cons, List.length_nil, Nat.reduceAdd, W.int.injEq, W.bl.injEq, W.ref.injEq, W.tup.injEq, W.str.injEq, reduceCtorEq, false_and, and_false, exists_false, or_false, false_or, true_and, and_true, exists_const, exists_eq_left, sz0, sz1, sz2, sz3, sz4, sz5, sz6, sz7, sz8, sz9, sz10, isi_tup hv, truW, Option.some.injEq, exists_eq_left']
  cases hw : isTup w with
  | false =>
    simp only [Bool.not_false, if_true]
    have : isrV M ch0 w = false := by cases w <;> first | rfl | cases hw
    rw [this]; exact ⟨rfl, Fr.refl⟩
  | true =>
    obtain ⟨ws, rfl⟩ : ∃ ws, w = .tup ws := by cases w <;> first | exact ⟨_, rfl⟩ | cases hw
    simp only [Bool.not_true, Bool.false_eq_true, if_false]
    refine so_seq ?_
    simp only [p2_c, p3_c, pT2_c, pT3_c, t_asg, t_expr, t_ret, t_if, t_nx, t_par, t_par3, g_set, g_tup2, g_tup3, g_put]
    rw [pk rfl]
    simp only [s_bin, s_def, s_defK, s_call, s_cons, v_nil, s_var, v_c, s_lst, s_tup, s_test, s_tru, s_notT, s_andT, s_orT, s_and, s_or, s_not, s_if, s_neg, s_meth, s_cut, v_nopart, s_part, s_chain, s_seq, s_rng1, s_rng2, s_enum, s_zipL, s_tupR1, s_tupR2, s_yes, List.getElem?_cons_zero, List.getElem?_cons_succ, Option.some.injEq, exists_eq_left', v_ok, e_add, e_sub, e_int, e_min, e_max, e_maxU, e_lenT, e_tupT, e_lt, e_le, e_gt, e_ge, i_tup, e_cutT, List.set_cons_succ, List.set_cons_zero, List.length_cons, List.length_nil, Nat.reduceAdd, W.int.injEq, W.bl.injEq, W.ref.injEq, W.tup.injEq, W.str.injEq, reduceCtorEq, false_and, and_false, exists_false, or_false, false_or, true_and, and_true, exists_const, exists_eq_left, sz0, sz1, sz2, sz3, sz4, sz5, sz6, sz7, sz8, sz9, sz10]
    refine (mf h0).mono fun w G1 q => ?_
    obtain ⟨n, rfl, hn, hg, f1⟩ := q
    refine so_seq (so_forI ws (fun i E G2 => ∃ ch n x5, E = [some pr, some (.tup ws), some (.tup (ch0.map W.int)), some (.fn a), some (.ref n), x5] ∧ G2[n]? = some (.dct (fuL M ch)) ∧ inv ch ∧ isrW M ch0 ws = isrW M ch (ws.drop i) ∧ Fr [] G G2) ?_ ?_ ?_)
    · simp only [s_bin, s_def, s_defK, s_call, s_cons, v_nil, s_var, v_c, s_lst, s_tup, s_test, s_tru, s_notT, s_andT, s_orT, s_and, s_or, s_not, s_if, s_neg, s_meth, s_cut, v_nopart, s_part, s_chain, s_seq, s_rng1, s_rng2, s_enum, s_zipL, s_tupR1, s_tupR2, s_yes, List.getElem?_cons_zero, List.getElem?_cons_succ, Option.some.injEq, exists_eq_left', v_ok, e_add, e_sub, e_int, e_min, e_max, e_maxU, e_lenT, e_tupT, e_lt, e_le, e_gt, e_ge, i_tup, e_cutT, List.set_cons_succ, List.set_cons_zero, List.length_cons, List.length_nil, Nat.reduceAdd, W.int.injEq, W.bl.injEq, W.ref.injEq, W.tup.injEq, W.str.injEq, reduceCtorEq, false_and, and_false, exists_false, or_false, false_or, true_and, and_true, exists_const, exists_eq_left, sz0, sz1, sz2, sz3, sz4, sz5, sz6, sz7, sz8, sz9, sz10]
      have it := it_tup [] G1 ws
      exact ⟨it.len, ⟨ch0, n, none, rfl, hg, h0, rfl, f1⟩, fun i E' G' q => (it_tup [] G' ws).at' G' i Fr.refl⟩
    · rintro i w E G2 hw ⟨ch, n, x5, rfl, hg, hi, hd, f2⟩
      obtain ⟨hil, hje⟩ := List.getElem?_eq_some_iff.mp hw
      rw [List.drop_eq_getElem_cons hil, hje] at hd
      have hwv : gv [] G2 ns w := gv.mono f2 (hv.2 w (List.mem_of_getElem? hw))
      simp only [p2_c, p3_c, pT2_c, pT3_c, t_asg, t_expr, t_ret, t_if, t_nx, t_par, t_par3, g_set, g_tup2, g_tup3, g_put, s_bin, s_def, s_defK, s_call, s_cons, v_nil, s_var, v_c, s_lst, s_tup, s_test, s_tru, s_notT, s_andT, s_orT, s_and, s_or, s_not, s_if, s_neg, s_meth, s_cut, v_nopart, s_part, s_chain, s_seq, s_rng1, s_rng2, s_enum, s_zipL, s_tupR1, s_tupR2, s_yes, List.getElem?_cons_zero, List.getElem?_cons_succ, Option.some.injEq, exists_eq_left', v_ok, e_add, e_sub, e_int, e_min, e_max, e_maxU, e_lenT, e_tupT, e_lt, e_le, e_gt, e_ge, i_tup, e_cutT, List.set_cons_succ, List.set_cons_zero, List.length_cons, List.length_nil, Nat.reduceAdd, W.int.injEq, W.bl.injEq, W.ref.injEq, W.tup.injEq, W.str.injEq, reduceCtorEq, false_and, and_false, exists_false, or_false, false_or, true_and, and_true, exists_const, exists_eq_left, sz0, sz1, sz2, sz3, sz4, sz5, sz6, sz7, sz8, sz9, sz10]
      refine so_seq ?_
      simp only [p2_c, p3_c, pT2_c, pT3_c, t_asg, t_expr, t_ret, t_if, t_nx, t_par, t_par3, g_set, g_tup2, g_tup3, g_put, s_bin, s_def, s_defK, s_call, s_cons, v_nil, s_var, v_c, s_lst, s_tup, s_test, s_tru, s_notT, s_andT, s_orT, s_and, s_or, s_not, s_if, s_neg, s_meth, s_cut, v_nopart, s_part, s_chain, s_seq, s_rng1, s_rng2, s_enum, s_zipL, s_tupR1, s_tupR2, s_yes, List.getElem?_cons_zero, List.getElem?_cons_succ, Option.some.injEq, exists_eq_left', v_ok, e_add, e_sub, e_int, e_min, e_max, e_maxU, e_lenT, e_tupT, e_lt, e_le, e_gt, e_ge, i_tup, e_cutT, List.set_cons_succ, List.set_cons_zero, List.length_cons, List.length_nil, Nat.reduceAdd, W.int.injEq, W.bl.injEq, W.ref.injEq, W.tup.injEq, W.str.injEq, reduceCtorEq, false_and, and_false, exists_false, or_false, false_or, true_and, and_true, exists_const, exists_eq_left, sz0, sz1, sz2, sz3, sz4, sz5, sz6, sz7, sz8, sz9, sz10]
      refine (isInt_gv hwv).mono fun x G3 q => ?_
      obtain ⟨rfl, rfl⟩ := q
      cases hI : isInt w with
      | false =>
        simp only [p2_c, p3_c, pT2_c, pT3_c, t_asg, t_expr, t_ret, t_if, t_nx, t_par, t_par3, g_set, g_tup2, g_tup3, g_put, s_bin, s_def, s_defK, s_call, s_cons, v_nil, s_var, v_c, s_lst, s_tup, s_test, s_tru, s_notT, s_andT, s_orT, s_and, s_or, s_not, s_if, s_neg, s_meth, s_cut, v_nopart, s_part, s_chain, s_seq, s_rng1, s_rng2, s_enum, s_zipL, s_tupR1, s_tupR2, s_yes, List.getElem?_cons_zero, List.getElem?_cons_succ, Option.some.injEq, exists_eq_left', v_ok, e_add, e_sub, e_int, e_min, e_max, e_maxU, e_lenT, e_tupT, e_lt, e_le, e_gt, e_ge, i_tup, e_cutT, List.set_cons_succ, List.set_cons_zero, List.length_cons, List.length_nil, Nat.reduceAdd, W.int.injEq, W.bl.injEq, W.ref.injEq, W.tup.injEq, W.str.injEq, reduceCtorEq, false_and, and_false, exists_false, or_false, false_or, true_and, and_true, exists_const, exists_eq_left, sz0, sz1, sz2, sz3, sz4, sz5, sz6, sz7, sz8, sz9, sz10, truW, Bool.not_false, if_true]
        exact ⟨by show false = isrW M ch0 ws; rw [hd, isrW_cons hI], f2⟩
      | true =>
        obtain ⟨j, rfl⟩ : ∃ j, w = .int j := by cases w <;> first | exact ⟨_, rfl⟩ | cases hI
        have hin : inDW true G3 (.int j) (.ref n) = .ok (.bl (!decide (j ∈ M.js ch))) G3 := by
          unfold inDW
          simp only [hg, keyW, fuL_val]
          by_cases e : j ∈ M.js ch <;> simp [e]
        by_cases e : j ∈ M.js ch
        · simp only [p2_c, p3_c, pT2_c, pT3_c, t_asg, t_expr, t_ret, t_if, t_nx, t_par, t_par3, g_set, g_tup2, g_tup3, g_put, s_bin, s_def, s_defK, s_call, s_cons, v_nil, s_var, v_c, s_lst, s_tup, s_test, s_tru, s_notT, s_andT, s_orT, s_and, s_or, s_not, s_if, s_neg, s_meth, s_cut, v_nopart, s_part, s_chain, s_seq, s_rng1, s_rng2, s_enum, s_zipL, s_tupR1, s_tupR2, s_yes, List.getElem?_cons_zero, List.getElem?_cons_succ, Option.some.injEq, exists_eq_left', v_ok, e_add, e_sub, e_int, e_min, e_max, e_maxU, e_lenT, e_tupT, e_lt, e_le, e_gt, e_ge, i_tup, e_cutT, List.set_cons_succ, List.set_cons_zero, List.length_cons, List.length_nil, Nat.reduceAdd, W.int.injEq, W.bl.injEq, W.ref.injEq, W.tup.injEq, W.str.injEq, reduceCtorEq, false_and, and_false, exists_false, or_false, false_or, true_and, and_true, exists_const, exists_eq_left, sz0, sz1, sz2, sz3, sz4, sz5, sz6, sz7, sz8, sz9, sz10, truW, hin, e, decide_true, Bool.not_true, Bool.false_eq_true, if_false]
          rw [pk rfl]
          simp only [s_bin, s_def, s_defK, s_call, s_cons, v_nil, s_var, v_c, s_lst, s_tup, s_test, s_tru, s_notT, s_andT, s_orT, s_and, s_or, s_not, s_if, s_neg, s_meth, s_cut, v_nopart, s_part, s_chain, s_seq, s_rng1, s_rng2, s_enum, s_zipL, s_tupR1, s_tupR2, s_yes, List.getElem?_cons_zero, List.getElem?_cons_succ, Option.some.injEq, exists_eq_left', v_ok, e_add, e_sub, e_int, e_min, e_max, e_maxU, e_lenT, e_tupT, e_lt, e_le, e_gt, e_ge, i_tup, e_cutT, List.set_cons_succ, List.set_cons_zero, List.length_cons, List.length_nil, Nat.reduceAdd, W.int.injEq, W.bl.injEq, W.ref.injEq, W.tup.injEq, W.str.injEq, reduceCtorEq, false_and, and_false, exists_false, or_false, false_or, true_and, and_true, exists_const, exists_eq_left, sz0, sz1, sz2, sz3, sz4, sz5, sz6, sz7, sz8, sz9, sz10, get_fur hg e]
          obtain ⟨i2, _⟩ := ok.step hi e
          refine (mf i2).mono fun w G4 q => ?_
          obtain ⟨n', rfl, hn', hg', f4⟩ := q
          exact ⟨_, n', _, rfl, hg', i2, by rw [hd]; simp only [isrW, e, if_true], f2.trans f4⟩
        · simp only [p2_c, p3_c, pT2_c, pT3_c, t_asg, t_expr, t_ret, t_if, t_nx, t_par, t_par3, g_set, g_tup2, g_tup3, g_put, s_bin, s_def, s_defK, s_call, s_cons, v_nil, s_var, v_c, s_lst, s_tup, s_test, s_tru, s_notT, s_andT, s_orT, s_and, s_or, s_not, s_if, s_neg, s_meth, s_cut, v_nopart, s_part, s_chain, s_seq, s_rng1, s_rng2, s_enum, s_zipL, s_tupR1, s_tupR2, s_yes, List.getElem?_cons_zero, List.getElem?_cons_succ, Option.some.injEq, exists_eq_left', v_ok, e_add, e_sub, e_int, e_min, e_max, e_maxU, e_lenT, e_tupT, e_lt, e_le, e_gt, e_ge, i_tup, e_cutT, List.set_cons_succ, List.set_cons_zero, List.length_cons, List.length_nil, Nat.reduceAdd, W.int.injEq, W.bl.injEq, W.ref.injEq, W.tup.injEq, W.str.injEq, reduceCtorEq, false_and, and_false, exists_false, or_false, false_or, true_and, and_true, exists_const, exists_eq_left, sz0, sz1, sz2, sz3, sz4, sz5, sz6, sz7, sz8, sz9, sz10, truW, hin, e, decide_false, Bool.not_true, Bool.not_false, Bool.false_eq_true, if_false, if_true]
          exact ⟨by show false = isrW M ch0 ws; rw [hd]; simp only [isrW, e, if_false], f2⟩
    · rintro E G2 ⟨ch, n, x5, rfl, hg, hi, hd, f2⟩
      rw [List.drop_length] at hd
      have hl : lenW G2 [.ref n] = .ok (.int ((M.js ch).length : Int)) G2 := by unfold lenW fuL at *; simp only [hg, List.length_map]
      simp only [p2_c, p3_c, pT2_c, pT3_c, t_asg, t_expr, t_ret, t_if, t_nx, t_par, t_par3, g_set, g_tup2, g_tup3, g_put, s_bin, s_def, s_defK, s_call, s_cons, v_nil, s_var, v_c, s_lst, s_tup, s_test, s_tru, s_notT, s_andT, s_orT, s_and, s_or, s_not, s_if, s_neg, s_meth, s_cut, v_nopart, s_part, s_chain, s_seq, s_rng1, s_rng2, s_enum, s_zipL, s_tupR1, s_tupR2, s_yes, List.getElem?_cons_zero, List.getElem?_cons_succ, Option.some.injEq, exists_eq_left', v_ok, e_add, e_sub, e_int, e_min, e_max, e_maxU, e_lenT, e_tupT, e_lt, e_le, e_gt, e_ge, i_tup, e_cutT, List.set_cons_succ, List.set_cons_zero, List.length_cons, List.length_nil, Nat.reduceAdd, W.int.injEq, W.bl.injEq, W.ref.injEq, W.tup.injEq, W.str.injEq, reduceCtorEq, false_and, and_false, exists_false, or_false, false_or, true_and, and_true, exists_const, exists_eq_left, sz0, sz1, sz2, sz3, sz4, sz5, sz6, sz7, sz8, sz9, sz10, hl, eqOp_int]
      refine ⟨?_, f2⟩
      show _ = isrW M ch0 ws
      rw [hd]
      cases h : M.js ch <;> simp [isrW, h]
      omega
end NS
/- part V20b -/
set_option maxHeartbeats 1000000
namespace NS
open PySem PySem.Spec PyProof.Rows L2 PL

theorem eq_intsE {G : Cells} {n m : Nat} {ds : List Int} (h : G[n]? = some (.lst (ds.map W.int))) (h' : G[m]? = some (.lst [])) : eqOp G (.ref n) (.ref m) = .ok (.bl ds.isEmpty) G := by
  have e1 := dat_ints h
  have e2 := dat_ints (ds := []) h'
  have q : eqOp G (.ref n) (.ref m) = (match eqW G (.ref n) (.ref m) with | some b => .ok (.bl b) G | none => .no) := rfl
  rw [q]
  unfold eqW
  rw [e1, e2]
  simp only [shaped_ints]
  cases ds <;> simp [PyData.eqv, PyData.eqvAll]
def oddF : W → Option W := fun w => if isInt w then none else some (.int 1)
def oddI : W → Option Int := fun w => if isInt w then none else some 1
theorem odd_map (ws : List W) : ws.filterMap oddF = (ws.filterMap oddI).map W.int := by
  induction ws with
  | nil => rfl
  | cons w ws ih =>
    simp only [List.filterMap_cons, oddF, oddI] at ih ⊢
    cases isInt w <;> simp [ih]
theorem odd_empty (ws : List W) : (ws.filterMap oddI).isEmpty = ws.all isInt := by
  induction ws with
  | nil => rfl
  | cons w ws ih =>
    simp only [List.filterMap_cons, oddI, List.all_cons] at ih ⊢
    cases isInt w <;> simp [ih]
def areB : W → Bool
  | .tup ws => ws.all isInt
  | _ => false
theorem are_jumps_ok {G : Cells} {n0 : Nat} {ns : List Nat} {w : W} (hv : gv [] G (n0 :: ns) w) (hn0 : n0 ≤ 1000) :
    (M_law_are_jumps [w] G).sat fun x G' => x = .bl (areB w) ∧ Fr [] G G' := by
  refine fun_sat rfl ?_
  show (B_law_are_jumps [some w, none] G).sat _ _
  unfold B_law_are_jumps
  refine so_seq ?_
  simp only [p2_c, p3_c, pT2_c, pT3_c, t_asg, t_expr, t_ret, t_if, t_nx, t_par, t_par3, g_set, g_tup2, g_tup3, g_put, s_bin, s_def, s_defK, s_call, s_cons, v_nil, s_var, v_c, s_lst, s_tup, s_test, s_tru, s_notT, s_andT, s_orT, s_and, s_or, s_not, s_if, s_neg, s_meth, s_cut, v_nopart, s_part, s_chain, s_seq, s_rng1, s_rng2, s_enum, s_zipL, s_tupR1, s_tupR2, s_yes, List.getElem?_cons_zero, List.getElem?_cons_succ, Option.some.injEq, exists_eq_left', v_ok, e_add, e_sub, e_int, e_min, e_max, e_maxU, e_lenT, e_tupT, e_lt, e_le, e_gt, e_ge, i_tup, e_cutT, List.set_cons_succ, List.set_cons_zero, List.length_cons, List.length_nil, Nat.reduceAdd, W.int.injEq, W.bl.injEq, W.ref.injEq, W.tup.injEq, W.str.injEq, reduceCtorEq, false_and, and_false, exists_false, or_false, false_or, true_and, and_true, exists_const, exists_eq_left, sz0, sz1, sz2, sz3, sz4, sz5, sz6, sz7, sz8, sz9, sz10, isi_tup hv, truW, Option.some.injEq, exists_eq_left']
  cases hw : isTup w with
  | false =>
    simp only [Bool.not_false, if_true]
    have : areB w = false := by cases w <;> first | rfl | cases hw
    rw [this]; exact ⟨rfl, Fr.refl⟩
  | true =>
    obtain ⟨ws, rfl⟩ : ∃ ws, w = .tup ws := by cases w <;> first | exact ⟨_, rfl⟩ | cases hw
    simp only [Bool.not_true, Bool.false_eq_true, if_false]
    refine lc_pure ws oddF ?_ (Nat.le_trans hv.1 (by omega)) ?_ ?_
    · simp only [s_bin, s_def, s_defK, s_call, s_cons, v_nil, s_var, v_c, s_lst, s_tup, s_test, s_tru, s_notT, s_andT, s_orT, s_and, s_or, s_not, s_if, s_neg, s_meth, s_cut, v_nopart, s_part, s_chain, s_seq, s_rng1, s_rng2, s_enum, s_zipL, s_tupR1, s_tupR2, s_yes, List.getElem?_cons_zero, List.getElem?_cons_succ, Option.some.injEq, exists_eq_left', v_ok, e_add, e_sub, e_int, e_min, e_max, e_maxU, e_lenT, e_tupT, e_lt, e_le, e_gt, e_ge, i_tup, e_cutT, List.set_cons_succ, List.set_cons_zero, List.length_cons, List.length_nil, Nat.reduceAdd, W.int.injEq, W.bl.injEq, W.ref.injEq, W.tup.injEq, W.str.injEq, reduceCtorEq, false_and, and_false, exists_false, or_false, false_or, true_and, and_true, exists_const, exists_eq_left, sz0, sz1, sz2, sz3, sz4, sz5, sz6, sz7, sz8, sz9, sz10]
      exact ⟨Fr.refl, it_tup _ _ _⟩
    · intro i w G' hw f
      have hwv : gv [] G' ns w := gv.mono f (hv.2 w (List.mem_of_getElem? hw))
      simp only [wipeE, p2_c, p3_c, pT2_c, pT3_c, t_asg, t_expr, t_ret, t_if, t_nx, t_par, t_par3, g_set, g_tup2, g_tup3, g_put, s_bin, s_def, s_defK, s_call, s_cons, v_nil, s_var, v_c, s_lst, s_tup, s_test, s_tru, s_notT, s_andT, s_orT, s_and, s_or, s_not, s_if, s_neg, s_meth, s_cut, v_nopart, s_part, s_chain, s_seq, s_rng1, s_rng2, s_enum, s_zipL, s_tupR1, s_tupR2, s_yes, List.getElem?_cons_zero, List.getElem?_cons_succ, Option.some.injEq, exists_eq_left', v_ok, e_add, e_sub, e_int, e_min, e_max, e_maxU, e_lenT, e_tupT, e_lt, e_le, e_gt, e_ge, i_tup, e_cutT, List.set_cons_succ, List.set_cons_zero, List.length_cons, List.length_nil, Nat.reduceAdd, W.int.injEq, W.bl.injEq, W.ref.injEq, W.tup.injEq, W.str.injEq, reduceCtorEq, false_and, and_false, exists_false, or_false, false_or, true_and, and_true, exists_const, exists_eq_left, sz0, sz1, sz2, sz3, sz4, sz5, sz6, sz7, sz8, sz9, sz10, isi_bool hwv, isi_int hwv, truW, Option.some.injEq, exists_eq_left', oddF]
      cases w <;> simp [isBl, isInt, Fr.refl]
    · intro n G' f hn hg
      rw [odd_map] at hg
      have fz : Fr [] G' (G' ++ [.lst []]) := Fr.push
      try simp only [s_bin, s_def, s_defK, s_call, s_cons, v_nil, s_var, v_c, s_lst, s_tup, s_test, s_tru, s_notT, s_andT, s_orT, s_and, s_or, s_not, s_if, s_neg, s_meth, s_cut, v_nopart, s_part, s_chain, s_seq, s_rng1, s_rng2, s_enum, s_zipL, s_tupR1, s_tupR2, s_yes, List.getElem?_cons_zero, List.getElem?_cons_succ, Option.some.injEq, exists_eq_left', v_ok, e_add, e_sub, e_int, e_min, e_max, e_maxU, e_lenT, e_tupT, e_lt, e_le, e_gt, e_ge, i_tup, e_cutT, List.set_cons_succ, List.set_cons_zero, List.length_cons, List.length_nil, Nat.reduceAdd, W.int.injEq, W.bl.injEq, W.ref.injEq, W.tup.injEq, W.str.injEq, reduceCtorEq, false_and, and_false, exists_false, or_false, false_or, true_and, and_true, exists_const, exists_eq_left, sz0, sz1, sz2, sz3, sz4, sz5, sz6, sz7, sz8, sz9, sz10]
      rw [eq_intsE (fz.get hg (by simp)) (push_get _ _), odd_empty]
      exact ⟨rfl, f.trans fz⟩
theorem areB_inv {w : W} (h : areB w = true) : ∃ row : List Int, w = .tup (row.map W.int) := by
  cases w with
  | tup ws => obtain ⟨row, rfl⟩ := all_ints h; exact ⟨row, rfl⟩
  | _ => cases h
theorem areB_no {M : Mv} {ch : List Int} {w : W} (h : areB w = false) : isrV M ch w = false := by
  cases w with
  | tup ws => exact isrW_odd ws ch h
  | _ => rfl
theorem is_growing_ok {sk : List It} {ln rs : List Int} {G : Cells} {n0 : Nat} {ns : List Nat} {w : W} (P : Prg sk ln rs) (hv : gv [] G (n0 :: ns) w) (hn0 : n0 ≤ 1000) :
    (M_law_is_growing [prW sk ln rs, w] G).sat fun x G' => x = .bl (isrV (growM sk ln rs) [] w) ∧ Fr [] G G' := by
  have h24 := P.hsk.len2
  have ok := growOk (ln := ln) (rs := rs) h24
  refine fun_sat rfl ?_
  show (B_law_is_growing [some (prW sk ln rs), some w, none, none, none] G).sat _ _
  unfold B_law_is_growing
  refine so_seq ?_
  simp only [p2_c, p3_c, pT2_c, pT3_c, t_asg, t_expr, t_ret, t_if, t_nx, t_par, t_par3, g_set, g_tup2, g_tup3, g_put, s_bin, s_def, s_defK, s_call, s_cons, v_nil, s_var, v_c, s_lst, s_tup, s_test, s_tru, s_notT, s_andT, s_orT, s_and, s_or, s_not, s_if, s_neg, s_meth, s_cut, v_nopart, s_part, s_chain, s_seq, s_rng1, s_rng2, s_enum, s_zipL, s_tupR1, s_tupR2, s_yes, List.getElem?_cons_zero, List.getElem?_cons_succ, Option.some.injEq, exists_eq_left', v_ok, e_add, e_sub, e_int, e_min, e_max, e_maxU, e_lenT, e_tupT, e_lt, e_le, e_gt, e_ge, i_tup, e_cutT, List.set_cons_succ, List.set_cons_zero, List.length_cons, List.length_nil, Nat.reduceAdd, W.int.injEq, W.bl.injEq, W.ref.injEq, W.tup.injEq, W.str.injEq, reduceCtorEq, false_and, and_false, exists_false, or_false, false_or, true_and, and_true, exists_const, exists_eq_left, sz0, sz1, sz2, sz3, sz4, sz5, sz6, sz7, sz8, sz9, sz10]
  refine (are_jumps_ok hv hn0).mono fun x G1 q => ?_
  obtain ⟨rfl, f1⟩ := q
  simp only [truW, Option.some.injEq, exists_eq_left']
  cases ha : areB w with
  | false =>
    simp only [Bool.not_false, if_true]
    rw [areB_no ha]; exact ⟨rfl, f1⟩
  | true =>
    obtain ⟨row, rfl⟩ := areB_inv ha
    have hrl : row.length ≤ 1000 := by have := hv.1; simp at this; omega
    simp only [Bool.not_true, Bool.false_eq_true, if_false]
    refine so_seq ?_
    simp only [p2_c, p3_c, pT2_c, pT3_c, t_asg, t_expr, t_ret, t_if, t_nx, t_par, t_par3, g_set, g_tup2, g_tup3, g_put, s_bin, s_def, s_defK, s_call, s_cons, v_nil, s_var, v_c, s_lst, s_tup, s_test, s_tru, s_notT, s_andT, s_orT, s_and, s_or, s_not, s_if, s_neg, s_meth, s_cut, v_nopart, s_part, s_chain, s_seq, s_rng1, s_rng2, s_enum, s_zipL, s_tupR1, s_tupR2, s_yes, List.getElem?_cons_zero, List.getElem?_cons_succ, Option.some.injEq, exists_eq_left', v_ok, e_add, e_sub, e_int, e_min, e_max, e_maxU, e_lenT, e_tupT, e_lt, e_le, e_gt, e_ge, i_tup, e_cutT, List.set_cons_succ, List.set_cons_zero, List.length_cons, List.length_nil, Nat.reduceAdd, W.int.injEq, W.bl.injEq, W.ref.injEq, W.tup.injEq, W.str.injEq, reduceCtorEq, false_and, and_false, exists_false, or_false, false_or, true_and, and_true, exists_const, exists_eq_left, sz0, sz1, sz2, sz3, sz4, sz5, sz6, sz7, sz8, sz9, sz10]
    refine (held_ok (ch := []) P.hsk P.hln.len P.hrs (by simp)).mono fun w G2 q => ?_
    obtain ⟨rfl, f2⟩ := q
    have hrow : isrV (growM sk ln rs) [] (.tup (row.map W.int)) = isr (growM sk ln rs) [] row := isrW_ints row []
    rw [hrow]
    refine so_seq (so_forI (row.map W.int) (fun i E G3 => ∃ ch x4, E = [some (prW sk ln rs), some (.tup (row.map W.int)), some (.tup (ch.map W.int)), some (.tup ((stuckN sk ln rs ch).map W.int)), x4] ∧ Chc sk ch ∧ isr (growM sk ln rs) [] row = isr (growM sk ln rs) ch (row.drop i) ∧ Fr [] G G3) ?_ ?_ ?_)
    · simp only [s_bin, s_def, s_defK, s_call, s_cons, v_nil, s_var, v_c, s_lst, s_tup, s_test, s_tru, s_notT, s_andT, s_orT, s_and, s_or, s_not, s_if, s_neg, s_meth, s_cut, v_nopart, s_part, s_chain, s_seq, s_rng1, s_rng2, s_enum, s_zipL, s_tupR1, s_tupR2, s_yes, List.getElem?_cons_zero, List.getElem?_cons_succ, Option.some.injEq, exists_eq_left', v_ok, e_add, e_sub, e_int, e_min, e_max, e_maxU, e_lenT, e_tupT, e_lt, e_le, e_gt, e_ge, i_tup, e_cutT, List.set_cons_succ, List.set_cons_zero, List.length_cons, List.length_nil, Nat.reduceAdd, W.int.injEq, W.bl.injEq, W.ref.injEq, W.tup.injEq, W.str.injEq, reduceCtorEq, false_and, and_false, exists_false, or_false, false_or, true_and, and_true, exists_const, exists_eq_left, sz0, sz1, sz2, sz3, sz4, sz5, sz6, sz7, sz8, sz9, sz10]
      have it := it_tup [] G2 (row.map W.int)
      exact ⟨it.len, ⟨[], none, rfl, Chc.nil, rfl, f1.trans f2⟩, fun i E' G' q => (it_tup [] G' (row.map W.int)).at' G' i Fr.refl⟩
    · rintro i w E G3 hw ⟨ch, x4, rfl, hc, hd, f3⟩
      obtain ⟨j, hj, rfl⟩ := map_get hw
      obtain ⟨hil, hje⟩ := List.getElem?_eq_some_iff.mp hj
      rw [List.drop_eq_getElem_cons hil, hje] at hd
      have hcl := ok.len hc
      have hsl := stuckN_len (ln := ln) (rs := rs) (ch := ch) h24
      simp only [p2_c, p3_c, pT2_c, pT3_c, t_asg, t_expr, t_ret, t_if, t_nx, t_par, t_par3, g_set, g_tup2, g_tup3, g_put, s_bin, s_def, s_defK, s_call, s_cons, v_nil, s_var, v_c, s_lst, s_tup, s_test, s_tru, s_notT, s_andT, s_orT, s_and, s_or, s_not, s_if, s_neg, s_meth, s_cut, v_nopart, s_part, s_chain, s_seq, s_rng1, s_rng2, s_enum, s_zipL, s_tupR1, s_tupR2, s_yes, List.getElem?_cons_zero, List.getElem?_cons_succ, Option.some.injEq, exists_eq_left', v_ok, e_add, e_sub, e_int, e_min, e_max, e_maxU, e_lenT, e_tupT, e_lt, e_le, e_gt, e_ge, i_tup, e_cutT, List.set_cons_succ, List.set_cons_zero, List.length_cons, List.length_nil, Nat.reduceAdd, W.int.injEq, W.bl.injEq, W.ref.injEq, W.tup.injEq, W.str.injEq, reduceCtorEq, false_and, and_false, exists_false, or_false, false_or, true_and, and_true, exists_const, exists_eq_left, sz0, sz1, sz2, sz3, sz4, sz5, sz6, sz7, sz8, sz9, sz10]
      refine so_seq ?_
      simp only [p2_c, p3_c, pT2_c, pT3_c, t_asg, t_expr, t_ret, t_if, t_nx, t_par, t_par3, g_set, g_tup2, g_tup3, g_put, s_bin, s_def, s_defK, s_call, s_cons, v_nil, s_var, v_c, s_lst, s_tup, s_test, s_tru, s_notT, s_andT, s_orT, s_and, s_or, s_not, s_if, s_neg, s_meth, s_cut, v_nopart, s_part, s_chain, s_seq, s_rng1, s_rng2, s_enum, s_zipL, s_tupR1, s_tupR2, s_yes, List.getElem?_cons_zero, List.getElem?_cons_succ, Option.some.injEq, exists_eq_left', v_ok, e_add, e_sub, e_int, e_min, e_max, e_maxU, e_lenT, e_tupT, e_lt, e_le, e_gt, e_ge, i_tup, e_cutT, List.set_cons_succ, List.set_cons_zero, List.length_cons, List.length_nil, Nat.reduceAdd, W.int.injEq, W.bl.injEq, W.ref.injEq, W.tup.injEq, W.str.injEq, reduceCtorEq, false_and, and_false, exists_false, or_false, false_or, true_and, and_true, exists_const, exists_eq_left, sz0, sz1, sz2, sz3, sz4, sz5, sz6, sz7, sz8, sz9, sz10, notin_ch .tup]
      by_cases e : j ∈ stuckN sk ln rs ch
      · simp only [e, decide_true, Bool.not_true, Bool.false_eq_true, if_false]
        refine so_seq ?_
        simp only [p2_c, p3_c, pT2_c, pT3_c, t_asg, t_expr, t_ret, t_if, t_nx, t_par, t_par3, g_set, g_tup2, g_tup3, g_put, s_bin, s_def, s_defK, s_call, s_cons, v_nil, s_var, v_c, s_lst, s_tup, s_test, s_tru, s_notT, s_andT, s_orT, s_and, s_or, s_not, s_if, s_neg, s_meth, s_cut, v_nopart, s_part, s_chain, s_seq, s_rng1, s_rng2, s_enum, s_zipL, s_tupR1, s_tupR2, s_yes, List.getElem?_cons_zero, List.getElem?_cons_succ, Option.some.injEq, exists_eq_left', v_ok, e_add, e_sub, e_int, e_min, e_max, e_maxU, e_lenT, e_tupT, e_lt, e_le, e_gt, e_ge, i_tup, e_cutT, List.set_cons_succ, List.set_cons_zero, List.length_cons, List.length_nil, Nat.reduceAdd, W.int.injEq, W.bl.injEq, W.ref.injEq, W.tup.injEq, W.str.injEq, reduceCtorEq, false_and, and_false, exists_false, or_false, false_or, true_and, and_true, exists_const, exists_eq_left, sz0, sz1, sz2, sz3, sz4, sz5, sz6, sz7, sz8, sz9, sz10]
        rw [e_addT (by simp; omega)]
        have e2 : ch.map W.int ++ [W.int j] = (ch ++ [j]).map W.int := by simp
        have hso : sortedTW G3 [.tup ((ch ++ [j]).map W.int)] = .ok (.ref G3.length) (G3 ++ [.lst ((nxt ch j).map W.int)]) := by
          unfold sortedTW
          simp only [intsW_map]
          rw [if_pos (by simp; omega)]; rfl
        rw [e2]
        simp only [s_bin, s_def, s_defK, s_call, s_cons, v_nil, s_var, v_c, s_lst, s_tup, s_test, s_tru, s_notT, s_andT, s_orT, s_and, s_or, s_not, s_if, s_neg, s_meth, s_cut, v_nopart, s_part, s_chain, s_seq, s_rng1, s_rng2, s_enum, s_zipL, s_tupR1, s_tupR2, s_yes, List.getElem?_cons_zero, List.getElem?_cons_succ, Option.some.injEq, exists_eq_left', v_ok, e_add, e_sub, e_int, e_min, e_max, e_maxU, e_lenT, e_tupT, e_lt, e_le, e_gt, e_ge, i_tup, e_cutT, List.set_cons_succ, List.set_cons_zero, List.length_cons, List.length_nil, Nat.reduceAdd, W.int.injEq, W.bl.injEq, W.ref.injEq, W.tup.injEq, W.str.injEq, reduceCtorEq, false_and, and_false, exists_false, or_false, false_or, true_and, and_true, exists_const, exists_eq_left, sz0, sz1, sz2, sz3, sz4, sz5, sz6, sz7, sz8, sz9, sz10, hso]
        rw [e_tupL (push_get _ _)]
        simp only [p2_c, p3_c, pT2_c, pT3_c, t_asg, t_expr, t_ret, t_if, t_nx, t_par, t_par3, g_set, g_tup2, g_tup3, g_put, s_bin, s_def, s_defK, s_call, s_cons, v_nil, s_var, v_c, s_lst, s_tup, s_test, s_tru, s_notT, s_andT, s_orT, s_and, s_or, s_not, s_if, s_neg, s_meth, s_cut, v_nopart, s_part, s_chain, s_seq, s_rng1, s_rng2, s_enum, s_zipL, s_tupR1, s_tupR2, s_yes, List.getElem?_cons_zero, List.getElem?_cons_succ, Option.some.injEq, exists_eq_left', v_ok, e_add, e_sub, e_int, e_min, e_max, e_maxU, e_lenT, e_tupT, e_lt, e_le, e_gt, e_ge, i_tup, e_cutT, List.set_cons_succ, List.set_cons_zero, List.length_cons, List.length_nil, Nat.reduceAdd, W.int.injEq, W.bl.injEq, W.ref.injEq, W.tup.injEq, W.str.injEq, reduceCtorEq, false_and, and_false, exists_false, or_false, false_or, true_and, and_true, exists_const, exists_eq_left, sz0, sz1, sz2, sz3, sz4, sz5, sz6, sz7, sz8, sz9, sz10]
        obtain ⟨hc2, _⟩ := ok.step hc e
        have hl2 := ok.len hc2
        refine (held_ok (ch := nxt ch j) P.hsk P.hln.len P.hrs (by have : (nxt ch j).length ≤ 24 := hl2; omega)).mono fun w G4 q => ?_
        obtain ⟨rfl, f4⟩ := q
        exact ⟨nxt ch j, _, rfl, hc2, by rw [hd]; exact if_pos e, f3.trans (Fr.push.trans f4)⟩
      · simp only [e, decide_false, Bool.not_false, if_true]
        exact ⟨by rw [hd]; exact (if_neg e).symm, f3⟩
    · rintro E G3 ⟨ch, x4, rfl, hc, hd, f3⟩
      rw [List.length_map, List.drop_length] at hd
      simp only [p2_c, p3_c, pT2_c, pT3_c, t_asg, t_expr, t_ret, t_if, t_nx, t_par, t_par3, g_set, g_tup2, g_tup3, g_put, s_bin, s_def, s_defK, s_call, s_cons, v_nil, s_var, v_c, s_lst, s_tup, s_test, s_tru, s_notT, s_andT, s_orT, s_and, s_or, s_not, s_if, s_neg, s_meth, s_cut, v_nopart, s_part, s_chain, s_seq, s_rng1, s_rng2, s_enum, s_zipL, s_tupR1, s_tupR2, s_yes, List.getElem?_cons_zero, List.getElem?_cons_succ, Option.some.injEq, exists_eq_left', v_ok, e_add, e_sub, e_int, e_min, e_max, e_maxU, e_lenT, e_tupT, e_lt, e_le, e_gt, e_ge, i_tup, e_cutT, List.set_cons_succ, List.set_cons_zero, List.length_cons, List.length_nil, Nat.reduceAdd, W.int.injEq, W.bl.injEq, W.ref.injEq, W.tup.injEq, W.str.injEq, reduceCtorEq, false_and, and_false, exists_false, or_false, false_or, true_and, and_true, exists_const, exists_eq_left, sz0, sz1, sz2, sz3, sz4, sz5, sz6, sz7, sz8, sz9, sz10, eq_nilT]
      exact ⟨by rw [hd]; rfl, f3⟩
theorem is_shrinking_ok {sk : List It} {ln rs : List Int} {G : Cells} {n0 : Nat} {ns : List Nat} {w : W} (P : Prg sk ln rs) (hv : gv [] G (n0 :: ns) w) (hn0 : n0 ≤ 1000) :
    (M_law_is_shrinking [prW sk ln rs, w] G).sat fun x G' => x = .bl (isrV (shrM sk ln rs) (jumpsN sk) w) ∧ Fr [] G G' := by
  have h24 := P.hsk.len2
  have ok := shrOk (ln := ln) (rs := rs) h24
  have p0 : ∀ G : Cells, getW G (prW sk ln rs) (.int 0) = .ok (skW sk) G := fun G => e_getT rfl (by decide)
  refine fun_sat rfl ?_
  show (B_law_is_shrinking [some (prW sk ln rs), some w, none, none, none, none] G).sat _ _
  unfold B_law_is_shrinking
  refine so_seq ?_
  simp only [p2_c, p3_c, pT2_c, pT3_c, t_asg, t_expr, t_ret, t_if, t_nx, t_par, t_par3, g_set, g_tup2, g_tup3, g_put, s_bin, s_def, s_defK, s_call, s_cons, v_nil, s_var, v_c, s_lst, s_tup, s_test, s_tru, s_notT, s_andT, s_orT, s_and, s_or, s_not, s_if, s_neg, s_meth, s_cut, v_nopart, s_part, s_chain, s_seq, s_rng1, s_rng2, s_enum, s_zipL, s_tupR1, s_tupR2, s_yes, List.getElem?_cons_zero, List.getElem?_cons_succ, Option.some.injEq, exists_eq_left', v_ok, e_add, e_sub, e_int, e_min, e_max, e_maxU, e_lenT, e_tupT, e_lt, e_le, e_gt, e_ge, i_tup, e_cutT, List.set_cons_succ, List.set_cons_zero, List.length_cons, List.length_nil, Nat.reduceAdd, W.int.injEq, W.bl.injEq, W.ref.injEq, W.tup.injEq, W.str.injEq, reduceCtorEq, false_and, and_false, exists_false, or_false, false_or, true_and, and_true, exists_const, exists_eq_left, sz0, sz1, sz2, sz3, sz4, sz5, sz6, sz7, sz8, sz9, sz10]
  refine (are_jumps_ok hv hn0).mono fun x G1 q => ?_
  obtain ⟨rfl, f1⟩ := q
  simp only [truW, Option.some.injEq, exists_eq_left']
  cases ha : areB w with
  | false =>
    simp only [Bool.not_false, if_true]
    rw [areB_no ha]; exact ⟨rfl, f1⟩
  | true =>
    obtain ⟨row, rfl⟩ := areB_inv ha
    have hrl : row.length ≤ 1000 := by have := hv.1; simp at this; omega
    simp only [Bool.not_true, Bool.false_eq_true, if_false]
    refine so_seq ?_
    simp only [p2_c, p3_c, pT2_c, pT3_c, t_asg, t_expr, t_ret, t_if, t_nx, t_par, t_par3, g_set, g_tup2, g_tup3, g_put, s_bin, s_def, s_defK, s_call, s_cons, v_nil, s_var, v_c, s_lst, s_tup, s_test, s_tru, s_notT, s_andT, s_orT, s_and, s_or, s_not, s_if, s_neg, s_meth, s_cut, v_nopart, s_part, s_chain, s_seq, s_rng1, s_rng2, s_enum, s_zipL, s_tupR1, s_tupR2, s_yes, List.getElem?_cons_zero, List.getElem?_cons_succ, Option.some.injEq, exists_eq_left', v_ok, e_add, e_sub, e_int, e_min, e_max, e_maxU, e_lenT, e_tupT, e_lt, e_le, e_gt, e_ge, i_tup, e_cutT, List.set_cons_succ, List.set_cons_zero, List.length_cons, List.length_nil, Nat.reduceAdd, W.int.injEq, W.bl.injEq, W.ref.injEq, W.tup.injEq, W.str.injEq, reduceCtorEq, false_and, and_false, exists_false, or_false, false_or, true_and, and_true, exists_const, exists_eq_left, sz0, sz1, sz2, sz3, sz4, sz5, sz6, sz7, sz8, sz9, sz10, p0]
    refine (jumps_ok h24).mono fun w Ga q => ?_
    obtain ⟨jn, rfl, hjn, hgj, fa⟩ := q
    rw [e_tupL hgj]
    simp only [p2_c, p3_c, pT2_c, pT3_c, t_asg, t_expr, t_ret, t_if, t_nx, t_par, t_par3, g_set, g_tup2, g_tup3, g_put, s_bin, s_def, s_defK, s_call, s_cons, v_nil, s_var, v_c, s_lst, s_tup, s_test, s_tru, s_notT, s_andT, s_orT, s_and, s_or, s_not, s_if, s_neg, s_meth, s_cut, v_nopart, s_part, s_chain, s_seq, s_rng1, s_rng2, s_enum, s_zipL, s_tupR1, s_tupR2, s_yes, List.getElem?_cons_zero, List.getElem?_cons_succ, Option.some.injEq, exists_eq_left', v_ok, e_add, e_sub, e_int, e_min, e_max, e_maxU, e_lenT, e_tupT, e_lt, e_le, e_gt, e_ge, i_tup, e_cutT, List.set_cons_succ, List.set_cons_zero, List.length_cons, List.length_nil, Nat.reduceAdd, W.int.injEq, W.bl.injEq, W.ref.injEq, W.tup.injEq, W.str.injEq, reduceCtorEq, false_and, and_false, exists_false, or_false, false_or, true_and, and_true, exists_const, exists_eq_left, sz0, sz1, sz2, sz3, sz4, sz5, sz6, sz7, sz8, sz9, sz10]
    refine so_seq ?_
    simp only [p2_c, p3_c, pT2_c, pT3_c, t_asg, t_expr, t_ret, t_if, t_nx, t_par, t_par3, g_set, g_tup2, g_tup3, g_put, s_bin, s_def, s_defK, s_call, s_cons, v_nil, s_var, v_c, s_lst, s_tup, s_test, s_tru, s_notT, s_andT, s_orT, s_and, s_or, s_not, s_if, s_neg, s_meth, s_cut, v_nopart, s_part, s_chain, s_seq, s_rng1, s_rng2, s_enum, s_zipL, s_tupR1, s_tupR2, s_yes, List.getElem?_cons_zero, List.getElem?_cons_succ, Option.some.injEq, exists_eq_left', v_ok, e_add, e_sub, e_int, e_min, e_max, e_maxU, e_lenT, e_tupT, e_lt, e_le, e_gt, e_ge, i_tup, e_cutT, List.set_cons_succ, List.set_cons_zero, List.length_cons, List.length_nil, Nat.reduceAdd, W.int.injEq, W.bl.injEq, W.ref.injEq, W.tup.injEq, W.str.injEq, reduceCtorEq, false_and, and_false, exists_false, or_false, false_or, true_and, and_true, exists_const, exists_eq_left, sz0, sz1, sz2, sz3, sz4, sz5, sz6, sz7, sz8, sz9, sz10]
    refine (leaves_ok P Chc.all).mono fun w G2 q => ?_
    obtain ⟨n, rfl, hn, hgn, fb⟩ := q
    have hrow : isrV (shrM sk ln rs) (jumpsN sk) (.tup (row.map W.int)) = isr (shrM sk ln rs) (jumpsN sk) row := isrW_ints row _
    rw [hrow]
    refine so_seq (so_forI (row.map W.int) (fun i E G3 => ∃ ch n x4 x5, E = [some (prW sk ln rs), some (.tup (row.map W.int)), some (.tup (ch.map W.int)), some (.ref n), x4, x5] ∧ G3[n]? = some (.lst ((shrJ sk ln rs ch).map W.int)) ∧ Chc sk ch ∧ isr (shrM sk ln rs) (jumpsN sk) row = isr (shrM sk ln rs) ch (row.drop i) ∧ Fr [] G G3) ?_ ?_ ?_)
    · simp only [s_bin, s_def, s_defK, s_call, s_cons, v_nil, s_var, v_c, s_lst, s_tup, s_test, s_tru, s_notT, s_andT, s_orT, s_and, s_or, s_not, s_if, s_neg, s_meth, s_cut, v_nopart, s_part, s_chain, s_seq, s_rng1, s_rng2, s_enum, s_zipL, s_tupR1, s_tupR2, s_yes, List.getElem?_cons_zero, List.getElem?_cons_succ, Option.some.injEq, exists_eq_left', v_ok, e_add, e_sub, e_int, e_min, e_max, e_maxU, e_lenT, e_tupT, e_lt, e_le, e_gt, e_ge, i_tup, e_cutT, List.set_cons_succ, List.set_cons_zero, List.length_cons, List.length_nil, Nat.reduceAdd, W.int.injEq, W.bl.injEq, W.ref.injEq, W.tup.injEq, W.str.injEq, reduceCtorEq, false_and, and_false, exists_false, or_false, false_or, true_and, and_true, exists_const, exists_eq_left, sz0, sz1, sz2, sz3, sz4, sz5, sz6, sz7, sz8, sz9, sz10]
      have it := it_tup [] G2 (row.map W.int)
      exact ⟨it.len, ⟨jumpsN sk, n, none, none, rfl, hgn, Chc.all, rfl, f1.trans (fa.trans fb)⟩, fun i E' G' q => (it_tup [] G' (row.map W.int)).at' G' i Fr.refl⟩
    · rintro i w E G3 hw ⟨ch, n, x4, x5, rfl, hgn, hc, hd, f3⟩
      obtain ⟨j, hj, rfl⟩ := map_get hw
      obtain ⟨hil, hje⟩ := List.getElem?_eq_some_iff.mp hj
      rw [List.drop_eq_getElem_cons hil, hje] at hd
      have hcl := ok.len hc
      simp only [p2_c, p3_c, pT2_c, pT3_c, t_asg, t_expr, t_ret, t_if, t_nx, t_par, t_par3, g_set, g_tup2, g_tup3, g_put, s_bin, s_def, s_defK, s_call, s_cons, v_nil, s_var, v_c, s_lst, s_tup, s_test, s_tru, s_notT, s_andT, s_orT, s_and, s_or, s_not, s_if, s_neg, s_meth, s_cut, v_nopart, s_part, s_chain, s_seq, s_rng1, s_rng2, s_enum, s_zipL, s_tupR1, s_tupR2, s_yes, List.getElem?_cons_zero, List.getElem?_cons_succ, Option.some.injEq, exists_eq_left', v_ok, e_add, e_sub, e_int, e_min, e_max, e_maxU, e_lenT, e_tupT, e_lt, e_le, e_gt, e_ge, i_tup, e_cutT, List.set_cons_succ, List.set_cons_zero, List.length_cons, List.length_nil, Nat.reduceAdd, W.int.injEq, W.bl.injEq, W.ref.injEq, W.tup.injEq, W.str.injEq, reduceCtorEq, false_and, and_false, exists_false, or_false, false_or, true_and, and_true, exists_const, exists_eq_left, sz0, sz1, sz2, sz3, sz4, sz5, sz6, sz7, sz8, sz9, sz10]
      refine so_seq ?_
      simp only [p2_c, p3_c, pT2_c, pT3_c, t_asg, t_expr, t_ret, t_if, t_nx, t_par, t_par3, g_set, g_tup2, g_tup3, g_put, s_bin, s_def, s_defK, s_call, s_cons, v_nil, s_var, v_c, s_lst, s_tup, s_test, s_tru, s_notT, s_andT, s_orT, s_and, s_or, s_not, s_if, s_neg, s_meth, s_cut, v_nopart, s_part, s_chain, s_seq, s_rng1, s_rng2, s_enum, s_zipL, s_tupR1, s_tupR2, s_yes, List.getElem?_cons_zero, List.getElem?_cons_succ, Option.some.injEq, exists_eq_left', v_ok, e_add, e_sub, e_int, e_min, e_max, e_maxU, e_lenT, e_tupT, e_lt, e_le, e_gt, e_ge, i_tup, e_cutT, List.set_cons_succ, List.set_cons_zero, List.length_cons, List.length_nil, Nat.reduceAdd, W.int.injEq, W.bl.injEq, W.ref.injEq, W.tup.injEq, W.str.injEq, reduceCtorEq, false_and, and_false, exists_false, or_false, false_or, true_and, and_true, exists_const, exists_eq_left, sz0, sz1, sz2, sz3, sz4, sz5, sz6, sz7, sz8, sz9, sz10, notin_ch (.lst hgn)]
      by_cases e : j ∈ shrJ sk ln rs ch
      · simp only [e, decide_true, Bool.not_true, Bool.false_eq_true, if_false]
        refine so_seq ?_
        simp only [p2_c, p3_c, pT2_c, pT3_c, t_asg, t_expr, t_ret, t_if, t_nx, t_par, t_par3, g_set, g_tup2, g_tup3, g_put]
        rw [s_call, s_cons]
        refine ne_lc (ch := ch) (k := 5) (k' := 4) (j := j) (by omega) (by simp only [s_bin, s_def, s_defK, s_call, s_cons, v_nil, s_var, v_c, s_lst, s_tup, s_test, s_tru, s_notT, s_andT, s_orT, s_and, s_or, s_not, s_if, s_neg, s_meth, s_cut, v_nopart, s_part, s_chain, s_seq, s_rng1, s_rng2, s_enum, s_zipL, s_tupR1, s_tupR2, s_yes, List.getElem?_cons_zero, List.getElem?_cons_succ, Option.some.injEq, exists_eq_left', v_ok, e_add, e_sub, e_int, e_min, e_max, e_maxU, e_lenT, e_tupT, e_lt, e_le, e_gt, e_ge, i_tup, e_cutT, List.set_cons_succ, List.set_cons_zero, List.length_cons, List.length_nil, Nat.reduceAdd, W.int.injEq, W.bl.injEq, W.ref.injEq, W.tup.injEq, W.str.injEq, reduceCtorEq, false_and, and_false, exists_false, or_false, false_or, true_and, and_true, exists_const, exists_eq_left, sz0, sz1, sz2, sz3, sz4, sz5, sz6, sz7, sz8, sz9, sz10]; exact ⟨Fr.refl, it_tup _ _ _⟩) (fun w => rfl) (fun w => rfl) fun n4 G4 f4 hn4 hg4 => ?_
        simp only [p2_c, p3_c, pT2_c, pT3_c, t_asg, t_expr, t_ret, t_if, t_nx, t_par, t_par3, g_set, g_tup2, g_tup3, g_put, s_bin, s_def, s_defK, s_call, s_cons, v_nil, s_var, v_c, s_lst, s_tup, s_test, s_tru, s_notT, s_andT, s_orT, s_and, s_or, s_not, s_if, s_neg, s_meth, s_cut, v_nopart, s_part, s_chain, s_seq, s_rng1, s_rng2, s_enum, s_zipL, s_tupR1, s_tupR2, s_yes, List.getElem?_cons_zero, List.getElem?_cons_succ, Option.some.injEq, exists_eq_left', v_ok, e_add, e_sub, e_int, e_min, e_max, e_maxU, e_lenT, e_tupT, e_lt, e_le, e_gt, e_ge, i_tup, e_cutT, List.set_cons_succ, List.set_cons_zero, List.length_cons, List.length_nil, Nat.reduceAdd, W.int.injEq, W.bl.injEq, W.ref.injEq, W.tup.injEq, W.str.injEq, reduceCtorEq, false_and, and_false, exists_false, or_false, false_or, true_and, and_true, exists_const, exists_eq_left, sz0, sz1, sz2, sz3, sz4, sz5, sz6, sz7, sz8, sz9, sz10]
        rw [e_tupL hg4]
        simp only [p2_c, p3_c, pT2_c, pT3_c, t_asg, t_expr, t_ret, t_if, t_nx, t_par, t_par3, g_set, g_tup2, g_tup3, g_put, s_bin, s_def, s_defK, s_call, s_cons, v_nil, s_var, v_c, s_lst, s_tup, s_test, s_tru, s_notT, s_andT, s_orT, s_and, s_or, s_not, s_if, s_neg, s_meth, s_cut, v_nopart, s_part, s_chain, s_seq, s_rng1, s_rng2, s_enum, s_zipL, s_tupR1, s_tupR2, s_yes, List.getElem?_cons_zero, List.getElem?_cons_succ, Option.some.injEq, exists_eq_left', v_ok, e_add, e_sub, e_int, e_min, e_max, e_maxU, e_lenT, e_tupT, e_lt, e_le, e_gt, e_ge, i_tup, e_cutT, List.set_cons_succ, List.set_cons_zero, List.length_cons, List.length_nil, Nat.reduceAdd, W.int.injEq, W.bl.injEq, W.ref.injEq, W.tup.injEq, W.str.injEq, reduceCtorEq, false_and, and_false, exists_false, or_false, false_or, true_and, and_true, exists_const, exists_eq_left, sz0, sz1, sz2, sz3, sz4, sz5, sz6, sz7, sz8, sz9, sz10]
        obtain ⟨hc2, _⟩ := ok.step hc e
        refine (leaves_ok (ch := noI ch j) P hc2).mono fun w G5 q => ?_
        obtain ⟨n5, rfl, hn5, hg5, f5⟩ := q
        exact ⟨noI ch j, n5, _, _, rfl, hg5, hc2, by rw [hd]; exact if_pos e, f3.trans (f4.trans f5)⟩
      · simp only [e, decide_false, Bool.not_false, if_true]
        exact ⟨by rw [hd]; exact (if_neg e).symm, f3⟩
    · rintro E G3 ⟨ch, n, x4, x5, rfl, hgn, hc, hd, f3⟩
      rw [List.length_map, List.drop_length] at hd
      have fz : Fr [] G3 (G3 ++ [.lst []]) := Fr.push
      simp only [p2_c, p3_c, pT2_c, pT3_c, t_asg, t_expr, t_ret, t_if, t_nx, t_par, t_par3, g_set, g_tup2, g_tup3, g_put, s_bin, s_def, s_defK, s_call, s_cons, v_nil, s_var, v_c, s_lst, s_tup, s_test, s_tru, s_notT, s_andT, s_orT, s_and, s_or, s_not, s_if, s_neg, s_meth, s_cut, v_nopart, s_part, s_chain, s_seq, s_rng1, s_rng2, s_enum, s_zipL, s_tupR1, s_tupR2, s_yes, List.getElem?_cons_zero, List.getElem?_cons_succ, Option.some.injEq, exists_eq_left', v_ok, e_add, e_sub, e_int, e_min, e_max, e_maxU, e_lenT, e_tupT, e_lt, e_le, e_gt, e_ge, i_tup, e_cutT, List.set_cons_succ, List.set_cons_zero, List.length_cons, List.length_nil, Nat.reduceAdd, W.int.injEq, W.bl.injEq, W.ref.injEq, W.tup.injEq, W.str.injEq, reduceCtorEq, false_and, and_false, exists_false, or_false, false_or, true_and, and_true, exists_const, exists_eq_left, sz0, sz1, sz2, sz3, sz4, sz5, sz6, sz7, sz8, sz9, sz10]
      rw [eq_intsE (fz.get hgn (by simp)) (push_get _ _)]
      exact ⟨by rw [hd]; rfl, f3.trans fz⟩
end NS
/- part V20t -/
set_option maxHeartbeats 1000000
namespace NS
open PySem PySem.Spec PyProof.Rows L2 PL

theorem pickL {v : Nat → Addr} (hv : v 0 ≠ v 1) : PickF v (v 0) M_longer := fun h => s_defL2a h rfl
theorem pickS {v : Nat → Addr} (hv : v 0 ≠ v 1) : PickF v (v 1) M_shorter := fun h => s_defL2b h rfl hv
theorem row_holdsV_ok {v : Nat → Addr} (hv : v 0 ≠ v 1) {sk : List It} {ln rs : List Int} {G : Cells} {n0 : Nat} {ns : List Nat} {w : W} (P : Prg sk ln rs) (hw : gv [] G (n0 :: ns) w) (hn0 : n0 ≤ 1000) :
    (Mrow_holds v [prW sk ln rs, w] G).sat fun x G' => x = .bl (isrV (growM sk ln rs) [] w) ∧ Fr [] G G' := by
  refine fun_sat rfl ?_
  show (Brow_holds v [some (prW sk ln rs), some w] G).sat _ _
  unfold Brow_holds
  simp only [p2_c, p3_c, pT2_c, pT3_c, t_asg, t_expr, t_ret, t_if, t_nx, t_par, t_par3, g_set, g_tup2, g_tup3, g_put, s_bin, s_def, s_defK, s_call, s_cons, v_nil, s_var, v_c, s_lst, s_tup, s_test, s_tru, s_notT, s_andT, s_orT, s_and, s_or, s_not, s_if, s_neg, s_meth, s_cut, v_nopart, s_part, s_chain, s_seq, s_rng1, s_rng2, s_enum, s_zipL, s_tupR1, s_tupR2, s_yes, List.getElem?_cons_zero, List.getElem?_cons_succ, Option.some.injEq, exists_eq_left', v_ok, e_add, e_sub, e_int, e_min, e_max, e_maxU, e_lenT, e_tupT, e_lt, e_le, e_gt, e_ge, i_tup, e_cutT, List.set_cons_succ, List.set_cons_zero, List.length_cons, List.length_nil, Nat.reduceAdd, W.int.injEq, W.bl.injEq, W.ref.injEq, W.tup.injEq, W.str.injEq, reduceCtorEq, false_and, and_false, exists_false, or_false, false_or, true_and, and_true, exists_const, exists_eq_left, sz0, sz1, sz2, sz3, sz4, sz5, sz6, sz7, sz8, sz9, sz10]
  exact is_rowV_ok (ch0 := []) (pickL hv) (growF P) (growOk P.hsk.len2) Chc.nil hw hn0
theorem shrink_holdsV_ok {v : Nat → Addr} (hv : v 0 ≠ v 1) {sk : List It} {ln rs : List Int} {G : Cells} {n0 : Nat} {ns : List Nat} {w : W} (P : Prg sk ln rs) (hw : gv [] G (n0 :: ns) w) (hn0 : n0 ≤ 1000) :
    (Mshrink_holds v [prW sk ln rs, w] G).sat fun x G' => x = .bl (isrV (shrM sk ln rs) (jumpsN sk) w) ∧ Fr [] G G' := by
  refine fun_sat rfl ?_
  show (Bshrink_holds v [some (prW sk ln rs), some w] G).sat _ _
  unfold Bshrink_holds
  have p0 : ∀ G : Cells, getW G (prW sk ln rs) (.int 0) = .ok (skW sk) G := fun G => e_getT rfl (by decide)
  simp only [p2_c, p3_c, pT2_c, pT3_c, t_asg, t_expr, t_ret, t_if, t_nx, t_par, t_par3, g_set, g_tup2, g_tup3, g_put, s_bin, s_def, s_defK, s_call, s_cons, v_nil, s_var, v_c, s_lst, s_tup, s_test, s_tru, s_notT, s_andT, s_orT, s_and, s_or, s_not, s_if, s_neg, s_meth, s_cut, v_nopart, s_part, s_chain, s_seq, s_rng1, s_rng2, s_enum, s_zipL, s_tupR1, s_tupR2, s_yes, List.getElem?_cons_zero, List.getElem?_cons_succ, Option.some.injEq, exists_eq_left', v_ok, e_add, e_sub, e_int, e_min, e_max, e_maxU, e_lenT, e_tupT, e_lt, e_le, e_gt, e_ge, i_tup, e_cutT, List.set_cons_succ, List.set_cons_zero, List.length_cons, List.length_nil, Nat.reduceAdd, W.int.injEq, W.bl.injEq, W.ref.injEq, W.tup.injEq, W.str.injEq, reduceCtorEq, false_and, and_false, exists_false, or_false, false_or, true_and, and_true, exists_const, exists_eq_left, sz0, sz1, sz2, sz3, sz4, sz5, sz6, sz7, sz8, sz9, sz10, p0]
  refine (jumps_of_ok P.hsk.len2).mono fun w G1 q => ?_
  obtain ⟨rfl, f1⟩ := q
  exact (is_rowV_ok (ch0 := jumpsN sk) (pickS hv) (shrF P) (shrOk P.hsk.len2) Chc.all (gv.mono f1 hw) hn0).mono fun w G2 q => ⟨q.1, f1.trans q.2⟩
theorem pv_repr {sk : List It} {ln rs : List Int} {G : Cells} {w : W} (P : Prg sk ln rs) (hw : gv [] G [60, 60] w) : ∃ x : Str, ∀ G' n, Fr [] G G' → G'[n]? = some (.lst [prW sk ln rs, w]) → reprW G' [.ref n] = .ok (.str x) G' := by
  obtain ⟨d, h1, h2, h3⟩ := gv_dat hw 59 (by decide)
  refine ⟨(PyData.list [prD sk ln rs, d]).shown, fun G' n f h => repr_ok (b := 500000) (da_lst h ?_) ?_ (by decide)⟩
  · have e1 := pr_dat G' 55 sk ln rs
    have e2 := dat_mono f hw 59
    simp only [mapO, e1, e2, h1]
  · refine (sh_lst (b := 200000) (n := 2) (by simp) fun e he => ?_).wide (by decide)
    simp only [List.mem_cons, List.not_mem_nil, or_false] at he
    rcases he with rfl | rfl
    · exact (pr_sh P).wide (by decide)
    · exact ⟨h2, Nat.le_trans h3 (by decide)⟩
theorem two_repr (G : Cells) (a b : Bool) {n : Nat} (h : G[n]? = some (.lst [.bl a, .bl b])) : reprW G [.ref n] = .ok (.str (PyData.list [.bool a, .bool b]).shown) G := by
  refine repr_ok (b := 1000) (da_lst h rfl) ?_ (by decide)
  refine (sh_lst (b := 44) (n := 2) (by simp) fun e he => ?_).wide (by decide)
  simp only [List.mem_cons, List.not_mem_nil, or_false] at he
  rcases he with rfl | rfl <;> exact sh_bl _
theorem told_ok {v : Nat → Addr} (hv : v 0 ≠ v 1) {sk : List It} {ln rs : List Int} {G : Cells} {w : W} {b : Bool} (P : Prg sk ln rs) (hw : gv [] G [60, 60] w) :
    (M_law_is_told v [prW sk ln rs, w, .bl b] G).sat fun x G' => x = .bl true ∧ Fr [] G G' := by
  refine fun_sat rfl ?_
  show (B_law_is_told v [some (prW sk ln rs), some w, some (.bl b), none, none, none] G).sat _ _
  unfold B_law_is_told
  obtain ⟨x, hx⟩ := pv_repr P hw
  refine so_seq ?_
  have f1 : Fr [] G (G ++ [.lst [prW sk ln rs, w]]) := Fr.push
  simp only [p2_c, p3_c, pT2_c, pT3_c, t_asg, t_expr, t_ret, t_if, t_nx, t_par, t_par3, g_set, g_tup2, g_tup3, g_put, s_bin, s_def, s_defK, s_call, s_cons, v_nil, s_var, v_c, s_lst, s_tup, s_test, s_tru, s_notT, s_andT, s_orT, s_and, s_or, s_not, s_if, s_neg, s_meth, s_cut, v_nopart, s_part, s_chain, s_seq, s_rng1, s_rng2, s_enum, s_zipL, s_tupR1, s_tupR2, s_yes, List.getElem?_cons_zero, List.getElem?_cons_succ, Option.some.injEq, exists_eq_left', v_ok, e_add, e_sub, e_int, e_min, e_max, e_maxU, e_lenT, e_tupT, e_lt, e_le, e_gt, e_ge, i_tup, e_cutT, List.set_cons_succ, List.set_cons_zero, List.length_cons, List.length_nil, Nat.reduceAdd, W.int.injEq, W.bl.injEq, W.ref.injEq, W.tup.injEq, W.str.injEq, reduceCtorEq, false_and, and_false, exists_false, or_false, false_or, true_and, and_true, exists_const, exists_eq_left, sz0, sz1, sz2, sz3, sz4, sz5, sz6, sz7, sz8, sz9, sz10]
  rw [hx _ _ f1 (push_get _ _)]
  simp only [s_bin, s_def, s_defK, s_call, s_cons, v_nil, s_var, v_c, s_lst, s_tup, s_test, s_tru, s_notT, s_andT, s_orT, s_and, s_or, s_not, s_if, s_neg, s_meth, s_cut, v_nopart, s_part, s_chain, s_seq, s_rng1, s_rng2, s_enum, s_zipL, s_tupR1, s_tupR2, s_yes, List.getElem?_cons_zero, List.getElem?_cons_succ, Option.some.injEq, exists_eq_left', v_ok, e_add, e_sub, e_int, e_min, e_max, e_maxU, e_lenT, e_tupT, e_lt, e_le, e_gt, e_ge, i_tup, e_cutT, List.set_cons_succ, List.set_cons_zero, List.length_cons, List.length_nil, Nat.reduceAdd, W.int.injEq, W.bl.injEq, W.ref.injEq, W.tup.injEq, W.str.injEq, reduceCtorEq, false_and, and_false, exists_false, or_false, false_or, true_and, and_true, exists_const, exists_eq_left, sz0, sz1, sz2, sz3, sz4, sz5, sz6, sz7, sz8, sz9, sz10]
  generalize G ++ [Cell.lst [prW sk ln rs, w]] = G1 at *
  refine (is_growing_ok P (gv.mono f1 hw) (by decide)).mono fun y G2 q => ?_
  obtain ⟨rfl, f2⟩ := q
  have f02 := f1.trans f2
  refine (is_shrinking_ok P (gv.mono f02 hw) (by decide)).mono fun y G3 q => ?_
  obtain ⟨rfl, f3⟩ := q
  have f03 := f02.trans f3
  generalize hA : isrV (growM sk ln rs) [] w = A at *
  generalize hB : isrV (shrM sk ln rs) (jumpsN sk) w = B at *
  have h4 := push_get G3 (.lst [W.bl A, .bl B])
  have f4 : Fr [] G3 (G3 ++ [.lst [W.bl A, .bl B]]) := Fr.push
  have f04 := f03.trans f4
  try simp only [s_bin, s_def, s_defK, s_call, s_cons, v_nil, s_var, v_c, s_lst, s_tup, s_test, s_tru, s_notT, s_andT, s_orT, s_and, s_or, s_not, s_if, s_neg, s_meth, s_cut, v_nopart, s_part, s_chain, s_seq, s_rng1, s_rng2, s_enum, s_zipL, s_tupR1, s_tupR2, s_yes, List.getElem?_cons_zero, List.getElem?_cons_succ, Option.some.injEq, exists_eq_left', v_ok, e_add, e_sub, e_int, e_min, e_max, e_maxU, e_lenT, e_tupT, e_lt, e_le, e_gt, e_ge, i_tup, e_cutT, List.set_cons_succ, List.set_cons_zero, List.length_cons, List.length_nil, Nat.reduceAdd, W.int.injEq, W.bl.injEq, W.ref.injEq, W.tup.injEq, W.str.injEq, reduceCtorEq, false_and, and_false, exists_false, or_false, false_or, true_and, and_true, exists_const, exists_eq_left, sz0, sz1, sz2, sz3, sz4, sz5, sz6, sz7, sz8, sz9, sz10]
  generalize G3.length = n4 at *
  generalize G3 ++ [Cell.lst [W.bl A, .bl B]] = G4 at *
  refine so_seq ?_
  simp only [p2_c, p3_c, pT2_c, pT3_c, t_asg, t_expr, t_ret, t_if, t_nx, t_par, t_par3, g_set, g_tup2, g_tup3, g_put, s_bin, s_def, s_defK, s_call, s_cons, v_nil, s_var, v_c, s_lst, s_tup, s_test, s_tru, s_notT, s_andT, s_orT, s_and, s_or, s_not, s_if, s_neg, s_meth, s_cut, v_nopart, s_part, s_chain, s_seq, s_rng1, s_rng2, s_enum, s_zipL, s_tupR1, s_tupR2, s_yes, List.getElem?_cons_zero, List.getElem?_cons_succ, Option.some.injEq, exists_eq_left', v_ok, e_add, e_sub, e_int, e_min, e_max, e_maxU, e_lenT, e_tupT, e_lt, e_le, e_gt, e_ge, i_tup, e_cutT, List.set_cons_succ, List.set_cons_zero, List.length_cons, List.length_nil, Nat.reduceAdd, W.int.injEq, W.bl.injEq, W.ref.injEq, W.tup.injEq, W.str.injEq, reduceCtorEq, false_and, and_false, exists_false, or_false, false_or, true_and, and_true, exists_const, exists_eq_left, sz0, sz1, sz2, sz3, sz4, sz5, sz6, sz7, sz8, sz9, sz10]
  refine (row_holdsV_ok hv P (gv.mono f04 hw) (by decide)).mono fun y G5 q => ?_
  obtain ⟨rfl, f5⟩ := q
  have f05 := f04.trans f5
  refine (shrink_holdsV_ok hv P (gv.mono f05 hw) (by decide)).mono fun y G6 q => ?_
  obtain ⟨rfl, f6⟩ := q
  have f06 := f05.trans f6
  rw [hA, hB]
  have h7 := push_get G6 (.lst [W.bl A, .bl B])
  have f7 : Fr [] G6 (G6 ++ [.lst [W.bl A, .bl B]]) := Fr.push
  have f07 := f06.trans f7
  have h47 := (f5.trans (f6.trans f7)).get h4 (by simp)
  generalize G6.length = n7 at *
  generalize G6 ++ [Cell.lst [W.bl A, .bl B]] = G7 at *
  refine so_seq ?_
  have fin : ∀ (n8 : Nat) (G8 : Cells), Fr [] G7 G8 → G8[n8]? = some (.lst [W.bl A, .bl B]) → ((sRet (mAnd (mBin eqOp (mCall reprW (mCons (mVar 5) (mNil))) (mCall reprW (mCons (mVar 4) (mNil)))) (mBin eqOp (mCall reprW (mCons (mLst (mCons (mVar 0) (mCons (mVar 1) (mNil)))) (mNil))) (mVar 3)))) [some (prW sk ln rs), some w, some (.bl b), some (.str x), some (.ref n4), some (.ref n8)] G8).sat (fun _ _ => False) fun y G' => y = .bl true ∧ Fr [] G G' := by
    intro n8 G8 f8 h8
    have h48 := f8.get h47 (by simp)
    have fa : Fr [] G8 (G8 ++ [.lst [prW sk ln rs, w]]) := Fr.push
    have f0a := f07.trans (f8.trans fa)
    simp only [p2_c, p3_c, pT2_c, pT3_c, t_asg, t_expr, t_ret, t_if, t_nx, t_par, t_par3, g_set, g_tup2, g_tup3, g_put, s_bin, s_def, s_defK, s_call, s_cons, v_nil, s_var, v_c, s_lst, s_tup, s_test, s_tru, s_notT, s_andT, s_orT, s_and, s_or, s_not, s_if, s_neg, s_meth, s_cut, v_nopart, s_part, s_chain, s_seq, s_rng1, s_rng2, s_enum, s_zipL, s_tupR1, s_tupR2, s_yes, List.getElem?_cons_zero, List.getElem?_cons_succ, Option.some.injEq, exists_eq_left', v_ok, e_add, e_sub, e_int, e_min, e_max, e_maxU, e_lenT, e_tupT, e_lt, e_le, e_gt, e_ge, i_tup, e_cutT, List.set_cons_succ, List.set_cons_zero, List.length_cons, List.length_nil, Nat.reduceAdd, W.int.injEq, W.bl.injEq, W.ref.injEq, W.tup.injEq, W.str.injEq, reduceCtorEq, false_and, and_false, exists_false, or_false, false_or, true_and, and_true, exists_const, exists_eq_left, sz0, sz1, sz2, sz3, sz4, sz5, sz6, sz7, sz8, sz9, sz10, two_repr G8 A B h8, two_repr G8 A B h48, e_self, truW, Option.some.injEq, exists_eq_left', if_true]
    rw [hx _ _ f0a (push_get _ _)]
    simp only [s_bin, s_def, s_defK, s_call, s_cons, v_nil, s_var, v_c, s_lst, s_tup, s_test, s_tru, s_notT, s_andT, s_orT, s_and, s_or, s_not, s_if, s_neg, s_meth, s_cut, v_nopart, s_part, s_chain, s_seq, s_rng1, s_rng2, s_enum, s_zipL, s_tupR1, s_tupR2, s_yes, List.getElem?_cons_zero, List.getElem?_cons_succ, Option.some.injEq, exists_eq_left', v_ok, e_add, e_sub, e_int, e_min, e_max, e_maxU, e_lenT, e_tupT, e_lt, e_le, e_gt, e_ge, i_tup, e_cutT, List.set_cons_succ, List.set_cons_zero, List.length_cons, List.length_nil, Nat.reduceAdd, W.int.injEq, W.bl.injEq, W.ref.injEq, W.tup.injEq, W.str.injEq, reduceCtorEq, false_and, and_false, exists_false, or_false, false_or, true_and, and_true, exists_const, exists_eq_left, sz0, sz1, sz2, sz3, sz4, sz5, sz6, sz7, sz8, sz9, sz10, e_self]
    exact f0a
  refine So.sat.mono (N := fun E1 G8 => ∃ n8, E1 = [some (prW sk ln rs), some w, some (.bl b), some (.str x), some (.ref n4), some (.ref n8)] ∧ Fr [] G7 G8 ∧ G8[n8]? = some (.lst [W.bl A, .bl B])) ?_ (fun E1 G8 h => ?_) fun _ _ h => h
  · have hp : pick [1, 0] ([] ++ [w, prW sk ln rs]) = [prW sk ln rs, w] := rfl
    simp only [p2_c, p3_c, pT2_c, pT3_c, t_asg, t_expr, t_ret, t_if, t_nx, t_par, t_par3, g_set, g_tup2, g_tup3, g_put, s_bin, s_def, s_defK, s_call, s_cons, v_nil, s_var, v_c, s_lst, s_tup, s_test, s_tru, s_notT, s_andT, s_orT, s_and, s_or, s_not, s_if, s_neg, s_meth, s_cut, v_nopart, s_part, s_chain, s_seq, s_rng1, s_rng2, s_enum, s_zipL, s_tupR1, s_tupR2, s_yes, List.getElem?_cons_zero, List.getElem?_cons_succ, Option.some.injEq, exists_eq_left', v_ok, e_add, e_sub, e_int, e_min, e_max, e_maxU, e_lenT, e_tupT, e_lt, e_le, e_gt, e_ge, i_tup, e_cutT, List.set_cons_succ, List.set_cons_zero, List.length_cons, List.length_nil, Nat.reduceAdd, W.int.injEq, W.bl.injEq, W.ref.injEq, W.tup.injEq, W.str.injEq, reduceCtorEq, false_and, and_false, exists_false, or_false, false_or, true_and, and_true, exists_const, exists_eq_left, sz0, sz1, sz2, sz3, sz4, sz5, sz6, sz7, sz8, sz9, sz10, truW, Option.some.injEq, exists_eq_left']
    rw [hp]
    cases b with
    | false =>
      simp only [Bool.false_eq_true, if_false]
      exact ⟨n7, rfl, Fr.refl, h7⟩
    | true =>
      simp only [if_true]
      refine (row_holdsV_ok hv P (gv.mono f07 hw) (by decide)).mono fun y G8 q => ?_
      obtain ⟨rfl, f8⟩ := q
      refine (shrink_holdsV_ok hv P (gv.mono (f07.trans f8) hw) (by decide)).mono fun y G9 q => ?_
      obtain ⟨rfl, f9⟩ := q
      rw [hA, hB]
      exact ⟨_, rfl, f8.trans (f9.trans Fr.push), push_get _ _⟩
  · obtain ⟨n8, rfl, f8, h8⟩ := h
    exact fin n8 G8 f8 h8
end NS
/- part V20r -/
set_option maxHeartbeats 1000000
namespace NS
open PySem PySem.Spec PyProof.Rows L2 PL

theorem RI.keepsS {r d c : Nat} {G : Cells} (h : RI r d c G) : Keeps G.length (RI r d c) := RI.keeps h.lt.1 h.lt.2.1 h.lt.2.2.1
def nxB (b : Bool) (ch : List Int) (j : Int) : List Int := if b = true then nxt ch j else noI ch j
theorem nxB_sort {sk : List It} {b : Bool} {ch : List Int} {j : Int} (hc : Chc sk ch) (hb : b = true → j ∉ ch) : (noI ch j ++ (if b = true then [j] else [])).mergeSort leB = nxB b ch j := by
  cases b with
  | true =>
    have : noI ch j = ch := by
      refine List.filter_eq_self.mpr fun x hx => ?_
      simp only [decide_eq_true_eq]
      rintro rfl; exact hb rfl hx
    simp only [if_true, nxB, this]
    rfl
  | false =>
    simp only [Bool.false_eq_true, if_false, List.append_nil, nxB]
    exact (sort_is (List.Perm.refl _) ((hc.noI j).up.imp fun h => by omega)).symm
theorem nxB_chc {sk : List It} {b : Bool} {ch : List Int} {j : Int} (hc : Chc sk ch) (hj : j ∈ jumpsN sk) (hb : b = true → j ∉ ch) : Chc sk (nxB b ch j) := by
  cases b with
  | true =>
    refine ⟨nxt_up hc.up (hb rfl), fun x hx => ?_⟩
    rcases nxt_mem.mp hx with h | h
    · exact hc.mem x h
    · rw [h]; exact hj
  | false => exact hc.noI j
theorem e_sortI {G : Cells} {n : Nat} {is : List Int} (h : G[n]? = some (.lst (is.map W.int))) (hl : is.length < 64) : sortedW G [.ref n] = .ok (.ref G.length) (G ++ [.lst ((is.mergeSort leB).map W.int)]) := by
  unfold sortedW
  simp only [rdL_lst h, intsW_map, hl, if_true]
theorem row_ok {r d c : Nat} {sk : List It} {ln rs : List Int} {b : Bool} {G : Cells} (P : Prg sk ln rs) (h : RI r d c G) :
    (M_law_row [.ref r, prW sk ln rs, .bl b] G).sat fun w G' => ∃ row : List Int, w = .tup (row.map W.int) ∧ row.length ≤ 24 ∧ (∀ j ∈ row, j ∈ jumpsN sk) ∧ RI r d c G' ∧ Fr [r, d] G G' := by
  have h24 := P.hsk.len2
  have jl := jumpsN_len (sk := sk)
  have hlt := h.lt
  have p0 : ∀ G : Cells, getW G (prW sk ln rs) (.int 0) = .ok (skW sk) G := fun G => e_getT rfl (by decide)
  refine fun_sat rfl ?_
  show (B_law_row [some (.ref r), some (prW sk ln rs), some (.bl b), none, none, none, none, none, none, none, none] G).sat _ _
  unfold B_law_row
  refine so_seq ?_
  simp only [p2_c, p3_c, pT2_c, pT3_c, t_asg, t_expr, t_ret, t_if, t_nx, t_par, t_par3, g_set, g_tup2, g_tup3, g_put, s_bin, s_def, s_defK, s_call, s_cons, v_nil, s_var, v_c, s_lst, s_tup, s_test, s_tru, s_notT, s_andT, s_orT, s_and, s_or, s_not, s_if, s_neg, s_meth, s_cut, v_nopart, s_part, s_chain, s_seq, s_rng1, s_rng2, s_enum, s_zipL, s_tupR1, s_tupR2, s_yes, List.getElem?_cons_zero, List.getElem?_cons_succ, Option.some.injEq, exists_eq_left', v_ok, e_add, e_sub, e_int, e_min, e_max, e_maxU, e_lenT, e_tupT, e_lt, e_le, e_gt, e_ge, i_tup, e_cutT, List.set_cons_succ, List.set_cons_zero, List.length_cons, List.length_nil, Nat.reduceAdd, W.int.injEq, W.bl.injEq, W.ref.injEq, W.tup.injEq, W.str.injEq, reduceCtorEq, false_and, and_false, exists_false, or_false, false_or, true_and, and_true, exists_const, exists_eq_left, sz0, sz1, sz2, sz3, sz4, sz5, sz6, sz7, sz8, sz9, sz10, p0]
  refine (jumps_ok h24).mono fun w G1 q => ?_
  obtain ⟨jn, rfl, hjn, hgj, f1⟩ := q
  have f2 : Fr [] G1 (G1 ++ [.lst []]) := Fr.push
  have hm2 := push_get G1 (.lst [])
  have hgj2 := f2.get hgj (by simp)
  have l1 := f1.1
  have f02 := f1.trans f2
  have r2 := h.keep f02
  generalize G1.length = m at *
  generalize G1 ++ [Cell.lst []] = G2 at *
  refine so_seq ?_
  have hch : ∃ ch0, Chc sk ch0 ∧ (∀ {Q : W → Cells → Prop}, Q (.tup (ch0.map W.int)) G2 → ((mIf (mTru (mVar 2)) (mTup (mNil)) (mCall tupleW (mCons (mVar 3) (mNil)))) [some (.ref r), some (prW sk ln rs), some (.bl b), some (.ref jn), some (.ref m), none, none, none, none, none, none] G2).sat Q) := by
    cases b with
    | true =>
      refine ⟨[], Chc.nil, fun {Q} q => ?_⟩
      simp only [s_bin, s_def, s_defK, s_call, s_cons, v_nil, s_var, v_c, s_lst, s_tup, s_test, s_tru, s_notT, s_andT, s_orT, s_and, s_or, s_not, s_if, s_neg, s_meth, s_cut, v_nopart, s_part, s_chain, s_seq, s_rng1, s_rng2, s_enum, s_zipL, s_tupR1, s_tupR2, s_yes, List.getElem?_cons_zero, List.getElem?_cons_succ, Option.some.injEq, exists_eq_left', v_ok, e_add, e_sub, e_int, e_min, e_max, e_maxU, e_lenT, e_tupT, e_lt, e_le, e_gt, e_ge, i_tup, e_cutT, List.set_cons_succ, List.set_cons_zero, List.length_cons, List.length_nil, Nat.reduceAdd, W.int.injEq, W.bl.injEq, W.ref.injEq, W.tup.injEq, W.str.injEq, reduceCtorEq, false_and, and_false, exists_false, or_false, false_or, true_and, and_true, exists_const, exists_eq_left, sz0, sz1, sz2, sz3, sz4, sz5, sz6, sz7, sz8, sz9, sz10, truW, Option.some.injEq, exists_eq_left', if_true]
      exact q
    | false =>
      refine ⟨jumpsN sk, Chc.all, fun {Q} q => ?_⟩
      simp only [s_bin, s_def, s_defK, s_call, s_cons, v_nil, s_var, v_c, s_lst, s_tup, s_test, s_tru, s_notT, s_andT, s_orT, s_and, s_or, s_not, s_if, s_neg, s_meth, s_cut, v_nopart, s_part, s_chain, s_seq, s_rng1, s_rng2, s_enum, s_zipL, s_tupR1, s_tupR2, s_yes, List.getElem?_cons_zero, List.getElem?_cons_succ, Option.some.injEq, exists_eq_left', v_ok, e_add, e_sub, e_int, e_min, e_max, e_maxU, e_lenT, e_tupT, e_lt, e_le, e_gt, e_ge, i_tup, e_cutT, List.set_cons_succ, List.set_cons_zero, List.length_cons, List.length_nil, Nat.reduceAdd, W.int.injEq, W.bl.injEq, W.ref.injEq, W.tup.injEq, W.str.injEq, reduceCtorEq, false_and, and_false, exists_false, or_false, false_or, true_and, and_true, exists_const, exists_eq_left, sz0, sz1, sz2, sz3, sz4, sz5, sz6, sz7, sz8, sz9, sz10, truW, Option.some.injEq, exists_eq_left', Bool.false_eq_true, if_false, e_tupL hgj2]
      exact q
  obtain ⟨ch0, hc0, hch⟩ := hch
  rw [t_asg]
  refine hch ?_
  simp only [p2_c, p3_c, pT2_c, pT3_c, t_asg, t_expr, t_ret, t_if, t_nx, t_par, t_par3, g_set, g_tup2, g_tup3, g_put, s_bin, s_def, s_defK, s_call, s_cons, v_nil, s_var, v_c, s_lst, s_tup, s_test, s_tru, s_notT, s_andT, s_orT, s_and, s_or, s_not, s_if, s_neg, s_meth, s_cut, v_nopart, s_part, s_chain, s_seq, s_rng1, s_rng2, s_enum, s_zipL, s_tupR1, s_tupR2, s_yes, List.getElem?_cons_zero, List.getElem?_cons_succ, Option.some.injEq, exists_eq_left', v_ok, e_add, e_sub, e_int, e_min, e_max, e_maxU, e_lenT, e_tupT, e_lt, e_le, e_gt, e_ge, i_tup, e_cutT, List.set_cons_succ, List.set_cons_zero, List.length_cons, List.length_nil, Nat.reduceAdd, W.int.injEq, W.bl.injEq, W.ref.injEq, W.tup.injEq, W.str.injEq, reduceCtorEq, false_and, and_false, exists_false, or_false, false_or, true_and, and_true, exists_const, exists_eq_left, sz0, sz1, sz2, sz3, sz4, sz5, sz6, sz7, sz8, sz9, sz10]
  refine so_seq (so_forI (rnW 0 (jumpsN sk).length) (fun i E G3 => ∃ (ch row : List Int) (x6 x7 x8 x9 x10 : Option W), E = [some (.ref r), some (prW sk ln rs), some (.bl b), some (.ref jn), some (.ref m), some (.tup (ch.map W.int)), x6, x7, x8, x9, x10] ∧ Chc sk ch ∧ G3[m]? = some (.lst (row.map W.int)) ∧ row.length ≤ i ∧ (∀ j ∈ row, j ∈ jumpsN sk) ∧ RI r d c G3 ∧ Fr [r, d] G G3) ?_ ?_ ?_)
  · simp only [s_bin, s_def, s_defK, s_call, s_cons, v_nil, s_var, v_c, s_lst, s_tup, s_test, s_tru, s_notT, s_andT, s_orT, s_and, s_or, s_not, s_if, s_neg, s_meth, s_cut, v_nopart, s_part, s_chain, s_seq, s_rng1, s_rng2, s_enum, s_zipL, s_tupR1, s_tupR2, s_yes, List.getElem?_cons_zero, List.getElem?_cons_succ, Option.some.injEq, exists_eq_left', v_ok, e_add, e_sub, e_int, e_min, e_max, e_maxU, e_lenT, e_tupT, e_lt, e_le, e_gt, e_ge, i_tup, e_cutT, List.set_cons_succ, List.set_cons_zero, List.length_cons, List.length_nil, Nat.reduceAdd, W.int.injEq, W.bl.injEq, W.ref.injEq, W.tup.injEq, W.str.injEq, reduceCtorEq, false_and, and_false, exists_false, or_false, false_or, true_and, and_true, exists_const, exists_eq_left, sz0, sz1, sz2, sz3, sz4, sz5, sz6, sz7, sz8, sz9, sz10, e_lenL hgj2, List.length_map, Int.toNat_natCast]
    exact ⟨by unfold rngOk; simp; omega, (it_rng [] G2 0 _).len, ⟨ch0, [], none, none, none, none, none, rfl, hc0, hm2, by simp, by simp, r2, f02.of_nil⟩, fun i E' G' q => (it_rng [] G' 0 _).at' G' i Fr.refl⟩
  · rintro i w E G3 hw ⟨ch, row, x6, x7, x8, x9, x10, rfl, hc, hm3, hrl, hrm, r3, f3⟩
    obtain ⟨hil, rfl⟩ := rnW_inv hw
    have hcl := hc.len
    simp only [p2_c, p3_c, pT2_c, pT3_c, t_asg, t_expr, t_ret, t_if, t_nx, t_par, t_par3, g_set, g_tup2, g_tup3, g_put, s_bin, s_def, s_defK, s_call, s_cons, v_nil, s_var, v_c, s_lst, s_tup, s_test, s_tru, s_notT, s_andT, s_orT, s_and, s_or, s_not, s_if, s_neg, s_meth, s_cut, v_nopart, s_part, s_chain, s_seq, s_rng1, s_rng2, s_enum, s_zipL, s_tupR1, s_tupR2, s_yes, List.getElem?_cons_zero, List.getElem?_cons_succ, Option.some.injEq, exists_eq_left', v_ok, e_add, e_sub, e_int, e_min, e_max, e_maxU, e_lenT, e_tupT, e_lt, e_le, e_gt, e_ge, i_tup, e_cutT, List.set_cons_succ, List.set_cons_zero, List.length_cons, List.length_nil, Nat.reduceAdd, W.int.injEq, W.bl.injEq, W.ref.injEq, W.tup.injEq, W.str.injEq, reduceCtorEq, false_and, and_false, exists_false, or_false, false_or, true_and, and_true, exists_const, exists_eq_left, sz0, sz1, sz2, sz3, sz4, sz5, sz6, sz7, sz8, sz9, sz10]
    refine so_seq (So.sat.mono (N := fun E1 G4 => ∃ (fw : W) (fs : List Int), E1 = [some (.ref r), some (prW sk ln rs), some (.bl b), some (.ref jn), some (.ref m), some (.tup (ch.map W.int)), some (.int (0 + (i : Int))), some fw, x8, x9, x10] ∧ lenW G4 [fw] = .ok (.int (fs.length : Int)) G4 ∧ listW G4 [fw] = .ok (.ref G4.length) (G4 ++ [.lst (fs.map W.int)]) ∧ fs.length ≤ 24 ∧ (∀ j ∈ fs, j ∈ jumpsN sk ∧ (b = true → j ∉ ch)) ∧ Fr [] G3 G4) ?_ ?_ fun _ _ h => h)
    · cases b with
      | true =>
        simp only [p2_c, p3_c, pT2_c, pT3_c, t_asg, t_expr, t_ret, t_if, t_nx, t_par, t_par3, g_set, g_tup2, g_tup3, g_put, s_bin, s_def, s_defK, s_call, s_cons, v_nil, s_var, v_c, s_lst, s_tup, s_test, s_tru, s_notT, s_andT, s_orT, s_and, s_or, s_not, s_if, s_neg, s_meth, s_cut, v_nopart, s_part, s_chain, s_seq, s_rng1, s_rng2, s_enum, s_zipL, s_tupR1, s_tupR2, s_yes, List.getElem?_cons_zero, List.getElem?_cons_succ, Option.some.injEq, exists_eq_left', v_ok, e_add, e_sub, e_int, e_min, e_max, e_maxU, e_lenT, e_tupT, e_lt, e_le, e_gt, e_ge, i_tup, e_cutT, List.set_cons_succ, List.set_cons_zero, List.length_cons, List.length_nil, Nat.reduceAdd, W.int.injEq, W.bl.injEq, W.ref.injEq, W.tup.injEq, W.str.injEq, reduceCtorEq, false_and, and_false, exists_false, or_false, false_or, true_and, and_true, exists_const, exists_eq_left, sz0, sz1, sz2, sz3, sz4, sz5, sz6, sz7, sz8, sz9, sz10, truW, Option.some.injEq, exists_eq_left', if_true]
        refine (held_ok (ch := ch) P.hsk P.hln.len P.hrs (by omega)).mono fun w G4 q => ?_
        obtain ⟨rfl, f4⟩ := q
        exact ⟨_, stuckN sk ln rs ch, rfl, by rw [e_lenT]; simp, rfl, stuckN_len h24, fun j hj => ⟨(stuckN_mem hj).1, fun _ => (stuckN_mem hj).2⟩, f4⟩
      | false =>
        simp only [p2_c, p3_c, pT2_c, pT3_c, t_asg, t_expr, t_ret, t_if, t_nx, t_par, t_par3, g_set, g_tup2, g_tup3, g_put, s_bin, s_def, s_defK, s_call, s_cons, v_nil, s_var, v_c, s_lst, s_tup, s_test, s_tru, s_notT, s_andT, s_orT, s_and, s_or, s_not, s_if, s_neg, s_meth, s_cut, v_nopart, s_part, s_chain, s_seq, s_rng1, s_rng2, s_enum, s_zipL, s_tupR1, s_tupR2, s_yes, List.getElem?_cons_zero, List.getElem?_cons_succ, Option.some.injEq, exists_eq_left', v_ok, e_add, e_sub, e_int, e_min, e_max, e_maxU, e_lenT, e_tupT, e_lt, e_le, e_gt, e_ge, i_tup, e_cutT, List.set_cons_succ, List.set_cons_zero, List.length_cons, List.length_nil, Nat.reduceAdd, W.int.injEq, W.bl.injEq, W.ref.injEq, W.tup.injEq, W.str.injEq, reduceCtorEq, false_and, and_false, exists_false, or_false, false_or, true_and, and_true, exists_const, exists_eq_left, sz0, sz1, sz2, sz3, sz4, sz5, sz6, sz7, sz8, sz9, sz10, truW, Option.some.injEq, exists_eq_left', Bool.false_eq_true, if_false]
        refine (leaves_ok (ch := ch) P hc).mono fun w G4 q => ?_
        obtain ⟨n, rfl, hn, hgn, f4⟩ := q
        refine ⟨_, shrJ sk ln rs ch, rfl, by rw [e_lenL hgn]; simp, ?_, (shrOk h24).jl hc, fun j hj => ⟨hc.mem j (shrJ_mem.mp hj).1, fun z => by cases z⟩, f4⟩
        unfold listW rdS
        simp only [rdL_lst hgn]
    rintro E1 G4 ⟨fw, fs, rfl, hlen, hlist, hfl, hfm, f4⟩
    have r4 := r3.keep f4
    have hm4 := f4.get hm3 (by simp)
    have f04 := f3.trans f4.of_nil
    simp only [p2_c, p3_c, pT2_c, pT3_c, t_asg, t_expr, t_ret, t_if, t_nx, t_par, t_par3, g_set, g_tup2, g_tup3, g_put, s_bin, s_def, s_defK, s_call, s_cons, v_nil, s_var, v_c, s_lst, s_tup, s_test, s_tru, s_notT, s_andT, s_orT, s_and, s_or, s_not, s_if, s_neg, s_meth, s_cut, v_nopart, s_part, s_chain, s_seq, s_rng1, s_rng2, s_enum, s_zipL, s_tupR1, s_tupR2, s_yes, List.getElem?_cons_zero, List.getElem?_cons_succ, Option.some.injEq, exists_eq_left', v_ok, e_add, e_sub, e_int, e_min, e_max, e_maxU, e_lenT, e_tupT, e_lt, e_le, e_gt, e_ge, i_tup, e_cutT, List.set_cons_succ, List.set_cons_zero, List.length_cons, List.length_nil, Nat.reduceAdd, W.int.injEq, W.bl.injEq, W.ref.injEq, W.tup.injEq, W.str.injEq, reduceCtorEq, false_and, and_false, exists_false, or_false, false_or, true_and, and_true, exists_const, exists_eq_left, sz0, sz1, sz2, sz3, sz4, sz5, sz6, sz7, sz8, sz9, sz10, hlen, decide_eq_true_eq]
    refine hif (fun hpos => ?_) fun _ => ⟨ch, row, _, _, _, _, _, rfl, hc, hm4, by omega, hrm, r4, f04⟩
    refine so_seq ?_
    simp only [p2_c, p3_c, pT2_c, pT3_c, t_asg, t_expr, t_ret, t_if, t_nx, t_par, t_par3, g_set, g_tup2, g_tup3, g_put, s_bin, s_def, s_defK, s_call, s_cons, v_nil, s_var, v_c, s_lst, s_tup, s_test, s_tru, s_notT, s_andT, s_orT, s_and, s_or, s_not, s_if, s_neg, s_meth, s_cut, v_nopart, s_part, s_chain, s_seq, s_rng1, s_rng2, s_enum, s_zipL, s_tupR1, s_tupR2, s_yes, List.getElem?_cons_zero, List.getElem?_cons_succ, Option.some.injEq, exists_eq_left', v_ok, e_add, e_sub, e_int, e_min, e_max, e_maxU, e_lenT, e_tupT, e_lt, e_le, e_gt, e_ge, i_tup, e_cutT, List.set_cons_succ, List.set_cons_zero, List.length_cons, List.length_nil, Nat.reduceAdd, W.int.injEq, W.bl.injEq, W.ref.injEq, W.tup.injEq, W.str.injEq, reduceCtorEq, false_and, and_false, exists_false, or_false, false_or, true_and, and_true, exists_const, exists_eq_left, sz0, sz1, sz2, sz3, sz4, sz5, sz6, sz7, sz8, sz9, sz10, hlist]
    refine (picks_ok r4 (xs := fs.map W.int) (by simp; omega) (by simp; omega)).mono fun w G5 q => ?_
    obtain ⟨q1, r5, f5⟩ := q
    obtain ⟨j, hj, rfl⟩ := List.mem_map.mp q1
    obtain ⟨hjm, hjb⟩ := hfm j hj
    have hm5 := f5.get hm4 (by simp; omega)
    have f05 := f04.trans f5
    refine so_seq ?_
    simp only [p2_c, p3_c, pT2_c, pT3_c, t_asg, t_expr, t_ret, t_if, t_nx, t_par, t_par3, g_set, g_tup2, g_tup3, g_put, s_bin, s_def, s_defK, s_call, s_cons, v_nil, s_var, v_c, s_lst, s_tup, s_test, s_tru, s_notT, s_andT, s_orT, s_and, s_or, s_not, s_if, s_neg, s_meth, s_cut, v_nopart, s_part, s_chain, s_seq, s_rng1, s_rng2, s_enum, s_zipL, s_tupR1, s_tupR2, s_yes, List.getElem?_cons_zero, List.getElem?_cons_succ, Option.some.injEq, exists_eq_left', v_ok, e_add, e_sub, e_int, e_min, e_max, e_maxU, e_lenT, e_tupT, e_lt, e_le, e_gt, e_ge, i_tup, e_cutT, List.set_cons_succ, List.set_cons_zero, List.length_cons, List.length_nil, Nat.reduceAdd, W.int.injEq, W.bl.injEq, W.ref.injEq, W.tup.injEq, W.str.injEq, reduceCtorEq, false_and, and_false, exists_false, or_false, false_or, true_and, and_true, exists_const, exists_eq_left, sz0, sz1, sz2, sz3, sz4, sz5, sz6, sz7, sz8, sz9, sz10, e_isL hm5]
    rw [e_app hm5 (by simp; omega)]
    simp only [s_bin, s_def, s_defK, s_call, s_cons, v_nil, s_var, v_c, s_lst, s_tup, s_test, s_tru, s_notT, s_andT, s_orT, s_and, s_or, s_not, s_if, s_neg, s_meth, s_cut, v_nopart, s_part, s_chain, s_seq, s_rng1, s_rng2, s_enum, s_zipL, s_tupR1, s_tupR2, s_yes, List.getElem?_cons_zero, List.getElem?_cons_succ, Option.some.injEq, exists_eq_left', v_ok, e_add, e_sub, e_int, e_min, e_max, e_maxU, e_lenT, e_tupT, e_lt, e_le, e_gt, e_ge, i_tup, e_cutT, List.set_cons_succ, List.set_cons_zero, List.length_cons, List.length_nil, Nat.reduceAdd, W.int.injEq, W.bl.injEq, W.ref.injEq, W.tup.injEq, W.str.injEq, reduceCtorEq, false_and, and_false, exists_false, or_false, false_or, true_and, and_true, exists_const, exists_eq_left, sz0, sz1, sz2, sz3, sz4, sz5, sz6, sz7, sz8, sz9, sz10]
    have hm6 : (G5.set m (.lst (row.map W.int ++ [.int j])))[m]? = some (.lst ((row ++ [j]).map W.int)) := by rw [get_set (lt_of_get hm5), List.map_append]; rfl
    have r6 : RI r d c (G5.set m (.lst (row.map W.int ++ [.int j]))) := r5.setOther (by omega) (by omega) (by omega)
    have f06 : Fr [r, d] G (G5.set m (.lst (row.map W.int ++ [.int j]))) := f05.fresh (n := m) (by omega) (Fr.set (by simp))
    generalize G5.set m (.lst (row.map W.int ++ [.int j])) = G6 at *
    refine so_seq ?_
    simp only [p2_c, p3_c, pT2_c, pT3_c, t_asg, t_expr, t_ret, t_if, t_nx, t_par, t_par3, g_set, g_tup2, g_tup3, g_put]
    refine ne_lc (ch := ch) (k := 10) (k' := 8) (j := j) (by omega) (by simp only [s_bin, s_def, s_defK, s_call, s_cons, v_nil, s_var, v_c, s_lst, s_tup, s_test, s_tru, s_notT, s_andT, s_orT, s_and, s_or, s_not, s_if, s_neg, s_meth, s_cut, v_nopart, s_part, s_chain, s_seq, s_rng1, s_rng2, s_enum, s_zipL, s_tupR1, s_tupR2, s_yes, List.getElem?_cons_zero, List.getElem?_cons_succ, Option.some.injEq, exists_eq_left', v_ok, e_add, e_sub, e_int, e_min, e_max, e_maxU, e_lenT, e_tupT, e_lt, e_le, e_gt, e_ge, i_tup, e_cutT, List.set_cons_succ, List.set_cons_zero, List.length_cons, List.length_nil, Nat.reduceAdd, W.int.injEq, W.bl.injEq, W.ref.injEq, W.tup.injEq, W.str.injEq, reduceCtorEq, false_and, and_false, exists_false, or_false, false_or, true_and, and_true, exists_const, exists_eq_left, sz0, sz1, sz2, sz3, sz4, sz5, sz6, sz7, sz8, sz9, sz10]; exact ⟨Fr.refl, it_tup _ _ _⟩) (fun w => rfl) (fun w => rfl) fun n7 G7 f7 hn7 hg7 => ?_
    have hno : ch.filter (fun c => decide (c ≠ j)) = noI ch j := rfl
    rw [hno] at hg7
    have hnl : (noI ch j).length ≤ 24 := by have := List.length_filter_le (fun c => decide (c ≠ j)) ch; show (ch.filter _).length ≤ 24; omega
    have key : ∀ (G8 : Cells) (n8 : Nat), Fr [] G7 G8 → G8[n8]? = some (.lst ((if b = true then [j] else []).map W.int)) → ((addW G8 (.ref n7) (.ref n8)).sat fun w G9 => (sortedW G9 [w]).sat fun w G9 => (tupleW G9 [w]).sat fun w G9 => w = .tup ((nxB b ch j).map W.int) ∧ Fr [] G7 G9) := by
      intro G8 n8 f8 h8
      rw [e_addL (f8.get hg7 (by simp)) h8 (by cases b <;> simp <;> omega), ← List.map_append]
      simp only [s_bin, s_def, s_defK, s_call, s_cons, v_nil, s_var, v_c, s_lst, s_tup, s_test, s_tru, s_notT, s_andT, s_orT, s_and, s_or, s_not, s_if, s_neg, s_meth, s_cut, v_nopart, s_part, s_chain, s_seq, s_rng1, s_rng2, s_enum, s_zipL, s_tupR1, s_tupR2, s_yes, List.getElem?_cons_zero, List.getElem?_cons_succ, Option.some.injEq, exists_eq_left', v_ok, e_add, e_sub, e_int, e_min, e_max, e_maxU, e_lenT, e_tupT, e_lt, e_le, e_gt, e_ge, i_tup, e_cutT, List.set_cons_succ, List.set_cons_zero, List.length_cons, List.length_nil, Nat.reduceAdd, W.int.injEq, W.bl.injEq, W.ref.injEq, W.tup.injEq, W.str.injEq, reduceCtorEq, false_and, and_false, exists_false, or_false, false_or, true_and, and_true, exists_const, exists_eq_left, sz0, sz1, sz2, sz3, sz4, sz5, sz6, sz7, sz8, sz9, sz10]
      rw [e_sortI (push_get _ _) (by cases b <;> simp <;> omega), nxB_sort hc hjb]
      simp only [s_bin, s_def, s_defK, s_call, s_cons, v_nil, s_var, v_c, s_lst, s_tup, s_test, s_tru, s_notT, s_andT, s_orT, s_and, s_or, s_not, s_if, s_neg, s_meth, s_cut, v_nopart, s_part, s_chain, s_seq, s_rng1, s_rng2, s_enum, s_zipL, s_tupR1, s_tupR2, s_yes, List.getElem?_cons_zero, List.getElem?_cons_succ, Option.some.injEq, exists_eq_left', v_ok, e_add, e_sub, e_int, e_min, e_max, e_maxU, e_lenT, e_tupT, e_lt, e_le, e_gt, e_ge, i_tup, e_cutT, List.set_cons_succ, List.set_cons_zero, List.length_cons, List.length_nil, Nat.reduceAdd, W.int.injEq, W.bl.injEq, W.ref.injEq, W.tup.injEq, W.str.injEq, reduceCtorEq, false_and, and_false, exists_false, or_false, false_or, true_and, and_true, exists_const, exists_eq_left, sz0, sz1, sz2, sz3, sz4, sz5, sz6, sz7, sz8, sz9, sz10]
      rw [e_tupL (push_get _ _)]
      exact ⟨rfl, f8.trans (Fr.push.trans Fr.push)⟩
    simp only [p2_c, p3_c, pT2_c, pT3_c, t_asg, t_expr, t_ret, t_if, t_nx, t_par, t_par3, g_set, g_tup2, g_tup3, g_put, s_bin, s_def, s_defK, s_call, s_cons, v_nil, s_var, v_c, s_lst, s_tup, s_test, s_tru, s_notT, s_andT, s_orT, s_and, s_or, s_not, s_if, s_neg, s_meth, s_cut, v_nopart, s_part, s_chain, s_seq, s_rng1, s_rng2, s_enum, s_zipL, s_tupR1, s_tupR2, s_yes, List.getElem?_cons_zero, List.getElem?_cons_succ, Option.some.injEq, exists_eq_left', v_ok, e_add, e_sub, e_int, e_min, e_max, e_maxU, e_lenT, e_tupT, e_lt, e_le, e_gt, e_ge, i_tup, e_cutT, List.set_cons_succ, List.set_cons_zero, List.length_cons, List.length_nil, Nat.reduceAdd, W.int.injEq, W.bl.injEq, W.ref.injEq, W.tup.injEq, W.str.injEq, reduceCtorEq, false_and, and_false, exists_false, or_false, false_or, true_and, and_true, exists_const, exists_eq_left, sz0, sz1, sz2, sz3, sz4, sz5, sz6, sz7, sz8, sz9, sz10]
    refine ⟨b, rfl, ?_⟩
    have hm7 := f7.get hm6 (by simp)
    have r7 := r6.keep f7
    have f07 := f06.trans f7.of_nil
    have fin : ∀ {w : W} {G9 : Cells}, w = .tup ((nxB b ch j).map W.int) ∧ Fr [] G7 G9 → ∃ (ch' row' : List Int) (y6 y7 y8 y9 y10 : Option W), [some (W.ref r), some (prW sk ln rs), some (.bl b), some (.ref jn), some (.ref m), some w, some (.int (0 + (i : Int))), some fw, some (.int j), some (.ref n7), x10] = [some (.ref r), some (prW sk ln rs), some (.bl b), some (.ref jn), some (.ref m), some (.tup (ch'.map W.int)), y6, y7, y8, y9, y10] ∧ Chc sk ch' ∧ G9[m]? = some (.lst (row'.map W.int)) ∧ row'.length ≤ i + 1 ∧ (∀ j ∈ row', j ∈ jumpsN sk) ∧ RI r d c G9 ∧ Fr [r, d] G G9 := by
      rintro w G9 ⟨rfl, f9⟩
      refine ⟨nxB b ch j, row ++ [j], _, _, _, _, _, rfl, nxB_chc hc hjm hjb, f9.get hm7 (by simp), by simp; omega, fun x hx => ?_, r7.keep f9, f07.trans f9.of_nil⟩
      rcases List.mem_append.mp hx with hx | hx
      · exact hrm x hx
      · rw [List.mem_singleton.mp hx]; exact hjm
    cases b with
    | true => exact (key (G7 ++ [.lst [.int j]]) G7.length Fr.push (push_get _ _)).mono fun w G9 q => q.mono fun w G9 q => q.mono fun w G9 q => fin q
    | false => exact (key (G7 ++ [.lst []]) G7.length Fr.push (push_get _ _)).mono fun w G9 q => q.mono fun w G9 q => q.mono fun w G9 q => fin q
  · rintro E G3 ⟨ch, row, x6, x7, x8, x9, x10, rfl, hc, hm3, hrl, hrm, r3, f3⟩
    rw [rnW_len] at hrl
    simp only [p2_c, p3_c, pT2_c, pT3_c, t_asg, t_expr, t_ret, t_if, t_nx, t_par, t_par3, g_set, g_tup2, g_tup3, g_put, s_bin, s_def, s_defK, s_call, s_cons, v_nil, s_var, v_c, s_lst, s_tup, s_test, s_tru, s_notT, s_andT, s_orT, s_and, s_or, s_not, s_if, s_neg, s_meth, s_cut, v_nopart, s_part, s_chain, s_seq, s_rng1, s_rng2, s_enum, s_zipL, s_tupR1, s_tupR2, s_yes, List.getElem?_cons_zero, List.getElem?_cons_succ, Option.some.injEq, exists_eq_left', v_ok, e_add, e_sub, e_int, e_min, e_max, e_maxU, e_lenT, e_tupT, e_lt, e_le, e_gt, e_ge, i_tup, e_cutT, List.set_cons_succ, List.set_cons_zero, List.length_cons, List.length_nil, Nat.reduceAdd, W.int.injEq, W.bl.injEq, W.ref.injEq, W.tup.injEq, W.str.injEq, reduceCtorEq, false_and, and_false, exists_false, or_false, false_or, true_and, and_true, exists_const, exists_eq_left, sz0, sz1, sz2, sz3, sz4, sz5, sz6, sz7, sz8, sz9, sz10, e_tupL hm3]
    exact ⟨row, rfl, by omega, hrm, r3, f3⟩
end NS
/- part V20s -/
set_option maxHeartbeats 1000000
namespace NS
open PySem PySem.Spec PyProof.Rows L2 PL

theorem gv.drop {S : List Nat} {G : Cells} : ∀ {ns : List Nat} {w : W}, gv S G ns w → gv [] G ns w
  | [], w, h => by cases w <;> exact h
  | n :: ns, w, h => by
    cases w with
    | tup ws => exact ⟨h.1, fun w hw => gv.drop (h.2 w hw)⟩
    | ref m => exact ⟨by simp, h.2.elim .inl fun ⟨ws, q, h1, h2⟩ => .inr ⟨ws, q, h1, fun w hw => gv.drop (h2 w hw)⟩⟩
    | _ => exact h
def TV (S : List Nat) (G : Cells) (k : Nat) (ws : List W) : Prop := ws.length ≤ k ∧ ∀ x ∈ ws, gv S G [60] x
theorem TV.gv {S : List Nat} {G : Cells} {k : Nat} {ws : List W} (h : TV S G k ws) (hk : k ≤ 60) : PL.gv S G [60, 60] (.tup ws) := ⟨Nat.le_trans h.1 hk, h.2⟩
theorem TV.cut {S : List Nat} {G : Cells} {k : Nat} {ws : List W} (h : TV S G k ws) (lo hi : Option Int) : TV S G k (cutW ws lo hi) := by
  unfold cutW
  refine ⟨Nat.le_trans (by rw [List.length_take, List.length_drop]; omega) h.1, fun x hx => h.2 x (List.mem_of_mem_drop (List.mem_of_mem_take hx))⟩
theorem TV.app {S : List Nat} {G : Cells} {k l : Nat} {ws us : List W} (h : TV S G k ws) (h' : TV S G l us) : TV S G (k + l) (ws ++ us) := by
  refine ⟨by rw [List.length_append]; have := h.1; have := h'.1; omega, fun x hx => ?_⟩
  rcases List.mem_append.mp hx with hx | hx
  · exact h.2 x hx
  · exact h'.2 x hx
theorem TV.one {S : List Nat} {G : Cells} {w : W} (h : PL.gv S G [60] w) : TV S G 1 [w] := ⟨by simp, fun x hx => by rw [List.mem_singleton.mp hx]; exact h⟩
theorem TV.rev {S : List Nat} {G : Cells} {k : Nat} {ws : List W} (h : TV S G k ws) : TV S G k ws.reverse := ⟨by rw [List.length_reverse]; exact h.1, fun x hx => h.2 x (List.mem_reverse.mp hx)⟩
theorem TV.ints {S : List Nat} {G : Cells} {k : Nat} {xs : List Int} (h : xs.length ≤ k) (hx : ∀ x ∈ xs, 0 ≤ x ∧ x ≤ 1000) : TV S G k (xs.map W.int) := ⟨by simpa using h, fun w hw => by
  obtain ⟨x, hxx, rfl⟩ := List.mem_map.mp hw
  exact gv.int' (by have := hx x hxx; omega)⟩
theorem TV.mono {S : List Nat} {G G' : Cells} {k : Nat} {ws : List W} (f : Fr S G G') (h : TV S G k ws) : TV S G' k ws := ⟨h.1, fun x hx => gv.mono f (h.2 x hx)⟩
/-- a list of values -/
structure LV (S : List Nat) (G : Cells) (n k : Nat) : Prop where
  ex : ∃ ws, G[n]? = some (.lst ws) ∧ ws.length ≤ k ∧ ∀ x ∈ ws, PL.gv S G [60, 60] x
theorem LV.new {S : List Nat} {G : Cells} {ws : List W} {k : Nat} (hl : ws.length ≤ k) (h : ∀ x ∈ ws, PL.gv S G [60, 60] x) : LV S (G ++ [.lst ws]) G.length k := ⟨ws, push_get _ _, hl, fun x hx => gv.mono Fr.push (h x hx)⟩
theorem LV.mono {S : List Nat} {G G' : Cells} {n k : Nat} (h : LV S G n k) (f : Fr S G G') (hn : n ∉ S) : LV S G' n k := by
  obtain ⟨ws, g, hl, hv⟩ := h.ex
  exact ⟨ws, f.get g hn, hl, fun x hx => gv.mono f (hv x hx)⟩
theorem LV.add {S : List Nat} {G : Cells} {n m k l : Nat} (h : LV S G n k) (h' : LV S G m l) (hk : k + l ≤ 200) : ∃ us, addW G (.ref n) (.ref m) = .ok (.ref G.length) (G ++ [.lst us]) ∧ us.length ≤ k + l ∧ ∀ x ∈ us, PL.gv S G [60, 60] x := by
  obtain ⟨ws, g, hl, hv⟩ := h.ex
  obtain ⟨us, g', hl', hv'⟩ := h'.ex
  refine ⟨_, e_addL g g' (by omega), by rw [List.length_append]; omega, fun x hx => ?_⟩
  rcases List.mem_append.mp hx with hx | hx
  · exact hv x hx
  · exact hv' x hx
def is1 : W → Option W
  | .int x => some (.bl (decide (x = 1)))
  | _ => none
def bo2 : W → Option W
  | .int x => some (if x < 2 then .bl (x != 0) else .int x)
  | _ => none
theorem fm_gv {S : List Nat} {G : Cells} {row : List Int} {f : W → Option W} (h : ∀ x ∈ row, ∀ y, f (.int x) = some y → PL.gv S G [60] y) (hl : row.length ≤ 24) : TV S G 24 ((row.map W.int).filterMap f) := by
  refine ⟨Nat.le_trans (List.length_filterMap_le _ _) (by simpa using hl), fun y hy => ?_⟩
  obtain ⟨w, hw, hf⟩ := List.mem_filterMap.mp hy
  obtain ⟨x, hx, rfl⟩ := List.mem_map.mp hw
  exact h x hx y hf
theorem gv_row {S : List Nat} {G : Cells} {ns : List Nat} {row : List Int} (hl : row.length ≤ 24) (hx : ∀ x ∈ row, 0 ≤ x ∧ x ≤ 1000) : PL.gv S G (60 :: ns) (.tup (row.map W.int)) := ⟨by simp; omega, fun w hw => by
  obtain ⟨x, hxx, rfl⟩ := List.mem_map.mp hw
  exact gv.int' (by have := hx x hxx; omega)⟩
theorem spoilt_ok {r d c : Nat} {sk : List It} {ln rs row : List Int} {G : Cells} (P : Prg sk ln rs) (h : RI r d c G) (hl : row.length ≤ 24) (hm : ∀ j ∈ row, j ∈ jumpsN sk) :
    (M_law_spoilt [.ref r, prW sk ln rs, .tup (row.map W.int)] G).sat fun w G' => gv [] G' [60, 60] w ∧ RI r d c G' ∧ Fr [r, d] G G' := by
  have h24 := P.hsk.len2
  have jl := jumpsN_len (sk := sk)
  have hlt := h.lt
  have jb : ∀ j ∈ jumpsN sk, 0 ≤ j ∧ j ≤ 1000 := fun j hj => by
    obtain ⟨n, g, s, l, hn, rfl⟩ := jumpsN_mem.mp hj
    have := (List.getElem?_eq_some_iff.mp hn).1
    omega
  have p0 : ∀ G : Cells, getW G (prW sk ln rs) (.int 0) = .ok (skW sk) G := fun G => e_getT rfl (by decide)
  refine fun_sat rfl ?_
  show (B_law_spoilt [some (.ref r), some (prW sk ln rs), some (.tup (row.map W.int)), none, none, none, none, none] G).sat _ _
  unfold B_law_spoilt
  refine so_seq ?_
  simp only [p2_c, p3_c, pT2_c, pT3_c, t_asg, t_expr, t_ret, t_if, t_nx, t_par, t_par3, g_set, g_tup2, g_tup3, g_put, s_bin, s_def, s_defK, s_call, s_cons, v_nil, s_var, v_c, s_lst, s_tup, s_test, s_tru, s_notT, s_andT, s_orT, s_and, s_or, s_not, s_if, s_neg, s_meth, s_cut, v_nopart, s_part, s_chain, s_seq, s_rng1, s_rng2, s_enum, s_zipL, s_tupR1, s_tupR2, s_yes, List.getElem?_cons_zero, List.getElem?_cons_succ, Option.some.injEq, exists_eq_left', v_ok, e_add, e_sub, e_int, e_min, e_max, e_maxU, e_lenT, e_tupT, e_lt, e_le, e_gt, e_ge, i_tup, e_cutT, List.set_cons_succ, List.set_cons_zero, List.length_cons, List.length_nil, Nat.reduceAdd, W.int.injEq, W.bl.injEq, W.ref.injEq, W.tup.injEq, W.str.injEq, reduceCtorEq, false_and, and_false, exists_false, or_false, false_or, true_and, and_true, exists_const, exists_eq_left, sz0, sz1, sz2, sz3, sz4, sz5, sz6, sz7, sz8, sz9, sz10, p0]
  refine (draw_ok h (size := ((row.map W.int).length : Int) + 1) (by omega) (by simp; omega)).mono fun w G1 q => ?_
  obtain ⟨⟨spot, rfl, s0, s1⟩, r1, f1⟩ := q
  try simp only [s_bin, s_def, s_defK, s_call, s_cons, v_nil, s_var, v_c, s_lst, s_tup, s_test, s_tru, s_notT, s_andT, s_orT, s_and, s_or, s_not, s_if, s_neg, s_meth, s_cut, v_nopart, s_part, s_chain, s_seq, s_rng1, s_rng2, s_enum, s_zipL, s_tupR1, s_tupR2, s_yes, List.getElem?_cons_zero, List.getElem?_cons_succ, Option.some.injEq, exists_eq_left', v_ok, e_add, e_sub, e_int, e_min, e_max, e_maxU, e_lenT, e_tupT, e_lt, e_le, e_gt, e_ge, i_tup, e_cutT, List.set_cons_succ, List.set_cons_zero, List.length_cons, List.length_nil, Nat.reduceAdd, W.int.injEq, W.bl.injEq, W.ref.injEq, W.tup.injEq, W.str.injEq, reduceCtorEq, false_and, and_false, exists_false, or_false, false_or, true_and, and_true, exists_const, exists_eq_left, sz0, sz1, sz2, sz3, sz4, sz5, sz6, sz7, sz8, sz9, sz10, p0]
  refine (jumps_ok h24).mono fun w G2 q => ?_
  obtain ⟨jn, rfl, hjn, hgj, f2⟩ := q
  have f3 : Fr [] G2 (G2 ++ [.lst [W.int 0, .int 1]]) := Fr.push
  try simp only [s_bin, s_def, s_defK, s_call, s_cons, v_nil, s_var, v_c, s_lst, s_tup, s_test, s_tru, s_notT, s_andT, s_orT, s_and, s_or, s_not, s_if, s_neg, s_meth, s_cut, v_nopart, s_part, s_chain, s_seq, s_rng1, s_rng2, s_enum, s_zipL, s_tupR1, s_tupR2, s_yes, List.getElem?_cons_zero, List.getElem?_cons_succ, Option.some.injEq, exists_eq_left', v_ok, e_add, e_sub, e_int, e_min, e_max, e_maxU, e_lenT, e_tupT, e_lt, e_le, e_gt, e_ge, i_tup, e_cutT, List.set_cons_succ, List.set_cons_zero, List.length_cons, List.length_nil, Nat.reduceAdd, W.int.injEq, W.bl.injEq, W.ref.injEq, W.tup.injEq, W.str.injEq, reduceCtorEq, false_and, and_false, exists_false, or_false, false_or, true_and, and_true, exists_const, exists_eq_left, sz0, sz1, sz2, sz3, sz4, sz5, sz6, sz7, sz8, sz9, sz10]
  rw [e_addL (f3.get hgj (by simp)) (push_get _ _) (by simp; omega)]
  simp only [s_bin, s_def, s_defK, s_call, s_cons, v_nil, s_var, v_c, s_lst, s_tup, s_test, s_tru, s_notT, s_andT, s_orT, s_and, s_or, s_not, s_if, s_neg, s_meth, s_cut, v_nopart, s_part, s_chain, s_seq, s_rng1, s_rng2, s_enum, s_zipL, s_tupR1, s_tupR2, s_yes, List.getElem?_cons_zero, List.getElem?_cons_succ, Option.some.injEq, exists_eq_left', v_ok, e_add, e_sub, e_int, e_min, e_max, e_maxU, e_lenT, e_tupT, e_lt, e_le, e_gt, e_ge, i_tup, e_cutT, List.set_cons_succ, List.set_cons_zero, List.length_cons, List.length_nil, Nat.reduceAdd, W.int.injEq, W.bl.injEq, W.ref.injEq, W.tup.injEq, W.str.injEq, reduceCtorEq, false_and, and_false, exists_false, or_false, false_or, true_and, and_true, exists_const, exists_eq_left, sz0, sz1, sz2, sz3, sz4, sz5, sz6, sz7, sz8, sz9, sz10]
  have f4 := f3.trans (Fr.push (S := []) (c := .lst ((jumpsN sk).map W.int ++ [W.int 0, .int 1])))
  have h4 := push_get (G2 ++ [.lst [W.int 0, .int 1]]) (.lst ((jumpsN sk).map W.int ++ [W.int 0, .int 1]))
  have r4 := (r1.keep f2).keep f4
  have f04 := (f1.trans f2.of_nil).trans f4.of_nil
  have l1 := f1.1
  have l2 := f2.1
  generalize hn4 : (G2 ++ [Cell.lst [W.int 0, .int 1]]).length = n4 at *
  have ln4 : G.length < n4 := by rw [← hn4]; simp; omega
  generalize (G2 ++ [Cell.lst [W.int 0, .int 1]]) ++ [Cell.lst ((jumpsN sk).map W.int ++ [W.int 0, .int 1])] = G4 at *
  refine so_seq ?_
  have pow30 : ∀ G : Cells, powW G (.int 10) (.int 30) = .ok (.int (10 ^ 30)) G := fun G => rfl
  have d0 : ∀ (E : PEnv) (G : Cells) (Q : W → Cells → Prop), (mDict0 E G).sat Q = Q (.ref G.length) (G ++ [.dct []]) := fun E G Q => id rfl
  simp only [p2_c, p3_c, pT2_c, pT3_c, t_asg, t_expr, t_ret, t_if, t_nx, t_par, t_par3, g_set, g_tup2, g_tup3, g_put, s_bin, s_def, s_defK, s_call, s_cons, v_nil, s_var, v_c, s_lst, s_tup, s_test, s_tru, s_notT, s_andT, s_orT, s_and, s_or, s_not, s_if, s_neg, s_meth, s_cut, v_nopart, s_part, s_chain, s_seq, s_rng1, s_rng2, s_enum, s_zipL, s_tupR1, s_tupR2, s_yes, List.getElem?_cons_zero, List.getElem?_cons_succ, Option.some.injEq, exists_eq_left', v_ok, e_add, e_sub, e_int, e_min, e_max, e_maxU, e_lenT, e_tupT, e_lt, e_le, e_gt, e_ge, i_tup, e_cutT, List.set_cons_succ, List.set_cons_zero, List.length_cons, List.length_nil, Nat.reduceAdd, W.int.injEq, W.bl.injEq, W.ref.injEq, W.tup.injEq, W.str.injEq, reduceCtorEq, false_and, and_false, exists_false, or_false, false_or, true_and, and_true, exists_const, exists_eq_left, sz0, sz1, sz2, sz3, sz4, sz5, sz6, sz7, sz8, sz9, sz10, pow30, d0]
  have ha := push_get G4 (.lst [W.int 0])
  have g1 : Fr [] G4 (G4 ++ [.lst [W.int 0]]) := Fr.push
  have la0 : n4 < G4.length := lt_of_get h4
  generalize ha0 : G4.length = a0 at *
  have la : a0 < (G4 ++ [Cell.lst [W.int 0]]).length := by simp; omega
  generalize G4 ++ [Cell.lst [W.int 0]] = G5 at *
  have hb := push_get G5 (.dct [])
  have g2 : Fr [] G5 (G5 ++ [.dct []]) := Fr.push
  generalize hb0 : G5.length = b0 at *
  have lb : b0 < (G5 ++ [Cell.dct []]).length := by simp; omega
  generalize G5 ++ [Cell.dct []] = G6 at *
  have g12 := g1.trans g2
  have h46 := g12.get h4 (by simp)
  have ha6 := g2.get ha (by simp)
  have f06 := f04.trans g12.of_nil
  have r6 := r4.keep g12
  have g3 : Fr [] G6 (G6 ++ [.lst [W.int (-1), .int 99, .bl true, .bl false, .non, .str "0", .tup [.int 0], .int (10 ^ 30), .ref a0, .ref b0]]) := Fr.push
  rw [e_addL (g3.get h46 (by simp)) (push_get _ _) (by simp; omega)]
  simp only [s_bin, s_def, s_defK, s_call, s_cons, v_nil, s_var, v_c, s_lst, s_tup, s_test, s_tru, s_notT, s_andT, s_orT, s_and, s_or, s_not, s_if, s_neg, s_meth, s_cut, v_nopart, s_part, s_chain, s_seq, s_rng1, s_rng2, s_enum, s_zipL, s_tupR1, s_tupR2, s_yes, List.getElem?_cons_zero, List.getElem?_cons_succ, Option.some.injEq, exists_eq_left', v_ok, e_add, e_sub, e_int, e_min, e_max, e_maxU, e_lenT, e_tupT, e_lt, e_le, e_gt, e_ge, i_tup, e_cutT, List.set_cons_succ, List.set_cons_zero, List.length_cons, List.length_nil, Nat.reduceAdd, W.int.injEq, W.bl.injEq, W.ref.injEq, W.tup.injEq, W.str.injEq, reduceCtorEq, false_and, and_false, exists_false, or_false, false_or, true_and, and_true, exists_const, exists_eq_left, sz0, sz1, sz2, sz3, sz4, sz5, sz6, sz7, sz8, sz9, sz10]
  have g4 := g3.trans (Fr.push (S := []) (c := .lst ((jumpsN sk).map W.int ++ [W.int 0, .int 1] ++ [W.int (-1), .int 99, .bl true, .bl false, .non, .str "0", .tup [.int 0], .int (10 ^ 30), .ref a0, .ref b0])))
  have h7 := push_get (G6 ++ [.lst [W.int (-1), .int 99, .bl true, .bl false, .non, .str "0", .tup [.int 0], .int (10 ^ 30), .ref a0, .ref b0]]) (.lst ((jumpsN sk).map W.int ++ [W.int 0, .int 1] ++ [W.int (-1), .int 99, .bl true, .bl false, .non, .str "0", .tup [.int 0], .int (10 ^ 30), .ref a0, .ref b0]))
  have ha7 := g4.get ha6 (by simp)
  have hb7 := g4.get hb (by simp)
  have h47 := g4.get h46 (by simp)
  have r7 := r6.keep g4
  have f07 := f06.trans g4.of_nil
  have ln7 : G.length < (G6 ++ [Cell.lst [W.int (-1), .int 99, .bl true, .bl false, .non, .str "0", .tup [.int 0], .int (10 ^ 30), .ref a0, .ref b0]]).length := by simp; omega
  generalize (G6 ++ [Cell.lst [W.int (-1), .int 99, .bl true, .bl false, .non, .str "0", .tup [.int 0], .int (10 ^ 30), .ref a0, .ref b0]]).length = n7 at *
  generalize (G6 ++ [Cell.lst [W.int (-1), .int 99, .bl true, .bl false, .non, .str "0", .tup [.int 0], .int (10 ^ 30), .ref a0, .ref b0]]) ++ [Cell.lst ((jumpsN sk).map W.int ++ [W.int 0, .int 1] ++ [W.int (-1), .int 99, .bl true, .bl false, .non, .str "0", .tup [.int 0], .int (10 ^ 30), .ref a0, .ref b0])] = G7 at *
  have gva : gv [r, d] G7 [60] (.ref a0) := ⟨by simp; omega, .inr ⟨_, ha7, by decide, fun x hx => by rw [List.mem_singleton.mp hx]; exact gv.int' (by decide)⟩⟩
  have gvb : gv [r, d] G7 [60] (.ref b0) := ⟨by simp; omega, .inl hb7⟩
  have s0v : (reprText ("0" : Str)).length ≤ 40 ∧ ("0" : Str).length ≤ 40 := by decide +kernel
  refine (pick_ok r7 h7 (by omega) (by omega) (by simp) (by simp; omega)).mono fun w G8 q => ?_
  obtain ⟨q1, r8, f8⟩ := q
  have hj : gv [r, d] G7 [60] w := by
    rcases List.mem_append.mp q1 with q1 | q1
    · rcases List.mem_append.mp q1 with q1 | q1
      · obtain ⟨j, hj, rfl⟩ := List.mem_map.mp q1
        exact gv.int' (by have := jb j hj; omega)
      · simp only [List.mem_cons, List.not_mem_nil, or_false] at q1
        rcases q1 with rfl | rfl <;> exact gv.int' (by decide)
    · simp only [List.mem_cons, List.not_mem_nil, or_false] at q1
      rcases q1 with rfl | rfl | rfl | rfl | rfl | rfl | rfl | rfl | rfl | rfl
      · exact gv.int' (by decide)
      · exact gv.int' (by decide)
      · exact gv.bl
      · exact gv.bl
      · exact gv.non
      · exact gv.str s0v
      · exact ⟨by decide, fun x hx => by rw [List.mem_singleton.mp hx]; exact gv.int' (by decide)⟩
      · exact gv.int (by decide)
      · exact gva
      · exact gvb
  replace hj := gv.mono f8 hj
  have gvb8 := gv.mono f8 gvb
  have h48 := f8.get h47 (by simp; omega)
  have f08 := f07.trans f8
  have lG8 := f08.1
  clear h7 ha7 hb7 gva gvb h47
  have R : TV [r, d] G8 24 (row.map W.int) := TV.ints hl fun x hx => jb x (hm x hx)
  -- the first three
  refine so_seq ?_
  have e3a : ∀ {G : Cells} (lo hi lo' hi' : Option Int), addW G (.tup (cutW (row.map W.int) lo hi)) (.tup (cutW (row.map W.int) lo' hi')) = .ok (.tup (cutW (row.map W.int) lo hi ++ cutW (row.map W.int) lo' hi')) G := fun lo hi lo' hi' => e_addT (by have := (R.cut lo hi).1; have := (R.cut lo' hi').1; omega)
  have e3b : ∀ {G : Cells} (x : W) (lo hi : Option Int), addW G (.tup (cutW (row.map W.int) lo hi)) (.tup [x]) = .ok (.tup (cutW (row.map W.int) lo hi ++ [x])) G := fun x lo hi => e_addT (by have := (R.cut lo hi).1; simp; omega)
  have e3c : ∀ {G : Cells} (x : W) (lo hi lo' hi' : Option Int), addW G (.tup (cutW (row.map W.int) lo hi ++ [x])) (.tup (cutW (row.map W.int) lo' hi')) = .ok (.tup (cutW (row.map W.int) lo hi ++ [x] ++ cutW (row.map W.int) lo' hi')) G := fun x lo hi lo' hi' => e_addT (by have := (R.cut lo hi).1; have := (R.cut lo' hi').1; simp; omega)
  simp only [p2_c, p3_c, pT2_c, pT3_c, t_asg, t_expr, t_ret, t_if, t_nx, t_par, t_par3, g_set, g_tup2, g_tup3, g_put, s_bin, s_def, s_defK, s_call, s_cons, v_nil, s_var, v_c, s_lst, s_tup, s_test, s_tru, s_notT, s_andT, s_orT, s_and, s_or, s_not, s_if, s_neg, s_meth, s_cut, v_nopart, s_part, s_chain, s_seq, s_rng1, s_rng2, s_enum, s_zipL, s_tupR1, s_tupR2, s_yes, List.getElem?_cons_zero, List.getElem?_cons_succ, Option.some.injEq, exists_eq_left', v_ok, e_add, e_sub, e_int, e_min, e_max, e_maxU, e_lenT, e_tupT, e_lt, e_le, e_gt, e_ge, i_tup, e_cutT, List.set_cons_succ, List.set_cons_zero, List.length_cons, List.length_nil, Nat.reduceAdd, W.int.injEq, W.bl.injEq, W.ref.injEq, W.tup.injEq, W.str.injEq, reduceCtorEq, false_and, and_false, exists_false, or_false, false_or, true_and, and_true, exists_const, exists_eq_left, sz0, sz1, sz2, sz3, sz4, sz5, sz6, sz7, sz8, sz9, sz10, e3a, e3b, e3c]
  have hlistT : ∀ (G : Cells) (ws : List W), listW G [.tup ws] = .ok (.ref G.length) (G ++ [.lst ws]) := fun G ws => rfl
  have L9 : LV [r, d] (G8 ++ [.lst [W.tup (cutW (row.map W.int) none (some spot) ++ cutW (row.map W.int) (some (spot + 1)) none), .tup (cutW (row.map W.int) none (some spot) ++ [w] ++ cutW (row.map W.int) (some spot) none), .tup (cutW (row.map W.int) none (some spot) ++ [w] ++ cutW (row.map W.int) (some (spot + 1)) none)]]) G8.length 3 := LV.new (by simp) fun x hx => by
    simp only [List.mem_cons, List.not_mem_nil, or_false] at hx
    rcases hx with rfl | rfl | rfl
    · exact ((R.cut _ _).app (R.cut _ _)).gv (by decide)
    · exact (((R.cut _ _).app (TV.one hj)).app (R.cut _ _)).gv (by decide)
    · exact (((R.cut _ _).app (TV.one hj)).app (R.cut _ _)).gv (by decide)
  have f9 : Fr [] G8 (G8 ++ [.lst [W.tup (cutW (row.map W.int) none (some spot) ++ cutW (row.map W.int) (some (spot + 1)) none), .tup (cutW (row.map W.int) none (some spot) ++ [w] ++ cutW (row.map W.int) (some spot) none), .tup (cutW (row.map W.int) none (some spot) ++ [w] ++ cutW (row.map W.int) (some (spot + 1)) none)]]) := Fr.push
  have r9 := r8.keep f9
  have f09 := f08.trans f9.of_nil
  have h49 := f9.get h48 (by simp)
  have gvb9 := gv.mono (S := [r, d]) f9.of_nil gvb8
  have l9 : G.length < G8.length := by have := lt_of_get h48; omega
  generalize G8.length = n9 at *
  generalize G8 ++ [Cell.lst [W.tup (cutW (row.map W.int) none (some spot) ++ cutW (row.map W.int) (some (spot + 1)) none), .tup (cutW (row.map W.int) none (some spot) ++ [w] ++ cutW (row.map W.int) (some spot) none), .tup (cutW (row.map W.int) none (some spot) ++ [w] ++ cutW (row.map W.int) (some (spot + 1)) none)]] = G9 at *
  clear e3b e3c
  refine so_seq ?_
  have eRR : ∀ {G : Cells}, addW G (.tup (row.map W.int)) (.tup (row.map W.int)) = .ok (.tup (row.map W.int ++ row.map W.int)) G := e_addT (by simp; omega)
  have eRC : ∀ {G : Cells} (lo hi : Option Int), addW G (.tup (row.map W.int)) (.tup (cutW (row.map W.int) lo hi)) = .ok (.tup (row.map W.int ++ cutW (row.map W.int) lo hi)) G := fun lo hi => e_addT (by have := (R.cut lo hi).1; simp; omega)
  simp only [p2_c, p3_c, pT2_c, pT3_c, t_asg, t_expr, t_ret, t_if, t_nx, t_par, t_par3, g_set, g_tup2, g_tup3, g_put, s_bin, s_def, s_defK, s_call, s_cons, v_nil, s_var, v_c, s_lst, s_tup, s_test, s_tru, s_notT, s_andT, s_orT, s_and, s_or, s_not, s_if, s_neg, s_meth, s_cut, v_nopart, s_part, s_chain, s_seq, s_rng1, s_rng2, s_enum, s_zipL, s_tupR1, s_tupR2, s_yes, List.getElem?_cons_zero, List.getElem?_cons_succ, Option.some.injEq, exists_eq_left', v_ok, e_add, e_sub, e_int, e_min, e_max, e_maxU, e_lenT, e_tupT, e_lt, e_le, e_gt, e_ge, i_tup, e_cutT, List.set_cons_succ, List.set_cons_zero, List.length_cons, List.length_nil, Nat.reduceAdd, W.int.injEq, W.bl.injEq, W.ref.injEq, W.tup.injEq, W.str.injEq, reduceCtorEq, false_and, and_false, exists_false, or_false, false_or, true_and, and_true, exists_const, exists_eq_left, sz0, sz1, sz2, sz3, sz4, sz5, sz6, sz7, sz8, sz9, sz10, s_rev, eRR, eRC, hlistT]
  have fa : Fr [] G9 (G9 ++ [.lst (row.map W.int)]) := Fr.push
  have hc := push_get G9 (.lst (row.map W.int))
  have L9a := L9.mono (fa.of_nil (S := [r, d])) (by simp; omega)
  have h49a := fa.get h49 (by simp)
  have gvb9a := gv.mono (S := [r, d]) fa.of_nil gvb9
  have r9a := r9.keep fa
  have f0a := f09.trans fa.of_nil
  have lc : G.length < G9.length := by have := lt_of_get h49; omega
  generalize G9.length = c0 at *
  generalize G9 ++ [Cell.lst (row.map W.int)] = Ga at *
  have gvc : gv [r, d] Ga [60, 60] (.ref c0) := ⟨by simp; omega, .inr ⟨_, hc, by simp; omega, fun x hx => by
    obtain ⟨y, hy, rfl⟩ := List.mem_map.mp hx
    exact gv.int' (by have := jb y (hm y hy); omega)⟩⟩
  have Ra : TV [r, d] Ga 24 (row.map W.int) := TV.ints hl fun x hx => jb x (hm x hx)
  have gr : ∀ {S : List Nat} {G : Cells} {ns : List Nat}, gv S G (60 :: ns) (.tup (row.map W.int)) := gv_row hl fun x hx => jb x (hm x hx)
  have Lm : LV [r, d] (Ga ++ [.lst [W.tup (cutW (row.map W.int) none (some spot)), .tup (row.map W.int).reverse, .tup (row.map W.int ++ row.map W.int), .tup (cutW (row.map W.int) (some 1) none), .tup (row.map W.int ++ cutW (row.map W.int) none (some 1)), .ref c0, .tup [.tup (row.map W.int)], .tup []]]) Ga.length 8 := LV.new (by simp) fun x hx => by
    simp only [List.mem_cons, List.not_mem_nil, or_false] at hx
    rcases hx with rfl | rfl | rfl | rfl | rfl | rfl | rfl | rfl
    · exact (Ra.cut _ _).gv (by decide)
    · exact Ra.rev.gv (by decide)
    · exact (Ra.app Ra).gv (by decide)
    · exact (Ra.cut _ _).gv (by decide)
    · exact (Ra.app (Ra.cut _ _)).gv (by decide)
    · exact gvc
    · exact (TV.one gr).gv (by decide)
    · exact ⟨by simp, by simp⟩
  have fb : Fr [] Ga (Ga ++ [.lst [W.tup (cutW (row.map W.int) none (some spot)), .tup (row.map W.int).reverse, .tup (row.map W.int ++ row.map W.int), .tup (cutW (row.map W.int) (some 1) none), .tup (row.map W.int ++ cutW (row.map W.int) none (some 1)), .ref c0, .tup [.tup (row.map W.int)], .tup []]]) := Fr.push
  obtain ⟨us, eu, ul, uv⟩ := (L9a.mono (fb.of_nil (S := [r, d])) (by simp; omega)).add Lm (by decide)
  rw [eu]
  simp only [s_bin, s_def, s_defK, s_call, s_cons, v_nil, s_var, v_c, s_lst, s_tup, s_test, s_tru, s_notT, s_andT, s_orT, s_and, s_or, s_not, s_if, s_neg, s_meth, s_cut, v_nopart, s_part, s_chain, s_seq, s_rng1, s_rng2, s_enum, s_zipL, s_tupR1, s_tupR2, s_yes, List.getElem?_cons_zero, List.getElem?_cons_succ, Option.some.injEq, exists_eq_left', v_ok, e_add, e_sub, e_int, e_min, e_max, e_maxU, e_lenT, e_tupT, e_lt, e_le, e_gt, e_ge, i_tup, e_cutT, List.set_cons_succ, List.set_cons_zero, List.length_cons, List.length_nil, Nat.reduceAdd, W.int.injEq, W.bl.injEq, W.ref.injEq, W.tup.injEq, W.str.injEq, reduceCtorEq, false_and, and_false, exists_false, or_false, false_or, true_and, and_true, exists_const, exists_eq_left, sz0, sz1, sz2, sz3, sz4, sz5, sz6, sz7, sz8, sz9, sz10]
  have h4b := fb.get h49a (by simp)
  have gvbb := gv.mono (S := [r, d]) fb.of_nil gvb9a
  have rb := r9a.keep fb
  have f0b := f0a.trans fb.of_nil
  clear Lm L9a eu
  generalize Ga ++ [Cell.lst [W.tup (cutW (row.map W.int) none (some spot)), .tup (row.map W.int).reverse, .tup (row.map W.int ++ row.map W.int), .tup (cutW (row.map W.int) (some 1) none), .tup (row.map W.int ++ cutW (row.map W.int) none (some 1)), .ref c0, .tup [.tup (row.map W.int)], .tup []]] = Gb at *
  have lb4 := lt_of_get h4b
  have hu := push_get Gb (.lst us)
  have fu : Fr [] Gb (Gb ++ [.lst us]) := Fr.push
  generalize hn10 : Gb.length = n10 at *
  generalize Gb ++ [Cell.lst us] = Gc at *
  -- append
  refine so_seq ?_
  simp only [p2_c, p3_c, pT2_c, pT3_c, t_asg, t_expr, t_ret, t_if, t_nx, t_par, t_par3, g_set, g_tup2, g_tup3, g_put, s_bin, s_def, s_defK, s_call, s_cons, v_nil, s_var, v_c, s_lst, s_tup, s_test, s_tru, s_notT, s_andT, s_orT, s_and, s_or, s_not, s_if, s_neg, s_meth, s_cut, v_nopart, s_part, s_chain, s_seq, s_rng1, s_rng2, s_enum, s_zipL, s_tupR1, s_tupR2, s_yes, List.getElem?_cons_zero, List.getElem?_cons_succ, Option.some.injEq, exists_eq_left', v_ok, e_add, e_sub, e_int, e_min, e_max, e_maxU, e_lenT, e_tupT, e_lt, e_le, e_gt, e_ge, i_tup, e_cutT, List.set_cons_succ, List.set_cons_zero, List.length_cons, List.length_nil, Nat.reduceAdd, W.int.injEq, W.bl.injEq, W.ref.injEq, W.tup.injEq, W.str.injEq, reduceCtorEq, false_and, and_false, exists_false, or_false, false_or, true_and, and_true, exists_const, exists_eq_left, sz0, sz1, sz2, sz3, sz4, sz5, sz6, sz7, sz8, sz9, sz10, e_isL hu]
  refine lc_pure (row.map W.int) is1 ?_ (by simp; omega) ?_ ?_
  · simp only [s_bin, s_def, s_defK, s_call, s_cons, v_nil, s_var, v_c, s_lst, s_tup, s_test, s_tru, s_notT, s_andT, s_orT, s_and, s_or, s_not, s_if, s_neg, s_meth, s_cut, v_nopart, s_part, s_chain, s_seq, s_rng1, s_rng2, s_enum, s_zipL, s_tupR1, s_tupR2, s_yes, List.getElem?_cons_zero, List.getElem?_cons_succ, Option.some.injEq, exists_eq_left', v_ok, e_add, e_sub, e_int, e_min, e_max, e_maxU, e_lenT, e_tupT, e_lt, e_le, e_gt, e_ge, i_tup, e_cutT, List.set_cons_succ, List.set_cons_zero, List.length_cons, List.length_nil, Nat.reduceAdd, W.int.injEq, W.bl.injEq, W.ref.injEq, W.tup.injEq, W.str.injEq, reduceCtorEq, false_and, and_false, exists_false, or_false, false_or, true_and, and_true, exists_const, exists_eq_left, sz0, sz1, sz2, sz3, sz4, sz5, sz6, sz7, sz8, sz9, sz10]
    exact ⟨Fr.refl, it_tup _ _ _⟩
  · intro i w G' hw f
    obtain ⟨x, hx, rfl⟩ := map_get hw
    simp only [wipeE, p2_c, p3_c, pT2_c, pT3_c, t_asg, t_expr, t_ret, t_if, t_nx, t_par, t_par3, g_set, g_tup2, g_tup3, g_put, s_bin, s_def, s_defK, s_call, s_cons, v_nil, s_var, v_c, s_lst, s_tup, s_test, s_tru, s_notT, s_andT, s_orT, s_and, s_or, s_not, s_if, s_neg, s_meth, s_cut, v_nopart, s_part, s_chain, s_seq, s_rng1, s_rng2, s_enum, s_zipL, s_tupR1, s_tupR2, s_yes, List.getElem?_cons_zero, List.getElem?_cons_succ, Option.some.injEq, exists_eq_left', v_ok, e_add, e_sub, e_int, e_min, e_max, e_maxU, e_lenT, e_tupT, e_lt, e_le, e_gt, e_ge, i_tup, e_cutT, List.set_cons_succ, List.set_cons_zero, List.length_cons, List.length_nil, Nat.reduceAdd, W.int.injEq, W.bl.injEq, W.ref.injEq, W.tup.injEq, W.str.injEq, reduceCtorEq, false_and, and_false, exists_false, or_false, false_or, true_and, and_true, exists_const, exists_eq_left, sz0, sz1, sz2, sz3, sz4, sz5, sz6, sz7, sz8, sz9, sz10, eqOp_int, if_true]
    exact ⟨rfl, Fr.refl⟩
  intro m Gd fd hmd hgd
  rw [e_tupL hgd]
  simp only [s_bin, s_def, s_defK, s_call, s_cons, v_nil, s_var, v_c, s_lst, s_tup, s_test, s_tru, s_notT, s_andT, s_orT, s_and, s_or, s_not, s_if, s_neg, s_meth, s_cut, v_nopart, s_part, s_chain, s_seq, s_rng1, s_rng2, s_enum, s_zipL, s_tupR1, s_tupR2, s_yes, List.getElem?_cons_zero, List.getElem?_cons_succ, Option.some.injEq, exists_eq_left', v_ok, e_add, e_sub, e_int, e_min, e_max, e_maxU, e_lenT, e_tupT, e_lt, e_le, e_gt, e_ge, i_tup, e_cutT, List.set_cons_succ, List.set_cons_zero, List.length_cons, List.length_nil, Nat.reduceAdd, W.int.injEq, W.bl.injEq, W.ref.injEq, W.tup.injEq, W.str.injEq, reduceCtorEq, false_and, and_false, exists_false, or_false, false_or, true_and, and_true, exists_const, exists_eq_left, sz0, sz1, sz2, sz3, sz4, sz5, sz6, sz7, sz8, sz9, sz10]
  have hud := fd.get hu (by simp)
  rw [e_app hud (by omega)]
  simp only [s_bin, s_def, s_defK, s_call, s_cons, v_nil, s_var, v_c, s_lst, s_tup, s_test, s_tru, s_notT, s_andT, s_orT, s_and, s_or, s_not, s_if, s_neg, s_meth, s_cut, v_nopart, s_part, s_chain, s_seq, s_rng1, s_rng2, s_enum, s_zipL, s_tupR1, s_tupR2, s_yes, List.getElem?_cons_zero, List.getElem?_cons_succ, Option.some.injEq, exists_eq_left', v_ok, e_add, e_sub, e_int, e_min, e_max, e_maxU, e_lenT, e_tupT, e_lt, e_le, e_gt, e_ge, i_tup, e_cutT, List.set_cons_succ, List.set_cons_zero, List.length_cons, List.length_nil, Nat.reduceAdd, W.int.injEq, W.bl.injEq, W.ref.injEq, W.tup.injEq, W.str.injEq, reduceCtorEq, false_and, and_false, exists_false, or_false, false_or, true_and, and_true, exists_const, exists_eq_left, sz0, sz1, sz2, sz3, sz4, sz5, sz6, sz7, sz8, sz9, sz10]
  have fbd : Fr [] Gb (Gd.set n10 (.lst (us ++ [.tup ((row.map W.int).filterMap is1)]))) := (fu.trans fd).fresh (n := n10) (by omega) (Fr.set (by simp))
  have Le : LV [r, d] (Gd.set n10 (.lst (us ++ [.tup ((row.map W.int).filterMap is1)]))) n10 12 := ⟨_, get_set (lt_of_get hud), by rw [List.length_append]; simp; omega, fun x hx => by
    rcases List.mem_append.mp hx with hx | hx
    · exact gv.mono fbd.of_nil (uv x hx)
    · rw [List.mem_singleton.mp hx]
      refine (fm_gv (fun x hx y hy => ?_) hl).gv (by decide)
      cases hy; exact gv.bl⟩
  have h4e := fbd.get h4b (by simp)
  have gvbe := gv.mono (S := [r, d]) fbd.of_nil gvbb
  have re := rb.keep fbd
  have f0e := f0b.trans fbd.of_nil
  clear hgd hud fd hu fu uv
  generalize Gd.set n10 (.lst (us ++ [.tup ((row.map W.int).filterMap is1)])) = Ge at *
  refine so_seq ?_
  simp only [p2_c, p3_c, pT2_c, pT3_c, t_asg, t_expr, t_ret, t_if, t_nx, t_par, t_par3, g_set, g_tup2, g_tup3, g_put, s_bin, s_def, s_defK, s_call, s_cons, v_nil, s_var, v_c, s_lst, s_tup, s_test, s_tru, s_notT, s_andT, s_orT, s_and, s_or, s_not, s_if, s_neg, s_meth, s_cut, v_nopart, s_part, s_chain, s_seq, s_rng1, s_rng2, s_enum, s_zipL, s_tupR1, s_tupR2, s_yes, List.getElem?_cons_zero, List.getElem?_cons_succ, Option.some.injEq, exists_eq_left', v_ok, e_add, e_sub, e_int, e_min, e_max, e_maxU, e_lenT, e_tupT, e_lt, e_le, e_gt, e_ge, i_tup, e_cutT, List.set_cons_succ, List.set_cons_zero, List.length_cons, List.length_nil, Nat.reduceAdd, W.int.injEq, W.bl.injEq, W.ref.injEq, W.tup.injEq, W.str.injEq, reduceCtorEq, false_and, and_false, exists_false, or_false, false_or, true_and, and_true, exists_const, exists_eq_left, sz0, sz1, sz2, sz3, sz4, sz5, sz6, sz7, sz8, sz9, sz10, d0]
  refine lc_pure (row.map W.int) bo2 ?_ (by simp; omega) ?_ ?_
  · simp only [s_bin, s_def, s_defK, s_call, s_cons, v_nil, s_var, v_c, s_lst, s_tup, s_test, s_tru, s_notT, s_andT, s_orT, s_and, s_or, s_not, s_if, s_neg, s_meth, s_cut, v_nopart, s_part, s_chain, s_seq, s_rng1, s_rng2, s_enum, s_zipL, s_tupR1, s_tupR2, s_yes, List.getElem?_cons_zero, List.getElem?_cons_succ, Option.some.injEq, exists_eq_left', v_ok, e_add, e_sub, e_int, e_min, e_max, e_maxU, e_lenT, e_tupT, e_lt, e_le, e_gt, e_ge, i_tup, e_cutT, List.set_cons_succ, List.set_cons_zero, List.length_cons, List.length_nil, Nat.reduceAdd, W.int.injEq, W.bl.injEq, W.ref.injEq, W.tup.injEq, W.str.injEq, reduceCtorEq, false_and, and_false, exists_false, or_false, false_or, true_and, and_true, exists_const, exists_eq_left, sz0, sz1, sz2, sz3, sz4, sz5, sz6, sz7, sz8, sz9, sz10]
    exact ⟨Fr.refl, it_tup _ _ _⟩
  · intro i w G' hw f
    obtain ⟨x, hx, rfl⟩ := map_get hw
    have hbo : ∀ (i : Int) (G : Cells), boolW G [.int i] = .ok (.bl (i != 0)) G := fun i G => rfl
    simp only [wipeE, p2_c, p3_c, pT2_c, pT3_c, t_asg, t_expr, t_ret, t_if, t_nx, t_par, t_par3, g_set, g_tup2, g_tup3, g_put, s_bin, s_def, s_defK, s_call, s_cons, v_nil, s_var, v_c, s_lst, s_tup, s_test, s_tru, s_notT, s_andT, s_orT, s_and, s_or, s_not, s_if, s_neg, s_meth, s_cut, v_nopart, s_part, s_chain, s_seq, s_rng1, s_rng2, s_enum, s_zipL, s_tupR1, s_tupR2, s_yes, List.getElem?_cons_zero, List.getElem?_cons_succ, Option.some.injEq, exists_eq_left', v_ok, e_add, e_sub, e_int, e_min, e_max, e_maxU, e_lenT, e_tupT, e_lt, e_le, e_gt, e_ge, i_tup, e_cutT, List.set_cons_succ, List.set_cons_zero, List.length_cons, List.length_nil, Nat.reduceAdd, W.int.injEq, W.bl.injEq, W.ref.injEq, W.tup.injEq, W.str.injEq, reduceCtorEq, false_and, and_false, exists_false, or_false, false_or, true_and, and_true, exists_const, exists_eq_left, sz0, sz1, sz2, sz3, sz4, sz5, sz6, sz7, sz8, sz9, sz10, if_true, decide_eq_true_eq, hbo, bo2]
    refine hif (fun h => ?_) fun h => ?_
    · simp only [h, if_true, true_and]; exact Fr.refl
    · simp only [h, if_false, true_and]; exact Fr.refl
  intro m2 Gf ff hmf hgf
  rw [e_tupL hgf]
  have hsoT : ∀ G : Cells, sortedTW G [.tup (row.map W.int)] = .ok (.ref G.length) (G ++ [.lst ((row.mergeSort leB).map W.int)]) := fun G => by
    unfold sortedTW
    simp only [intsW_map]
    rw [if_pos (by omega)]
  simp only [s_bin, s_def, s_defK, s_call, s_cons, v_nil, s_var, v_c, s_lst, s_tup, s_test, s_tru, s_notT, s_andT, s_orT, s_and, s_or, s_not, s_if, s_neg, s_meth, s_cut, v_nopart, s_part, s_chain, s_seq, s_rng1, s_rng2, s_enum, s_zipL, s_tupR1, s_tupR2, s_yes, List.getElem?_cons_zero, List.getElem?_cons_succ, Option.some.injEq, exists_eq_left', v_ok, e_add, e_sub, e_int, e_min, e_max, e_maxU, e_lenT, e_tupT, e_lt, e_le, e_gt, e_ge, i_tup, e_cutT, List.set_cons_succ, List.set_cons_zero, List.length_cons, List.length_nil, Nat.reduceAdd, W.int.injEq, W.bl.injEq, W.ref.injEq, W.tup.injEq, W.str.injEq, reduceCtorEq, false_and, and_false, exists_false, or_false, false_or, true_and, and_true, exists_const, exists_eq_left, sz0, sz1, sz2, sz3, sz4, sz5, sz6, sz7, sz8, sz9, sz10, d0, hsoT]
  rw [e_tupL (push_get _ _)]
  simp only [s_bin, s_def, s_defK, s_call, s_cons, v_nil, s_var, v_c, s_lst, s_tup, s_test, s_tru, s_notT, s_andT, s_orT, s_and, s_or, s_not, s_if, s_neg, s_meth, s_cut, v_nopart, s_part, s_chain, s_seq, s_rng1, s_rng2, s_enum, s_zipL, s_tupR1, s_tupR2, s_yes, List.getElem?_cons_zero, List.getElem?_cons_succ, Option.some.injEq, exists_eq_left', v_ok, e_add, e_sub, e_int, e_min, e_max, e_maxU, e_lenT, e_tupT, e_lt, e_le, e_gt, e_ge, i_tup, e_cutT, List.set_cons_succ, List.set_cons_zero, List.length_cons, List.length_nil, Nat.reduceAdd, W.int.injEq, W.bl.injEq, W.ref.injEq, W.tup.injEq, W.str.injEq, reduceCtorEq, false_and, and_false, exists_false, or_false, false_or, true_and, and_true, exists_const, exists_eq_left, sz0, sz1, sz2, sz3, sz4, sz5, sz6, sz7, sz8, sz9, sz10]
  have hd := push_get Gf (.dct [])
  have fd1 : Fr [] Gf (Gf ++ [.dct []]) := Fr.push
  have fd2 := fd1.trans (Fr.push (S := []) (c := .lst ((row.mergeSort leB).map W.int)))
  have hd2 := (Fr.push (S := []) (c := .lst ((row.mergeSort leB).map W.int))).get hd (by simp)
  have feh := ff.trans fd2
  have Lh := Le.mono (feh.of_nil (S := [r, d])) (by simp; omega)
  have h4h := feh.get h4e (by simp)
  have gvbh := gv.mono (S := [r, d]) feh.of_nil gvbe
  have rh := re.keep feh
  have f0h := f0e.trans feh.of_nil
  have lf1 : G.length < Gf.length := by have := lt_of_get (ff.get h4e (by simp)); omega
  clear hgf
  generalize Gf.length = d1 at *
  generalize (Gf ++ [Cell.dct []]) ++ [Cell.lst ((row.mergeSort leB).map W.int)] = Gh at *
  have gvd : ∀ {ns : List Nat}, gv [r, d] Gh (60 :: ns) (.ref d1) := fun {ns} => ⟨by simp; omega, .inl hd2⟩
  have hsm : ∀ x ∈ row.mergeSort leB, 0 ≤ x ∧ x ≤ 1000 := fun x hx => jb x (hm x (List.mem_mergeSort.mp hx))
  have srow : (reprText ("row" : Str)).length ≤ 40 ∧ ("row" : Str).length ≤ 40 := by decide +kernel
  have Lm3 : LV [r, d] (Gh ++ [.lst [W.tup ((row.map W.int).filterMap bo2), .non, .str "row", .ref d1, .int 0, .bl true, .tup ((row.mergeSort leB).map W.int)]]) Gh.length 7 := LV.new (by simp) fun x hx => by
    simp only [List.mem_cons, List.not_mem_nil, or_false] at hx
    rcases hx with rfl | rfl | rfl | rfl | rfl | rfl | rfl
    · refine (fm_gv (fun x hx y hy => ?_) hl).gv (by decide)
      cases hy
      split
      · exact gv.bl
      · exact gv.int' (by have := jb x (hm x hx); omega)
    · exact gv.non
    · exact gv.str srow
    · exact gvd
    · exact gv.int' (by decide)
    · exact gv.bl
    · exact gv_row (by rw [List.length_mergeSort]; exact hl) hsm
  have fi : Fr [] Gh (Gh ++ [.lst [W.tup ((row.map W.int).filterMap bo2), .non, .str "row", .ref d1, .int 0, .bl true, .tup ((row.mergeSort leB).map W.int)]]) := Fr.push
  obtain ⟨us2, eu2, ul2, uv2⟩ := (Lh.mono (fi.of_nil (S := [r, d])) (by simp; omega)).add Lm3 (by decide)
  rw [eu2]
  simp only [s_bin, s_def, s_defK, s_call, s_cons, v_nil, s_var, v_c, s_lst, s_tup, s_test, s_tru, s_notT, s_andT, s_orT, s_and, s_or, s_not, s_if, s_neg, s_meth, s_cut, v_nopart, s_part, s_chain, s_seq, s_rng1, s_rng2, s_enum, s_zipL, s_tupR1, s_tupR2, s_yes, List.getElem?_cons_zero, List.getElem?_cons_succ, Option.some.injEq, exists_eq_left', v_ok, e_add, e_sub, e_int, e_min, e_max, e_maxU, e_lenT, e_tupT, e_lt, e_le, e_gt, e_ge, i_tup, e_cutT, List.set_cons_succ, List.set_cons_zero, List.length_cons, List.length_nil, Nat.reduceAdd, W.int.injEq, W.bl.injEq, W.ref.injEq, W.tup.injEq, W.str.injEq, reduceCtorEq, false_and, and_false, exists_false, or_false, false_or, true_and, and_true, exists_const, exists_eq_left, sz0, sz1, sz2, sz3, sz4, sz5, sz6, sz7, sz8, sz9, sz10]
  have h4i := fi.get h4h (by simp)
  have ri := rh.keep fi
  have f0i := f0h.trans fi.of_nil
  clear Lm3 eu2 Lh Le
  generalize Gh ++ [Cell.lst [W.tup ((row.map W.int).filterMap bo2), .non, .str "row", .ref d1, .int 0, .bl true, .tup ((row.mergeSort leB).map W.int)]] = Gi at *
  have li4 := lt_of_get h4i
  have Lj : LV [r, d] (Gi ++ [.lst us2]) Gi.length 19 := LV.new ul2 uv2
  have fj : Fr [] Gi (Gi ++ [.lst us2]) := Fr.push
  have h4j := fj.get h4i (by simp)
  have rj := ri.keep fj
  have f0j := f0i.trans fj.of_nil
  generalize Gi.length = n11 at *
  generalize Gi ++ [Cell.lst us2] = Gj at *
  -- the last list
  have jlist : ∀ x ∈ (jumpsN sk).map W.int ++ [W.int 0, .int 1], gv [r, d] Gj [60] x := fun x hx => by
    rcases List.mem_append.mp hx with hx | hx
    · obtain ⟨y, hy, rfl⟩ := List.mem_map.mp hx
      exact gv.int' (by have := jb y hy; omega)
    · simp only [List.mem_cons, List.not_mem_nil, or_false] at hx
      rcases hx with rfl | rfl <;> exact gv.int' (by decide)
  have J : TV [r, d] Gj 26 ((jumpsN sk).map W.int ++ [W.int 0, .int 1]) := ⟨by simp; omega, jlist⟩
  have JC := J.cut none (some (-2))
  simp only [e_cutL h4j]
  simp only [s_bin, s_def, s_defK, s_call, s_cons, v_nil, s_var, v_c, s_lst, s_tup, s_test, s_tru, s_notT, s_andT, s_orT, s_and, s_or, s_not, s_if, s_neg, s_meth, s_cut, v_nopart, s_part, s_chain, s_seq, s_rng1, s_rng2, s_enum, s_zipL, s_tupR1, s_tupR2, s_yes, List.getElem?_cons_zero, List.getElem?_cons_succ, Option.some.injEq, exists_eq_left', v_ok, e_add, e_sub, e_int, e_min, e_max, e_maxU, e_lenT, e_tupT, e_lt, e_le, e_gt, e_ge, i_tup, e_cutT, List.set_cons_succ, List.set_cons_zero, List.length_cons, List.length_nil, Nat.reduceAdd, W.int.injEq, W.bl.injEq, W.ref.injEq, W.tup.injEq, W.str.injEq, reduceCtorEq, false_and, and_false, exists_false, or_false, false_or, true_and, and_true, exists_const, exists_eq_left, sz0, sz1, sz2, sz3, sz4, sz5, sz6, sz7, sz8, sz9, sz10]
  rw [e_tupL (push_get _ _)]
  simp only [s_bin, s_def, s_defK, s_call, s_cons, v_nil, s_var, v_c, s_lst, s_tup, s_test, s_tru, s_notT, s_andT, s_orT, s_and, s_or, s_not, s_if, s_neg, s_meth, s_cut, v_nopart, s_part, s_chain, s_seq, s_rng1, s_rng2, s_enum, s_zipL, s_tupR1, s_tupR2, s_yes, List.getElem?_cons_zero, List.getElem?_cons_succ, Option.some.injEq, exists_eq_left', v_ok, e_add, e_sub, e_int, e_min, e_max, e_maxU, e_lenT, e_tupT, e_lt, e_le, e_gt, e_ge, i_tup, e_cutT, List.set_cons_succ, List.set_cons_zero, List.length_cons, List.length_nil, Nat.reduceAdd, W.int.injEq, W.bl.injEq, W.ref.injEq, W.tup.injEq, W.str.injEq, reduceCtorEq, false_and, and_false, exists_false, or_false, false_or, true_and, and_true, exists_const, exists_eq_left, sz0, sz1, sz2, sz3, sz4, sz5, sz6, sz7, sz8, sz9, sz10]
  have fk1 : Fr [] Gj (Gj ++ [.lst (cutW ((jumpsN sk).map W.int ++ [W.int 0, .int 1]) none (some (-2)))]) := Fr.push
  have h4k := fk1.get h4j (by simp)
  have Lk := Lj.mono (fk1.of_nil (S := [r, d])) (by simp; omega)
  have JCk := JC.mono (fk1.of_nil (S := [r, d]))
  have rk := rj.keep fk1
  have f0k := f0j.trans fk1.of_nil
  generalize Gj ++ [Cell.lst (cutW ((jumpsN sk).map W.int ++ [W.int 0, .int 1]) none (some (-2)))] = Gk at *
  rw [s_rev]
  simp only [s_bin, s_def, s_defK, s_call, s_cons, v_nil, s_var, v_c, s_lst, s_tup, s_test, s_tru, s_notT, s_andT, s_orT, s_and, s_or, s_not, s_if, s_neg, s_meth, s_cut, v_nopart, s_part, s_chain, s_seq, s_rng1, s_rng2, s_enum, s_zipL, s_tupR1, s_tupR2, s_yes, List.getElem?_cons_zero, List.getElem?_cons_succ, Option.some.injEq, exists_eq_left', v_ok, e_add, e_sub, e_int, e_min, e_max, e_maxU, e_lenT, e_tupT, e_lt, e_le, e_gt, e_ge, i_tup, e_cutT, List.set_cons_succ, List.set_cons_zero, List.length_cons, List.length_nil, Nat.reduceAdd, W.int.injEq, W.bl.injEq, W.ref.injEq, W.tup.injEq, W.str.injEq, reduceCtorEq, false_and, and_false, exists_false, or_false, false_or, true_and, and_true, exists_const, exists_eq_left, sz0, sz1, sz2, sz3, sz4, sz5, sz6, sz7, sz8, sz9, sz10, e_cutL h4k]
  rw [e_tupL (push_get _ _)]
  simp only [s_bin, s_def, s_defK, s_call, s_cons, v_nil, s_var, v_c, s_lst, s_tup, s_test, s_tru, s_notT, s_andT, s_orT, s_and, s_or, s_not, s_if, s_neg, s_meth, s_cut, v_nopart, s_part, s_chain, s_seq, s_rng1, s_rng2, s_enum, s_zipL, s_tupR1, s_tupR2, s_yes, List.getElem?_cons_zero, List.getElem?_cons_succ, Option.some.injEq, exists_eq_left', v_ok, e_add, e_sub, e_int, e_min, e_max, e_maxU, e_lenT, e_tupT, e_lt, e_le, e_gt, e_ge, i_tup, e_cutT, List.set_cons_succ, List.set_cons_zero, List.length_cons, List.length_nil, Nat.reduceAdd, W.int.injEq, W.bl.injEq, W.ref.injEq, W.tup.injEq, W.str.injEq, reduceCtorEq, false_and, and_false, exists_false, or_false, false_or, true_and, and_true, exists_const, exists_eq_left, sz0, sz1, sz2, sz3, sz4, sz5, sz6, sz7, sz8, sz9, sz10]
  have fl : Fr [] Gk (Gk ++ [.lst (cutW ((jumpsN sk).map W.int ++ [W.int 0, .int 1]) none (some (-2)))]) := Fr.push
  have Ll := Lk.mono (fl.of_nil (S := [r, d])) (by simp; omega)
  have JCl := JCk.mono (fl.of_nil (S := [r, d]))
  have rl := rk.keep fl
  have f0l := f0k.trans fl.of_nil
  have lgl : G.length < (Gk ++ [Cell.lst (cutW ((jumpsN sk).map W.int ++ [W.int 0, .int 1]) none (some (-2)))]).length := by have := lt_of_get h4k; simp; omega
  generalize Gk ++ [Cell.lst (cutW ((jumpsN sk).map W.int ++ [W.int 0, .int 1]) none (some (-2)))] = Gl at *
  have z1 := push_get Gl (.lst [W.int 0])
  have y1 : Fr [] Gl (Gl ++ [.lst [W.int 0]]) := Fr.push
  have ly1 := y1.1
  have ly1' : Gl.length < (Gl ++ [Cell.lst [W.int 0]]).length := by simp
  generalize hq1 : Gl.length = q1 at *
  generalize Gl ++ [Cell.lst [W.int 0]] = Gm at *
  have z2 := push_get Gm (.lst [W.ref q1])
  have y2 : Fr [] Gm (Gm ++ [.lst [W.ref q1]]) := Fr.push
  have ly2' : Gm.length < (Gm ++ [Cell.lst [W.ref q1]]).length := by simp
  generalize hq2 : Gm.length = q2 at *
  generalize Gm ++ [Cell.lst [W.ref q1]] = Gn at *
  have z3 := push_get Gn (.dct [])
  have y3 : Fr [] Gn (Gn ++ [.dct []]) := Fr.push
  generalize hq3 : Gn.length = q3 at *
  generalize Gn ++ [Cell.dct []] = Go at *
  have z1o := (y2.trans y3).get z1 (by simp)
  have z2o := y3.get z2 (by simp)
  have y13 := y1.trans (y2.trans y3)
  have JCo := JCl.mono (y13.of_nil (S := [r, d]))
  have ro := rl.keep y13
  have f0o := f0l.trans y13.of_nil
  have Lo := Ll.mono (y13.of_nil (S := [r, d])) (by simp; omega)
  have lgo : G.length < Go.length := by have := f0o.1; have := lt_of_get z3; omega
  have Lp : LV [r, d] (Go ++ [.lst [W.tup (cutW ((jumpsN sk).map W.int ++ [W.int 0, .int 1]) none (some (-2))), .tup (cutW ((jumpsN sk).map W.int ++ [W.int 0, .int 1]) none (some (-2))).reverse, .ref q2, .tup [.tup []], .tup [.ref q3]]]) Go.length 5 := LV.new (by simp) fun x hx => by
    simp only [List.mem_cons, List.not_mem_nil, or_false] at hx
    rcases hx with rfl | rfl | rfl | rfl | rfl
    · exact JCo.gv (by decide)
    · exact JCo.rev.gv (by decide)
    · refine ⟨by simp; omega, .inr ⟨_, z2o, by simp, fun x hx => ?_⟩⟩
      rw [List.mem_singleton.mp hx]
      exact ⟨by simp; omega, .inr ⟨_, z1o, by decide, fun x hx => by rw [List.mem_singleton.mp hx]; exact gv.int' (by decide)⟩⟩
    · refine ⟨by decide, fun x hx => ?_⟩
      rw [List.mem_singleton.mp hx]
      exact ⟨by simp, by simp⟩
    · refine ⟨by simp, fun x hx => ?_⟩
      rw [List.mem_singleton.mp hx]
      exact ⟨by simp; omega, .inl z3⟩
  have fp : Fr [] Go (Go ++ [.lst [W.tup (cutW ((jumpsN sk).map W.int ++ [W.int 0, .int 1]) none (some (-2))), .tup (cutW ((jumpsN sk).map W.int ++ [W.int 0, .int 1]) none (some (-2))).reverse, .ref q2, .tup [.tup []], .tup [.ref q3]]]) := Fr.push
  obtain ⟨us3, eu3, ul3, uv3⟩ := (Lo.mono (fp.of_nil (S := [r, d])) (by simp; omega)).add Lp (by decide)
  rw [eu3]
  simp only [s_bin, s_def, s_defK, s_call, s_cons, v_nil, s_var, v_c, s_lst, s_tup, s_test, s_tru, s_notT, s_andT, s_orT, s_and, s_or, s_not, s_if, s_neg, s_meth, s_cut, v_nopart, s_part, s_chain, s_seq, s_rng1, s_rng2, s_enum, s_zipL, s_tupR1, s_tupR2, s_yes, List.getElem?_cons_zero, List.getElem?_cons_succ, Option.some.injEq, exists_eq_left', v_ok, e_add, e_sub, e_int, e_min, e_max, e_maxU, e_lenT, e_tupT, e_lt, e_le, e_gt, e_ge, i_tup, e_cutT, List.set_cons_succ, List.set_cons_zero, List.length_cons, List.length_nil, Nat.reduceAdd, W.int.injEq, W.bl.injEq, W.ref.injEq, W.tup.injEq, W.str.injEq, reduceCtorEq, false_and, and_false, exists_false, or_false, false_or, true_and, and_true, exists_const, exists_eq_left, sz0, sz1, sz2, sz3, sz4, sz5, sz6, sz7, sz8, sz9, sz10]
  have rp := (ro.keep fp)
  have f0p := f0o.trans fp.of_nil
  have lp : G.length < (Go ++ [Cell.lst [W.tup (cutW ((jumpsN sk).map W.int ++ [W.int 0, .int 1]) none (some (-2))), .tup (cutW ((jumpsN sk).map W.int ++ [W.int 0, .int 1]) none (some (-2))).reverse, .ref q2, .tup [.tup []], .tup [.ref q3]]]).length := by simp; omega
  have us3ne : 1 ≤ us3.length := by
    have := eu3
    obtain ⟨ws, g, hl', hv'⟩ := (Lo.mono (fp.of_nil (S := [r, d])) (by simp; omega)).ex
    rw [e_addL g (push_get _ _) (by simp; omega)] at this
    injection this with h1 h2
    have h3 := List.append_cancel_left h2
    injection h3 with h4
    injection h4 with h5
    rw [← h5]; simp
  clear Lp eu3
  generalize Go ++ [Cell.lst [W.tup (cutW ((jumpsN sk).map W.int ++ [W.int 0, .int 1]) none (some (-2))), .tup (cutW ((jumpsN sk).map W.int ++ [W.int 0, .int 1]) none (some (-2))).reverse, .ref q2, .tup [.tup []], .tup [.ref q3]]] = Gp at *
  have fq : Fr [] Gp (Gp ++ [.lst us3]) := Fr.push
  refine (pick_ok (rp.keep fq) (push_get Gp (.lst us3)) (by omega) (by omega) us3ne (by omega)).mono fun w' Gq q => ?_
  obtain ⟨qm, rq, fqq⟩ := q
  exact ⟨gv.drop (gv.mono (fq.of_nil.trans fqq) (uv3 w' qm)), rq, (f0p.trans fq.of_nil).trans fqq⟩
end NS
/- part V20 -/
set_option maxHeartbeats 1000000
namespace NS
open PySem PySem.Spec PyProof.Rows L2 PL

theorem law_true (v : {v : Nat → Addr // v 0 ≠ v 1}) (ns : List Int) (hn : ns.length ≤ 63) : ∃ G, Mlaw v.1 [.ref 0] [.rol (ns.map W.int)] = .ok (.bl true) G := by
  suffices h : (Mlaw v.1 [.ref 0] [.rol (ns.map W.int)]).sat fun w _ => w = .bl true by
    obtain ⟨w, G, e, rfl⟩ := h.get
    exact ⟨G, e⟩
  refine fun_sat rfl ?_
  show (Blaw v.1 [some (.ref 0), none, none, none, none, none, none, none] [.rol (ns.map W.int)]).sat _ _
  unfold Blaw
  refine so_seq ?_
  simp only [p2_c, p3_c, pT2_c, pT3_c, t_asg, t_expr, t_ret, t_if, t_nx, t_par, t_par3, g_set, g_tup2, g_tup3, g_put, s_bin, s_def, s_defK, s_call, s_cons, v_nil, s_var, v_c, s_lst, s_tup, s_test, s_tru, s_notT, s_andT, s_orT, s_and, s_or, s_not, s_if, s_neg, s_meth, s_cut, v_nopart, s_part, s_chain, s_seq, s_rng1, s_rng2, s_enum, s_zipL, s_tupR1, s_tupR2, s_yes, List.getElem?_cons_zero, List.getElem?_cons_succ, Option.some.injEq, exists_eq_left', v_ok, e_add, e_sub, e_int, e_min, e_max, e_maxU, e_lenT, e_tupT, e_lt, e_le, e_gt, e_ge, i_tup, e_cutT, List.set_cons_succ, List.set_cons_zero, List.length_cons, List.length_nil, Nat.reduceAdd, W.int.injEq, W.bl.injEq, W.ref.injEq, W.tup.injEq, W.str.injEq, reduceCtorEq, false_and, and_false, exists_false, or_false, false_or, true_and, and_true, exists_const, exists_eq_left, sz0, sz1, sz2, sz3, sz4, sz5, sz6, sz7, sz8, sz9, sz10]
  refine (stock_ok ns hn).mono fun w G1 q => ?_
  obtain ⟨r, d, c, rfl, r1⟩ := q
  refine so_seq (so_forI (rnW 0 3) (fun i E G2 => RI r d c G2 ∧ ∃ x2 x3 x4 x5 x6 x7, E = [some (.ref 0), some (.ref r), x2, x3, x4, x5, x6, x7]) ?_ ?_ ?_)
  · simp only [s_bin, s_def, s_defK, s_call, s_cons, v_nil, s_var, v_c, s_lst, s_tup, s_test, s_tru, s_notT, s_andT, s_orT, s_and, s_or, s_not, s_if, s_neg, s_meth, s_cut, v_nopart, s_part, s_chain, s_seq, s_rng1, s_rng2, s_enum, s_zipL, s_tupR1, s_tupR2, s_yes, List.getElem?_cons_zero, List.getElem?_cons_succ, Option.some.injEq, exists_eq_left', v_ok, e_add, e_sub, e_int, e_min, e_max, e_maxU, e_lenT, e_tupT, e_lt, e_le, e_gt, e_ge, i_tup, e_cutT, List.set_cons_succ, List.set_cons_zero, List.length_cons, List.length_nil, Nat.reduceAdd, W.int.injEq, W.bl.injEq, W.ref.injEq, W.tup.injEq, W.str.injEq, reduceCtorEq, false_and, and_false, exists_false, or_false, false_or, true_and, and_true, exists_const, exists_eq_left, sz0, sz1, sz2, sz3, sz4, sz5, sz6, sz7, sz8, sz9, sz10]
    exact ⟨rfl, (it_rng [] G1 0 3).len, ⟨r1, _, _, _, _, _, _, rfl⟩, fun i E' G' q => (it_rng [] G' 0 3).at' G' i Fr.refl⟩
  · rintro i w E G2 hw ⟨r2, x2, x3, x4, x5, x6, x7, rfl⟩
    obtain ⟨hi, rfl⟩ := rnW_inv hw
    simp only [p2_c, p3_c, pT2_c, pT3_c, t_asg, t_expr, t_ret, t_if, t_nx, t_par, t_par3, g_set, g_tup2, g_tup3, g_put, s_bin, s_def, s_defK, s_call, s_cons, v_nil, s_var, v_c, s_lst, s_tup, s_test, s_tru, s_notT, s_andT, s_orT, s_and, s_or, s_not, s_if, s_neg, s_meth, s_cut, v_nopart, s_part, s_chain, s_seq, s_rng1, s_rng2, s_enum, s_zipL, s_tupR1, s_tupR2, s_yes, List.getElem?_cons_zero, List.getElem?_cons_succ, Option.some.injEq, exists_eq_left', v_ok, e_add, e_sub, e_int, e_min, e_max, e_maxU, e_lenT, e_tupT, e_lt, e_le, e_gt, e_ge, i_tup, e_cutT, List.set_cons_succ, List.set_cons_zero, List.length_cons, List.length_nil, Nat.reduceAdd, W.int.injEq, W.bl.injEq, W.ref.injEq, W.tup.injEq, W.str.injEq, reduceCtorEq, false_and, and_false, exists_false, or_false, false_or, true_and, and_true, exists_const, exists_eq_left, sz0, sz1, sz2, sz3, sz4, sz5, sz6, sz7, sz8, sz9, sz10, Int.zero_add]
    refine so_seq ?_
    simp only [p2_c, p3_c, pT2_c, pT3_c, t_asg, t_expr, t_ret, t_if, t_nx, t_par, t_par3, g_set, g_tup2, g_tup3, g_put, s_bin, s_def, s_defK, s_call, s_cons, v_nil, s_var, v_c, s_lst, s_tup, s_test, s_tru, s_notT, s_andT, s_orT, s_and, s_or, s_not, s_if, s_neg, s_meth, s_cut, v_nopart, s_part, s_chain, s_seq, s_rng1, s_rng2, s_enum, s_zipL, s_tupR1, s_tupR2, s_yes, List.getElem?_cons_zero, List.getElem?_cons_succ, Option.some.injEq, exists_eq_left', v_ok, e_add, e_sub, e_int, e_min, e_max, e_maxU, e_lenT, e_tupT, e_lt, e_le, e_gt, e_ge, i_tup, e_cutT, List.set_cons_succ, List.set_cons_zero, List.length_cons, List.length_nil, Nat.reduceAdd, W.int.injEq, W.bl.injEq, W.ref.injEq, W.tup.injEq, W.str.injEq, reduceCtorEq, false_and, and_false, exists_false, or_false, false_or, true_and, and_true, exists_const, exists_eq_left, sz0, sz1, sz2, sz3, sz4, sz5, sz6, sz7, sz8, sz9, sz10]
    refine (draw_ok r2 (size := 8) (by decide) (by decide)).mono fun w G3 q => ?_
    obtain ⟨⟨t, rfl, t0, t1⟩, r3, f3⟩ := q
    have hib : ∀ (b : Bool) (G : Cells), intW G [.bl b] = .ok (.int (if b = true then 1 else 0)) G := fun b G => rfl
    have hml : ∀ (b : Bool) (G : Cells), mulW G (.int 2) (.int (if b = true then 1 else 0)) = .ok (.int (2 * (if b = true then 1 else 0))) G := fun b G => e_mul (mulOk_l (by decide))
    simp only [eqOp_int, s_bin, s_def, s_defK, s_call, s_cons, v_nil, s_var, v_c, s_lst, s_tup, s_test, s_tru, s_notT, s_andT, s_orT, s_and, s_or, s_not, s_if, s_neg, s_meth, s_cut, v_nopart, s_part, s_chain, s_seq, s_rng1, s_rng2, s_enum, s_zipL, s_tupR1, s_tupR2, s_yes, List.getElem?_cons_zero, List.getElem?_cons_succ, Option.some.injEq, exists_eq_left', v_ok, e_add, e_sub, e_int, e_min, e_max, e_maxU, e_lenT, e_tupT, e_lt, e_le, e_gt, e_ge, i_tup, e_cutT, List.set_cons_succ, List.set_cons_zero, List.length_cons, List.length_nil, Nat.reduceAdd, W.int.injEq, W.bl.injEq, W.ref.injEq, W.tup.injEq, W.str.injEq, reduceCtorEq, false_and, and_false, exists_false, or_false, false_or, true_and, and_true, exists_const, exists_eq_left, sz0, sz1, sz2, sz3, sz4, sz5, sz6, sz7, sz8, sz9, sz10, hib, hml]
    have ht : (0 : Int) ≤ 4 + 2 * (if decide (t = 0) = true then 1 else 0) := by split <;> decide
    generalize (4 : Int) + 2 * (if decide (t = 0) = true then 1 else 0) = mo at *
    obtain ⟨most, hmo, hm0⟩ : ∃ a, ([W.int 2, .int 3, .int mo] : List W)[i]? = some (.int a) ∧ 0 ≤ a := by
      match i, hi with
      | 0, _ => exact ⟨2, rfl, by decide⟩
      | 1, _ => exact ⟨3, rfl, by decide⟩
      | 2, _ => exact ⟨mo, rfl, ht⟩
      | n + 3, h => omega
    have gg := e_getL (i := (i : Int)) (push_get G3 (.lst [W.int 2, .int 3, .int mo])) (by rw [Int.toNat_natCast]; exact hmo) (by omega)
    simp only [p2_c, p3_c, pT2_c, pT3_c, t_asg, t_expr, t_ret, t_if, t_nx, t_par, t_par3, g_set, g_tup2, g_tup3, g_put, s_bin, s_def, s_defK, s_call, s_cons, v_nil, s_var, v_c, s_lst, s_tup, s_test, s_tru, s_notT, s_andT, s_orT, s_and, s_or, s_not, s_if, s_neg, s_meth, s_cut, v_nopart, s_part, s_chain, s_seq, s_rng1, s_rng2, s_enum, s_zipL, s_tupR1, s_tupR2, s_yes, List.getElem?_cons_zero, List.getElem?_cons_succ, Option.some.injEq, exists_eq_left', v_ok, e_add, e_sub, e_int, e_min, e_max, e_maxU, e_lenT, e_tupT, e_lt, e_le, e_gt, e_ge, i_tup, e_cutT, List.set_cons_succ, List.set_cons_zero, List.length_cons, List.length_nil, Nat.reduceAdd, W.int.injEq, W.bl.injEq, W.ref.injEq, W.tup.injEq, W.str.injEq, reduceCtorEq, false_and, and_false, exists_false, or_false, false_or, true_and, and_true, exists_const, exists_eq_left, sz0, sz1, sz2, sz3, sz4, sz5, sz6, sz7, sz8, sz9, sz10, gg]
    refine (skeleton_ok (r3.keep Fr.push) (most := most) (wide := 7) hm0 (by decide) (by decide)).mono fun w G4 q => ?_
    obtain ⟨sk, rfl, hs, r4, f4⟩ := q
    refine so_seq ?_
    simp only [p2_c, p3_c, pT2_c, pT3_c, t_asg, t_expr, t_ret, t_if, t_nx, t_par, t_par3, g_set, g_tup2, g_tup3, g_put, s_bin, s_def, s_defK, s_call, s_cons, v_nil, s_var, v_c, s_lst, s_tup, s_test, s_tru, s_notT, s_andT, s_orT, s_and, s_or, s_not, s_if, s_neg, s_meth, s_cut, v_nopart, s_part, s_chain, s_seq, s_rng1, s_rng2, s_enum, s_zipL, s_tupR1, s_tupR2, s_yes, List.getElem?_cons_zero, List.getElem?_cons_succ, Option.some.injEq, exists_eq_left', v_ok, e_add, e_sub, e_int, e_min, e_max, e_maxU, e_lenT, e_tupT, e_lt, e_le, e_gt, e_ge, i_tup, e_cutT, List.set_cons_succ, List.set_cons_zero, List.length_cons, List.length_nil, Nat.reduceAdd, W.int.injEq, W.bl.injEq, W.ref.injEq, W.tup.injEq, W.str.injEq, reduceCtorEq, false_and, and_false, exists_false, or_false, false_or, true_and, and_true, exists_const, exists_eq_left, sz0, sz1, sz2, sz3, sz4, sz5, sz6, sz7, sz8, sz9, sz10, eqOp_int]
    refine (program_ok hs r4).mono fun w G5 q => ?_
    obtain ⟨ln, rs, rfl, P, r5, f5⟩ := q
    refine so_forI [W.bl true, .bl false] (fun k E G6 => RI r d c G6 ∧ ∃ x5 x6 x7, E = [some (.ref 0), some (.ref r), some (.int (i : Int)), some (skW sk), some (prW sk ln rs), x5, x6, x7]) ?_ ?_ ?_
    · simp only [s_bin, s_def, s_defK, s_call, s_cons, v_nil, s_var, v_c, s_lst, s_tup, s_test, s_tru, s_notT, s_andT, s_orT, s_and, s_or, s_not, s_if, s_neg, s_meth, s_cut, v_nopart, s_part, s_chain, s_seq, s_rng1, s_rng2, s_enum, s_zipL, s_tupR1, s_tupR2, s_yes, List.getElem?_cons_zero, List.getElem?_cons_succ, Option.some.injEq, exists_eq_left', v_ok, e_add, e_sub, e_int, e_min, e_max, e_maxU, e_lenT, e_tupT, e_lt, e_le, e_gt, e_ge, i_tup, e_cutT, List.set_cons_succ, List.set_cons_zero, List.length_cons, List.length_nil, Nat.reduceAdd, W.int.injEq, W.bl.injEq, W.ref.injEq, W.tup.injEq, W.str.injEq, reduceCtorEq, false_and, and_false, exists_false, or_false, false_or, true_and, and_true, exists_const, exists_eq_left, sz0, sz1, sz2, sz3, sz4, sz5, sz6, sz7, sz8, sz9, sz10]
      exact ⟨rfl, ⟨r5, _, _, _, rfl⟩, fun i E' G' q => rfl⟩
    · rintro k w E G6 hw ⟨r6, x5, x6, x7, rfl⟩
      obtain ⟨b, rfl⟩ : ∃ b, w = .bl b := by
        match k, hw with
        | 0, hw => cases hw; exact ⟨_, rfl⟩
        | 1, hw => cases hw; exact ⟨_, rfl⟩
        | n + 2, hw => cases hw
      simp only [p2_c, p3_c, pT2_c, pT3_c, t_asg, t_expr, t_ret, t_if, t_nx, t_par, t_par3, g_set, g_tup2, g_tup3, g_put, s_bin, s_def, s_defK, s_call, s_cons, v_nil, s_var, v_c, s_lst, s_tup, s_test, s_tru, s_notT, s_andT, s_orT, s_and, s_or, s_not, s_if, s_neg, s_meth, s_cut, v_nopart, s_part, s_chain, s_seq, s_rng1, s_rng2, s_enum, s_zipL, s_tupR1, s_tupR2, s_yes, List.getElem?_cons_zero, List.getElem?_cons_succ, Option.some.injEq, exists_eq_left', v_ok, e_add, e_sub, e_int, e_min, e_max, e_maxU, e_lenT, e_tupT, e_lt, e_le, e_gt, e_ge, i_tup, e_cutT, List.set_cons_succ, List.set_cons_zero, List.length_cons, List.length_nil, Nat.reduceAdd, W.int.injEq, W.bl.injEq, W.ref.injEq, W.tup.injEq, W.str.injEq, reduceCtorEq, false_and, and_false, exists_false, or_false, false_or, true_and, and_true, exists_const, exists_eq_left, sz0, sz1, sz2, sz3, sz4, sz5, sz6, sz7, sz8, sz9, sz10]
      refine so_seq ?_
      simp only [p2_c, p3_c, pT2_c, pT3_c, t_asg, t_expr, t_ret, t_if, t_nx, t_par, t_par3, g_set, g_tup2, g_tup3, g_put, s_bin, s_def, s_defK, s_call, s_cons, v_nil, s_var, v_c, s_lst, s_tup, s_test, s_tru, s_notT, s_andT, s_orT, s_and, s_or, s_not, s_if, s_neg, s_meth, s_cut, v_nopart, s_part, s_chain, s_seq, s_rng1, s_rng2, s_enum, s_zipL, s_tupR1, s_tupR2, s_yes, List.getElem?_cons_zero, List.getElem?_cons_succ, Option.some.injEq, exists_eq_left', v_ok, e_add, e_sub, e_int, e_min, e_max, e_maxU, e_lenT, e_tupT, e_lt, e_le, e_gt, e_ge, i_tup, e_cutT, List.set_cons_succ, List.set_cons_zero, List.length_cons, List.length_nil, Nat.reduceAdd, W.int.injEq, W.bl.injEq, W.ref.injEq, W.tup.injEq, W.str.injEq, reduceCtorEq, false_and, and_false, exists_false, or_false, false_or, true_and, and_true, exists_const, exists_eq_left, sz0, sz1, sz2, sz3, sz4, sz5, sz6, sz7, sz8, sz9, sz10]
      refine (row_ok P r6).mono fun w G7 q => ?_
      obtain ⟨row, rfl, hl, hm, r7, f7⟩ := q
      have jb : ∀ j ∈ jumpsN sk, 0 ≤ j ∧ j ≤ 1000 := fun j hj => by
        obtain ⟨n, g, s, l, hn, rfl⟩ := jumpsN_mem.mp hj
        have := (List.getElem?_eq_some_iff.mp hn).1
        have := P.hsk.len2
        omega
      refine so_seq ?_
      simp only [p2_c, p3_c, pT2_c, pT3_c, t_asg, t_expr, t_ret, t_if, t_nx, t_par, t_par3, g_set, g_tup2, g_tup3, g_put, s_bin, s_def, s_defK, s_call, s_cons, v_nil, s_var, v_c, s_lst, s_tup, s_test, s_tru, s_notT, s_andT, s_orT, s_and, s_or, s_not, s_if, s_neg, s_meth, s_cut, v_nopart, s_part, s_chain, s_seq, s_rng1, s_rng2, s_enum, s_zipL, s_tupR1, s_tupR2, s_yes, List.getElem?_cons_zero, List.getElem?_cons_succ, Option.some.injEq, exists_eq_left', v_ok, e_add, e_sub, e_int, e_min, e_max, e_maxU, e_lenT, e_tupT, e_lt, e_le, e_gt, e_ge, i_tup, e_cutT, List.set_cons_succ, List.set_cons_zero, List.length_cons, List.length_nil, Nat.reduceAdd, W.int.injEq, W.bl.injEq, W.ref.injEq, W.tup.injEq, W.str.injEq, reduceCtorEq, false_and, and_false, exists_false, or_false, false_or, true_and, and_true, exists_const, exists_eq_left, sz0, sz1, sz2, sz3, sz4, sz5, sz6, sz7, sz8, sz9, sz10]
      refine (told_ok v.2 P (gv_row hl fun x hx => jb x (hm x hx))).mono fun w G8 q => ?_
      obtain ⟨rfl, f8⟩ := q
      have r8 := r7.keep f8
      refine ⟨true, rfl, ?_⟩
      rw [if_neg (by decide)]
      refine so_forI (rnW 0 5) (fun m E G9 => RI r d c G9 ∧ ∃ x7, E = [some (.ref 0), some (.ref r), some (.int (i : Int)), some (skW sk), some (prW sk ln rs), some (.bl b), some (.tup (row.map W.int)), x7]) ?_ ?_ ?_
      · simp only [s_bin, s_def, s_defK, s_call, s_cons, v_nil, s_var, v_c, s_lst, s_tup, s_test, s_tru, s_notT, s_andT, s_orT, s_and, s_or, s_not, s_if, s_neg, s_meth, s_cut, v_nopart, s_part, s_chain, s_seq, s_rng1, s_rng2, s_enum, s_zipL, s_tupR1, s_tupR2, s_yes, List.getElem?_cons_zero, List.getElem?_cons_succ, Option.some.injEq, exists_eq_left', v_ok, e_add, e_sub, e_int, e_min, e_max, e_maxU, e_lenT, e_tupT, e_lt, e_le, e_gt, e_ge, i_tup, e_cutT, List.set_cons_succ, List.set_cons_zero, List.length_cons, List.length_nil, Nat.reduceAdd, W.int.injEq, W.bl.injEq, W.ref.injEq, W.tup.injEq, W.str.injEq, reduceCtorEq, false_and, and_false, exists_false, or_false, false_or, true_and, and_true, exists_const, exists_eq_left, sz0, sz1, sz2, sz3, sz4, sz5, sz6, sz7, sz8, sz9, sz10]
        exact ⟨rfl, (it_rng [] G8 0 5).len, ⟨r8, _, rfl⟩, fun i E' G' q => (it_rng [] G' 0 5).at' G' i Fr.refl⟩
      · rintro m w E G9 hw ⟨r9, x7, rfl⟩
        obtain ⟨hm5, rfl⟩ := rnW_inv hw
        simp only [p2_c, p3_c, pT2_c, pT3_c, t_asg, t_expr, t_ret, t_if, t_nx, t_par, t_par3, g_set, g_tup2, g_tup3, g_put, s_bin, s_def, s_defK, s_call, s_cons, v_nil, s_var, v_c, s_lst, s_tup, s_test, s_tru, s_notT, s_andT, s_orT, s_and, s_or, s_not, s_if, s_neg, s_meth, s_cut, v_nopart, s_part, s_chain, s_seq, s_rng1, s_rng2, s_enum, s_zipL, s_tupR1, s_tupR2, s_yes, List.getElem?_cons_zero, List.getElem?_cons_succ, Option.some.injEq, exists_eq_left', v_ok, e_add, e_sub, e_int, e_min, e_max, e_maxU, e_lenT, e_tupT, e_lt, e_le, e_gt, e_ge, i_tup, e_cutT, List.set_cons_succ, List.set_cons_zero, List.length_cons, List.length_nil, Nat.reduceAdd, W.int.injEq, W.bl.injEq, W.ref.injEq, W.tup.injEq, W.str.injEq, reduceCtorEq, false_and, and_false, exists_false, or_false, false_or, true_and, and_true, exists_const, exists_eq_left, sz0, sz1, sz2, sz3, sz4, sz5, sz6, sz7, sz8, sz9, sz10]
        refine (spoilt_ok P r9 hl hm).mono fun w Ga q => ?_
        obtain ⟨gw, ra, fa⟩ := q
        simp only [eqOp_int, s_bin, s_def, s_defK, s_call, s_cons, v_nil, s_var, v_c, s_lst, s_tup, s_test, s_tru, s_notT, s_andT, s_orT, s_and, s_or, s_not, s_if, s_neg, s_meth, s_cut, v_nopart, s_part, s_chain, s_seq, s_rng1, s_rng2, s_enum, s_zipL, s_tupR1, s_tupR2, s_yes, List.getElem?_cons_zero, List.getElem?_cons_succ, Option.some.injEq, exists_eq_left', v_ok, e_add, e_sub, e_int, e_min, e_max, e_maxU, e_lenT, e_tupT, e_lt, e_le, e_gt, e_ge, i_tup, e_cutT, List.set_cons_succ, List.set_cons_zero, List.length_cons, List.length_nil, Nat.reduceAdd, W.int.injEq, W.bl.injEq, W.ref.injEq, W.tup.injEq, W.str.injEq, reduceCtorEq, false_and, and_false, exists_false, or_false, false_or, true_and, and_true, exists_const, exists_eq_left, sz0, sz1, sz2, sz3, sz4, sz5, sz6, sz7, sz8, sz9, sz10]
        refine (told_ok v.2 P gw).mono fun w Gb q => ?_
        obtain ⟨rfl, fb⟩ := q
        refine ⟨true, rfl, ?_⟩
        rw [if_neg (by decide)]
        exact ⟨ra.keep fb, _, rfl⟩
      · rintro E G9 ⟨r9, x7, rfl⟩
        exact ⟨r9, _, _, _, rfl⟩
    · rintro E G6 ⟨r6, x5, x6, x7, rfl⟩
      exact ⟨r6, _, _, _, _, _, _, rfl⟩
  · rintro E G3 ⟨r3, x2, x3, x4, x5, x6, x7, rfl⟩
    simp only [p2_c, p3_c, pT2_c, pT3_c, t_asg, t_expr, t_ret, t_if, t_nx, t_par, t_par3, g_set, g_tup2, g_tup3, g_put, s_bin, s_def, s_defK, s_call, s_cons, v_nil, s_var, v_c, s_lst, s_tup, s_test, s_tru, s_notT, s_andT, s_orT, s_and, s_or, s_not, s_if, s_neg, s_meth, s_cut, v_nopart, s_part, s_chain, s_seq, s_rng1, s_rng2, s_enum, s_zipL, s_tupR1, s_tupR2, s_yes, List.getElem?_cons_zero, List.getElem?_cons_succ, Option.some.injEq, exists_eq_left', v_ok, e_add, e_sub, e_int, e_min, e_max, e_maxU, e_lenT, e_tupT, e_lt, e_le, e_gt, e_ge, i_tup, e_cutT, List.set_cons_succ, List.set_cons_zero, List.length_cons, List.length_nil, Nat.reduceAdd, W.int.injEq, W.bl.injEq, W.ref.injEq, W.tup.injEq, W.str.injEq, reduceCtorEq, false_and, and_false, exists_false, or_false, false_or, true_and, and_true, exists_const, exists_eq_left, sz0, sz1, sz2, sz3, sz4, sz5, sz6, sz7, sz8, sz9, sz10]
end NS
/- part K20o -/
set_option maxHeartbeats 4000000
namespace NS
open PySem PySem.Spec PyProof.Rows L2 PL
structure Txt (K : Fg) (mg : Str → Option Value) : Prop where
  z_bool : mg "bool" = none
  z_enumerate : mg "enumerate" = none
  z_int : mg "int" = none
  z_isinstance : mg "isinstance" = none
  z_len : mg "len" = none
  z_list : mg "list" = none
  z_max : mg "max" = none
  z_min : mg "min" = none
  z_range : mg "range" = none
  z_repr : mg "repr" = none
  z_sorted : mg "sorted" = none
  z_sum : mg "sum" = none
  z_tuple : mg "tuple" = none
  z_zip : mg "zip" = none
  f_is_integer : ∃ a fd, mg "is_integer" = some (.ref a) ∧ Fun K "is_integer" "is_integer" (topS 1) a fd
  f_jumps_of : ∃ a fd, mg "jumps_of" = some (.ref a) ∧ Fun K "jumps_of" "jumps_of" (topS 3) a fd
  f_own_bytes : ∃ a fd, mg "own_bytes" = some (.ref a) ∧ Fun K "own_bytes" "own_bytes" (topS 8) a fd
  f_laid : ∃ a fd, mg "laid" = some (.ref a) ∧ Fun K "laid" "laid" (topS 5) a fd
  f__way : ∃ a fd, mg "_way" = some (.ref a) ∧ Fun K "_way" "_way" (topS 9) a fd
  f_stuck : ∃ a fd, mg "stuck" = some (.ref a) ∧ Fun K "stuck" "stuck" (topS 7) a fd
  f_serves : ∃ a fd, mg "serves" = some (.ref a) ∧ Fun K "serves" "serves" (topS 6) a fd
  f__longer : ∃ a fd, mg "_longer" = some (.ref a) ∧ Fun K "_longer" "_longer" (topS 14) a fd
  f__shorter : ∃ a fd, mg "_shorter" = some (.ref a) ∧ Fun K "_shorter" "_shorter" (topS 17) a fd
  f_is_row : ∃ a fd, mg "is_row" = some (.ref a) ∧ Fun K "is_row" "is_row" (topS 11) a fd
  f_row_holds : ∃ a fd, mg "row_holds" = some (.ref a) ∧ Fun K "row_holds" "row_holds" (topS 13) a fd
  f_shrink_holds : ∃ a fd, mg "shrink_holds" = some (.ref a) ∧ Fun K "shrink_holds" "shrink_holds" (topS 16) a fd
  f__law_stock : ∃ a fd, mg "_law_stock" = some (.ref a) ∧ Fun K "_law_stock" "_law_stock" (topS 19) a fd
  f__law_draw : ∃ a fd, mg "_law_draw" = some (.ref a) ∧ Fun K "_law_draw" "_law_draw" (topS 20) a fd
  f__law_pick : ∃ a fd, mg "_law_pick" = some (.ref a) ∧ Fun K "_law_pick" "_law_pick" (topS 21) a fd
  f__law_words : ∃ a fd, mg "_law_words" = some (.ref a) ∧ Fun K "_law_words" "_law_words" (topS 22) a fd
  f__law_skeleton : ∃ a fd, mg "_law_skeleton" = some (.ref a) ∧ Fun K "_law_skeleton" "_law_skeleton" (topS 23) a fd
  f__law_jumps : ∃ a fd, mg "_law_jumps" = some (.ref a) ∧ Fun K "_law_jumps" "_law_jumps" (topS 24) a fd
  f__law_laying : ∃ a fd, mg "_law_laying" = some (.ref a) ∧ Fun K "_law_laying" "_law_laying" (topS 25) a fd
  f__law_way : ∃ a fd, mg "_law_way" = some (.ref a) ∧ Fun K "_law_way" "_law_way" (topS 26) a fd
  f__law_lengths : ∃ a fd, mg "_law_lengths" = some (.ref a) ∧ Fun K "_law_lengths" "_law_lengths" (topS 27) a fd
  f__law_some : ∃ a fd, mg "_law_some" = some (.ref a) ∧ Fun K "_law_some" "_law_some" (topS 28) a fd
  f__law_program : ∃ a fd, mg "_law_program" = some (.ref a) ∧ Fun K "_law_program" "_law_program" (topS 29) a fd
  f__law_held : ∃ a fd, mg "_law_held" = some (.ref a) ∧ Fun K "_law_held" "_law_held" (topS 30) a fd
  f__law_leaves : ∃ a fd, mg "_law_leaves" = some (.ref a) ∧ Fun K "_law_leaves" "_law_leaves" (topS 31) a fd
  f__law_are_jumps : ∃ a fd, mg "_law_are_jumps" = some (.ref a) ∧ Fun K "_law_are_jumps" "_law_are_jumps" (topS 32) a fd
  f__law_is_growing : ∃ a fd, mg "_law_is_growing" = some (.ref a) ∧ Fun K "_law_is_growing" "_law_is_growing" (topS 33) a fd
  f__law_is_shrinking : ∃ a fd, mg "_law_is_shrinking" = some (.ref a) ∧ Fun K "_law_is_shrinking" "_law_is_shrinking" (topS 34) a fd
  f__law_row : ∃ a fd, mg "_law_row" = some (.ref a) ∧ Fun K "_law_row" "_law_row" (topS 35) a fd
  f__law_spoilt : ∃ a fd, mg "_law_spoilt" = some (.ref a) ∧ Fun K "_law_spoilt" "_law_spoilt" (topS 36) a fd
  f__law_is_told : ∃ a fd, mg "_law_is_told" = some (.ref a) ∧ Fun K "_law_is_told" "_law_is_told" (topS 37) a fd
  f_law : ∃ a fd, mg "law" = some (.ref a) ∧ Fun K "law" "law" (topS 38) a fd
section
variable {P : Program} {w : World} {K : Fg} {mg : Str → Option Value} {base : Heap}
theorem scis_integer : FnScope ["value"] ["value"] (defScope (topS 1)) := ⟨rfl, rfl, rfl, by decide +kernel, rfl, by decide +kernel, by decide +kernel⟩
theorem okis_integer (T : Txt K mg) (S : SysD base) : OkF P w K mg base "is_integer" (topS 1) ["value"] 1 Mis_integer := by
  obtain ⟨a, fd, hm, F⟩ := T.f_is_integer
  have q : ∀ (cdv : Value) (A : Around) (outer : List Env) (s : Shared) (H : Hp) (E : XK), GC (cxOf (L2.CX P w) P w K mg base ["value"] "is_integer" (defScope (topS 1)) a cdv A outer s H E) (wishOf mg K E) 0 → HB (cxOf (L2.CX P w) P w K mg base ["value"] "is_integer" (defScope (topS 1)) a cdv A outer s H E) (wishOf mg K E) (defBody (topS 1)) Bis_integer := by
    intro cdv A outer s H E c
    exact hb_one (hs_ret (he_and (he_callB cg_isi rfl T.z_isinstance (by decide +kernel) (ha_cons (he_var (i := 0) rfl (Or.inl rfl)) (ha_cons (he_type rfl T.z_int (by decide +kernel)) (ha_nil)))) (he_one (he_not (he_callB cg_isi rfl T.z_isinstance (by decide +kernel) (ha_cons (he_var (i := 0) rfl (Or.inl rfl)) (ha_cons (he_type rfl T.z_bool (by decide +kernel)) (ha_nil))))))))
  have q2 := fnG_fun (b := Bis_integer) F scis_integer S q
  have q3 := F.binds (ps := ["value"]) (fun _ _ _ _ _ _ us hl => match us, hl with | [_], _ => rfl)
  exact ⟨a, fd, F, hm, F.kp, q3, q2⟩

theorem scjumps_of : FnScope ["skeleton", "place", "item"] ["skeleton"] (defScope (topS 3)) := ⟨rfl, rfl, rfl, by decide +kernel, rfl, by decide +kernel, by decide +kernel⟩
theorem okjumps_of (T : Txt K mg) (S : SysD base) : OkF P w K mg base "jumps_of" (topS 3) ["skeleton"] 1 Mjumps_of := by
  obtain ⟨a, fd, hm, F⟩ := T.f_jumps_of
  have q : ∀ (cdv : Value) (A : Around) (outer : List Env) (s : Shared) (H : Hp) (E : XK), GC (cxOf (L2.CX P w) P w K mg base ["skeleton", "place", "item"] "jumps_of" (defScope (topS 3)) a cdv A outer s H E) (wishOf mg K E) 0 → HB (cxOf (L2.CX P w) P w K mg base ["skeleton", "place", "item"] "jumps_of" (defScope (topS 3)) a cdv A outer s H E) (wishOf mg K E) (defBody (topS 3)) Bjumps_of := by
    intro cdv A outer s H E c
    exact hb_one (hs_ret (he_callTy cg_tuple rfl T.z_tuple (by decide +kernel) (ha_cons (he_I (mLcI_eq _ _ _ _ _) (he_lc (own := [("place", 1), ("item", 2)]) c (hi_enum rfl T.z_enumerate (ha_cons (he_var (i := 0) rfl (Or.inl rfl)) (ha_nil))) (by kernel_rfl) (fun s1 H1 C1 cl1 fp1 => hg_tup (sl := [1, 2]) (GC.blk c s1 H1 _ _ fp1).calm (hgs_cons (GC.blk c s1 H1 _ _ fp1).nd rfl (Or.inl rfl) (by decide) (hgs_cons (GC.blk c s1 H1 _ _ fp1).nd rfl (Or.inl rfl) (by decide) (hgs_nil)))) (fun s1 H1 C1 cl1 fp1 => hts_one (ht_cmp (og_eq (GC.blk c s1 H1 _ _ fp1)) (he_ix (GC.blk c s1 H1 _ _ fp1).hu (he_var (i := 2) rfl (Or.inl rfl)) (he_int) (fun _ _ => rfl)) (he_str) (nomark _))) (fun s1 H1 C1 cl1 fp1 => he_var (i := 1) rfl (Or.inl rfl)))) (ha_nil))))
  have q2 := fnG_fun (b := Bjumps_of) F scjumps_of S q
  have q3 := F.binds (ps := ["skeleton"]) (fun _ _ _ _ _ _ us hl => match us, hl with | [_], _ => rfl)
  exact ⟨a, fd, F, hm, F.kp, q3, q2⟩

theorem scown_bytes : FnScope ["item", "begin", "is_long"] ["item", "begin", "is_long"] (defScope (topS 8)) := ⟨rfl, rfl, rfl, by decide +kernel, rfl, by decide +kernel, by decide +kernel⟩
theorem okown_bytes (T : Txt K mg) (S : SysD base) : OkF P w K mg base "own_bytes" (topS 8) ["item", "begin", "is_long"] 1 Mown_bytes := by
  obtain ⟨a, fd, hm, F⟩ := T.f_own_bytes
  have q : ∀ (cdv : Value) (A : Around) (outer : List Env) (s : Shared) (H : Hp) (E : XK), GC (cxOf (L2.CX P w) P w K mg base ["item", "begin", "is_long"] "own_bytes" (defScope (topS 8)) a cdv A outer s H E) (wishOf mg K E) 0 → HB (cxOf (L2.CX P w) P w K mg base ["item", "begin", "is_long"] "own_bytes" (defScope (topS 8)) a cdv A outer s H E) (wishOf mg K E) (defBody (topS 8)) Bown_bytes := by
    intro cdv A outer s H E c
    exact hb_cons (hs_if (ht_cmp (og_eq c) (he_ix c.hu (he_var (i := 0) rfl (Or.inl rfl)) (he_int) (fun _ _ => rfl)) (he_str) (nomark _)) (hb_one (hs_ret (he_int))) (hb_nil)) (hb_cons (hs_if (ht_cmp (og_eq c) (he_ix c.hu (he_var (i := 0) rfl (Or.inl rfl)) (he_int) (fun _ _ => rfl)) (he_str) (nomark _)) (hb_one (hs_ret (he_op og_mod (he_neg (he_var (i := 1) rfl (Or.inl rfl))) (he_ix c.hu (he_var (i := 0) rfl (Or.inl rfl)) (he_int) (fun _ _ => rfl))))) (hb_nil)) (hb_one (hs_ret (he_if (ht_truth (he_var (i := 2) rfl (Or.inl rfl))) (he_ix c.hu (he_var (i := 0) rfl (Or.inl rfl)) (he_int) (fun _ _ => rfl)) (he_ix c.hu (he_var (i := 0) rfl (Or.inl rfl)) (he_int) (fun _ _ => rfl))))))
  have q2 := fnG_fun (b := Bown_bytes) F scown_bytes S q
  have q3 := F.binds (ps := ["item", "begin", "is_long"]) (fun _ _ _ _ _ _ us hl => match us, hl with | [_, _, _], _ => rfl)
  exact ⟨a, fd, F, hm, F.kp, q3, q2⟩

theorem sclaid : FnScope ["skeleton", "lengths", "choice", "spots", "end", "place", "item", "begin"] ["skeleton", "lengths", "choice"] (defScope (topS 5)) := ⟨rfl, rfl, rfl, by decide +kernel, rfl, by decide +kernel, by decide +kernel⟩
theorem oklaid (T : Txt K mg) (S : SysD base) : OkF P w K mg base "laid" (topS 5) ["skeleton", "lengths", "choice"] 2 Mlaid := by
  obtain ⟨a0, fd0, F0, g0, k0, b0, h0⟩ := okown_bytes (P := P) (w := w) (base := base) T S
  obtain ⟨a, fd, hm, F⟩ := T.f_laid
  have q : ∀ (cdv : Value) (A : Around) (outer : List Env) (s : Shared) (H : Hp) (E : XK), GC (cxOf (L2.CX P w) P w K mg base ["skeleton", "lengths", "choice", "spots", "end", "place", "item", "begin"] "laid" (defScope (topS 5)) a cdv A outer s H E) (wishOf mg K E) 1 → HB (cxOf (L2.CX P w) P w K mg base ["skeleton", "lengths", "choice", "spots", "end", "place", "item", "begin"] "laid" (defScope (topS 5)) a cdv A outer s H E) (wishOf mg K E) (defBody (topS 5)) Blaid := by
    intro cdv A outer s H E c
    exact hb_cons (hs_set (i := 3) c.nd rfl (Or.inl rfl) (he_lst (ha_nil))) (hb_cons (hs_set (i := 4) c.nd rfl (Or.inl rfl) (he_int)) (hb_cons (hs_I (sForI_eq _ _ _) (hs_for c.po c.calm (hi_enum rfl T.z_enumerate (ha_cons (he_var (i := 0) rfl (Or.inl rfl)) (ha_nil))) (hg_tup (sl := [5, 6]) c.calm (hgs_cons c.nd rfl (Or.inl rfl) (by decide) (hgs_cons c.nd rfl (Or.inl rfl) (by decide) (hgs_nil)))) (hb_cons (hs_set (i := 7) c.nd rfl (Or.inl rfl) (he_op og_add (he_var (i := 4) rfl (Or.inl rfl)) (he_ix c.hu (he_var (i := 1) rfl (Or.inl rfl)) (he_var (i := 5) rfl (Or.inl rfl)) (fun _ _ => rfl)))) (hb_cons (hs_set (i := 4) c.nd rfl (Or.inl rfl) (he_op og_add (he_var (i := 7) rfl (Or.inl rfl)) (he_call (h0.mono (by decide)) c rfl g0 k0 b0 (ha_cons (he_var (i := 6) rfl (Or.inl rfl)) (ha_cons (he_var (i := 7) rfl (Or.inl rfl)) (ha_cons (he_cmp (og_in c) (he_var (i := 5) rfl (Or.inl rfl)) (he_var (i := 2) rfl (Or.inl rfl)) (by rfl)) (ha_nil))))))) (hb_one (hs_expr (he_meth PySem.F.plainAttrs_list PySem.F.slot_list_append PySem.F.type_list_append mg_append (he_var (i := 3) rfl (Or.inl rfl)) (ha_cons (he_tup (ha_cons (he_var (i := 7) rfl (Or.inl rfl)) (ha_cons (he_var (i := 4) rfl (Or.inl rfl)) (ha_nil)))) (ha_nil))))))))) (hb_one (hs_ret (he_callTy cg_tuple rfl T.z_tuple (by decide +kernel) (ha_cons (he_var (i := 3) rfl (Or.inl rfl)) (ha_nil)))))))
  have q2 := fnG_fun (b := Blaid) F sclaid S q
  have q3 := F.binds (ps := ["skeleton", "lengths", "choice"]) (fun _ _ _ _ _ _ us hl => match us, hl with | [_, _, _], _ => rfl)
  exact ⟨a, fd, F, hm, F.kp, q3, q2⟩

theorem sc_way : FnScope ["skeleton", "spots", "jump", "goal"] ["skeleton", "spots", "jump"] (defScope (topS 9)) := ⟨rfl, rfl, rfl, by decide +kernel, rfl, by decide +kernel, by decide +kernel⟩
theorem ok_way (T : Txt K mg) (S : SysD base) : OkF P w K mg base "_way" (topS 9) ["skeleton", "spots", "jump"] 1 M_way := by
  obtain ⟨a, fd, hm, F⟩ := T.f__way
  have q : ∀ (cdv : Value) (A : Around) (outer : List Env) (s : Shared) (H : Hp) (E : XK), GC (cxOf (L2.CX P w) P w K mg base ["skeleton", "spots", "jump", "goal"] "_way" (defScope (topS 9)) a cdv A outer s H E) (wishOf mg K E) 0 → HB (cxOf (L2.CX P w) P w K mg base ["skeleton", "spots", "jump", "goal"] "_way" (defScope (topS 9)) a cdv A outer s H E) (wishOf mg K E) (defBody (topS 9)) B_way := by
    intro cdv A outer s H E c
    exact hb_cons (hs_set (i := 3) c.nd rfl (Or.inl rfl) (he_ix c.hu (he_ix c.hu (he_var (i := 0) rfl (Or.inl rfl)) (he_var (i := 2) rfl (Or.inl rfl)) (fun _ _ => rfl)) (he_int) (fun _ _ => rfl))) (hb_cons (hs_if (ht_cmp og_gt (he_var (i := 3) rfl (Or.inl rfl)) (he_var (i := 2) rfl (Or.inl rfl)) (nomark _)) (hb_one (hs_ret (he_op og_sub (he_ix c.hu (he_ix c.hu (he_var (i := 1) rfl (Or.inl rfl)) (he_var (i := 3) rfl (Or.inl rfl)) (fun _ _ => rfl)) (he_int) (fun _ _ => rfl)) (he_ix c.hu (he_ix c.hu (he_var (i := 1) rfl (Or.inl rfl)) (he_var (i := 2) rfl (Or.inl rfl)) (fun _ _ => rfl)) (he_int) (fun _ _ => rfl))))) (hb_nil)) (hb_one (hs_ret (he_op og_sub (he_ix c.hu (he_ix c.hu (he_var (i := 1) rfl (Or.inl rfl)) (he_var (i := 2) rfl (Or.inl rfl)) (fun _ _ => rfl)) (he_int) (fun _ _ => rfl)) (he_ix c.hu (he_ix c.hu (he_var (i := 1) rfl (Or.inl rfl)) (he_var (i := 3) rfl (Or.inl rfl)) (fun _ _ => rfl)) (he_int) (fun _ _ => rfl))))))
  have q2 := fnG_fun (b := B_way) F sc_way S q
  have q3 := F.binds (ps := ["skeleton", "spots", "jump"]) (fun _ _ _ _ _ _ us hl => match us, hl with | [_, _, _], _ => rfl)
  exact ⟨a, fd, F, hm, F.kp, q3, q2⟩

theorem scstuck : FnScope ["program", "choice", "skeleton", "lengths", "reaches", "spots", "found", "jump", "reach"] ["program", "choice"] (defScope (topS 7)) := ⟨rfl, rfl, rfl, by decide +kernel, rfl, by decide +kernel, by decide +kernel⟩
theorem okstuck (T : Txt K mg) (S : SysD base) : OkF P w K mg base "stuck" (topS 7) ["program", "choice"] 3 Mstuck := by
  obtain ⟨a0, fd0, F0, g0, k0, b0, h0⟩ := oklaid (P := P) (w := w) (base := base) T S
  obtain ⟨a1, fd1, F1, g1, k1, b1, h1⟩ := okjumps_of (P := P) (w := w) (base := base) T S
  obtain ⟨a2, fd2, F2, g2, k2, b2, h2⟩ := ok_way (P := P) (w := w) (base := base) T S
  obtain ⟨a, fd, hm, F⟩ := T.f_stuck
  have q : ∀ (cdv : Value) (A : Around) (outer : List Env) (s : Shared) (H : Hp) (E : XK), GC (cxOf (L2.CX P w) P w K mg base ["program", "choice", "skeleton", "lengths", "reaches", "spots", "found", "jump", "reach"] "stuck" (defScope (topS 7)) a cdv A outer s H E) (wishOf mg K E) 2 → HB (cxOf (L2.CX P w) P w K mg base ["program", "choice", "skeleton", "lengths", "reaches", "spots", "found", "jump", "reach"] "stuck" (defScope (topS 7)) a cdv A outer s H E) (wishOf mg K E) (defBody (topS 7)) Bstuck := by
    intro cdv A outer s H E c
    exact hb_cons (hs_asg (he_var (i := 0) rfl (Or.inl rfl)) (hg_tup (sl := [2, 3, 4]) c.calm (hgs_cons c.nd rfl (Or.inl rfl) (by decide) (hgs_cons c.nd rfl (Or.inl rfl) (by decide) (hgs_cons c.nd rfl (Or.inl rfl) (by decide) (hgs_nil)))))) (hb_cons (hs_set (i := 5) c.nd rfl (Or.inl rfl) (he_call (h0.mono (by decide)) c rfl g0 k0 b0 (ha_cons (he_var (i := 2) rfl (Or.inl rfl)) (ha_cons (he_var (i := 3) rfl (Or.inl rfl)) (ha_cons (he_var (i := 1) rfl (Or.inl rfl)) (ha_nil)))))) (hb_cons (hs_set (i := 6) c.nd rfl (Or.inl rfl) (he_lst (ha_nil))) (hb_cons (hs_I (sForI_eq _ _ _) (hs_for c.po c.calm (hi_zip rfl T.z_zip (ha_cons (he_call (h1.mono (by decide)) c rfl g1 k1 b1 (ha_cons (he_var (i := 2) rfl (Or.inl rfl)) (ha_nil))) (ha_cons (he_var (i := 4) rfl (Or.inl rfl)) (ha_nil)))) (hg_tup (sl := [7, 8]) c.calm (hgs_cons c.nd rfl (Or.inl rfl) (by decide) (hgs_cons c.nd rfl (Or.inl rfl) (by decide) (hgs_nil)))) (hb_one (hs_if (HW.ht (hw_and (ht_cmp (og_notin c) (he_var (i := 7) rfl (Or.inl rfl)) (he_var (i := 1) rfl (Or.inl rfl)) (by rfl)) (hw_and1 (ht_cmp og_gt (he_call (h2.mono (by decide)) c rfl g2 k2 b2 (ha_cons (he_var (i := 2) rfl (Or.inl rfl)) (ha_cons (he_var (i := 5) rfl (Or.inl rfl)) (ha_cons (he_var (i := 7) rfl (Or.inl rfl)) (ha_nil))))) (he_var (i := 8) rfl (Or.inl rfl)) (nomark _))))) (hb_one (hs_expr (he_meth PySem.F.plainAttrs_list PySem.F.slot_list_append PySem.F.type_list_append mg_append (he_var (i := 6) rfl (Or.inl rfl)) (ha_cons (he_var (i := 7) rfl (Or.inl rfl)) (ha_nil))))) (hb_nil))))) (hb_one (hs_ret (he_callTy cg_tuple rfl T.z_tuple (by decide +kernel) (ha_cons (he_var (i := 6) rfl (Or.inl rfl)) (ha_nil))))))))
  have q2 := fnG_fun (b := Bstuck) F scstuck S q
  have q3 := F.binds (ps := ["program", "choice"]) (fun _ _ _ _ _ _ us hl => match us, hl with | [_, _], _ => rfl)
  exact ⟨a, fd, F, hm, F.kp, q3, q2⟩

theorem scserves : FnScope ["program", "choice"] ["program", "choice"] (defScope (topS 6)) := ⟨rfl, rfl, rfl, by decide +kernel, rfl, by decide +kernel, by decide +kernel⟩
theorem okserves (T : Txt K mg) (S : SysD base) : OkF P w K mg base "serves" (topS 6) ["program", "choice"] 4 Mserves := by
  obtain ⟨a0, fd0, F0, g0, k0, b0, h0⟩ := okstuck (P := P) (w := w) (base := base) T S
  obtain ⟨a, fd, hm, F⟩ := T.f_serves
  have q : ∀ (cdv : Value) (A : Around) (outer : List Env) (s : Shared) (H : Hp) (E : XK), GC (cxOf (L2.CX P w) P w K mg base ["program", "choice"] "serves" (defScope (topS 6)) a cdv A outer s H E) (wishOf mg K E) 3 → HB (cxOf (L2.CX P w) P w K mg base ["program", "choice"] "serves" (defScope (topS 6)) a cdv A outer s H E) (wishOf mg K E) (defBody (topS 6)) Bserves := by
    intro cdv A outer s H E c
    exact hb_one (hs_ret (he_cmp (og_eq c) (he_callB cg_len rfl T.z_len (by decide +kernel) (ha_cons (he_call (h0.mono (by decide)) c rfl g0 k0 b0 (ha_cons (he_var (i := 0) rfl (Or.inl rfl)) (ha_cons (he_var (i := 1) rfl (Or.inl rfl)) (ha_nil)))) (ha_nil))) (he_int) (nomark _)))
  have q2 := fnG_fun (b := Bserves) F scserves S q
  have q3 := F.binds (ps := ["program", "choice"]) (fun _ _ _ _ _ _ us hl => match us, hl with | [_, _], _ => rfl)
  exact ⟨a, fd, F, hm, F.kp, q3, q2⟩

theorem sc_longer : FnScope ["program", "choice", "jump"] ["program", "choice"] (defScope (topS 14)) := ⟨rfl, rfl, rfl, by decide +kernel, rfl, by decide +kernel, by decide +kernel⟩
theorem ok_longer (T : Txt K mg) (S : SysD base) : OkF P w K mg base "_longer" (topS 14) ["program", "choice"] 4 M_longer := by
  obtain ⟨a0, fd0, F0, g0, k0, b0, h0⟩ := okstuck (P := P) (w := w) (base := base) T S
  obtain ⟨a, fd, hm, F⟩ := T.f__longer
  have q : ∀ (cdv : Value) (A : Around) (outer : List Env) (s : Shared) (H : Hp) (E : XK), GC (cxOf (L2.CX P w) P w K mg base ["program", "choice", "jump"] "_longer" (defScope (topS 14)) a cdv A outer s H E) (wishOf mg K E) 3 → HB (cxOf (L2.CX P w) P w K mg base ["program", "choice", "jump"] "_longer" (defScope (topS 14)) a cdv A outer s H E) (wishOf mg K E) (defBody (topS 14)) B_longer := by
    intro cdv A outer s H E c
    exact hb_one (hs_ret (he_dc (own := [("jump", 2)]) c (hi_seq (he_call (h0.mono (by decide)) c rfl g0 k0 b0 (ha_cons (he_var (i := 0) rfl (Or.inl rfl)) (ha_cons (he_var (i := 1) rfl (Or.inr (Or.inl rfl))) (ha_nil))))) (by kernel_rfl) (fun s1 H1 C1 cl1 fp1 => hg_name (GC.blk c s1 H1 _ _ fp1).nd rfl (Or.inl rfl)) (fun s1 H1 C1 cl1 fp1 => hts_nil) (fun s1 H1 C1 cl1 fp1 => he_var (i := 2) rfl (Or.inl rfl)) (fun s1 H1 C1 cl1 fp1 => he_callTy cg_tuple rfl T.z_tuple (by decide +kernel) (ha_cons (he_callB cg_sortedT rfl T.z_sorted (by decide +kernel) (ha_cons (he_op og_add (he_var (i := 1) rfl (Or.inr (Or.inl rfl))) (he_tup (ha_cons (he_var (i := 2) rfl (Or.inl rfl)) (ha_nil)))) (ha_nil))) (ha_nil)))))
  have q2 := fnG_fun (b := B_longer) F sc_longer S q
  have q3 := F.binds (ps := ["program", "choice"]) (fun _ _ _ _ _ _ us hl => match us, hl with | [_, _], _ => rfl)
  exact ⟨a, fd, F, hm, F.kp, q3, q2⟩

theorem sc_shorter : FnScope ["program", "choice", "without", "jump", "other", "left"] ["program", "choice"] (defScope (topS 17)) := ⟨rfl, rfl, rfl, by decide +kernel, rfl, by decide +kernel, by decide +kernel⟩
theorem ok_shorter (T : Txt K mg) (S : SysD base) : OkF P w K mg base "_shorter" (topS 17) ["program", "choice"] 5 M_shorter := by
  obtain ⟨a0, fd0, F0, g0, k0, b0, h0⟩ := okserves (P := P) (w := w) (base := base) T S
  obtain ⟨a, fd, hm, F⟩ := T.f__shorter
  have q : ∀ (cdv : Value) (A : Around) (outer : List Env) (s : Shared) (H : Hp) (E : XK), GC (cxOf (L2.CX P w) P w K mg base ["program", "choice", "without", "jump", "other", "left"] "_shorter" (defScope (topS 17)) a cdv A outer s H E) (wishOf mg K E) 4 → HB (cxOf (L2.CX P w) P w K mg base ["program", "choice", "without", "jump", "other", "left"] "_shorter" (defScope (topS 17)) a cdv A outer s H E) (wishOf mg K E) (defBody (topS 17)) B_shorter := by
    intro cdv A outer s H E c
    exact hb_cons (hs_setDc (i := 2) (own := [("jump", 3)]) c rfl rfl (sw_trueD rfl rfl rfl (by decide +kernel)) (hi_seq (he_var (i := 1) rfl (Or.inr (Or.inl rfl)))) (by kernel_rfl) (fun s1 H1 C1 cl1 fp1 => hg_name (GC.blk c s1 H1 _ _ fp1).nd rfl (Or.inr rfl)) (fun s1 H1 C1 cl1 fp1 => hts_nil) (fun s1 H1 C1 cl1 fp1 => he_var (i := 3) rfl (Or.inr (Or.inl rfl))) (fun s1 H1 C1 cl1 fp1 => he_callTy cg_tuple rfl T.z_tuple (by decide +kernel) (ha_cons (he_I (mLcI_eq _ _ _ _ _) (he_lc (own := [("other", 4)]) (GC.blk c s1 H1 _ _ fp1) (hi_seq (he_var (i := 1) rfl (Or.inr (Or.inl rfl)))) (by kernel_rfl) (fun s2 H2 C2 cl2 fp2 => hg_name (GC.blk (GC.blk c s1 H1 _ _ fp1) s2 H2 _ _ fp2).nd rfl (Or.inl rfl)) (fun s2 H2 C2 cl2 fp2 => hts_one (ht_cmp (og_ne (GC.blk (GC.blk c s1 H1 _ _ fp1) s2 H2 _ _ fp2)) (he_var (i := 4) rfl (Or.inl rfl)) (he_var (i := 3) rfl (Or.inr (Or.inl rfl))) (nomark _))) (fun s2 H2 C2 cl2 fp2 => he_var (i := 4) rfl (Or.inl rfl)))) (ha_nil)))) (hb_one (hs_ret (he_dcD (own := [("jump", 3), ("left", 5)]) c (hid_items (i := 2) rfl (Or.inl rfl)) (by kernel_rfl) (fun s3 H3 C3 cl3 fp3 => hg_tup (sl := [3, 5]) (GC.blk c s3 H3 _ _ fp3).calm (hgs_cons (GC.blk c s3 H3 _ _ fp3).nd rfl (Or.inl rfl) (by decide) (hgs_cons (GC.blk c s3 H3 _ _ fp3).nd rfl (Or.inl rfl) (by decide) (hgs_nil)))) (fun s3 H3 C3 cl3 fp3 => hts_one (ht_truth (he_call (h0.mono (by decide)) (GC.blk c s3 H3 _ _ fp3) rfl g0 k0 b0 (ha_cons (he_var (i := 0) rfl (Or.inr (Or.inl rfl))) (ha_cons (he_var (i := 5) rfl (Or.inl rfl)) (ha_nil)))))) (fun s3 H3 C3 cl3 fp3 => he_var (i := 3) rfl (Or.inl rfl)) (fun s3 H3 C3 cl3 fp3 => he_var (i := 5) rfl (Or.inl rfl)))))
  have q2 := fnG_fun (b := B_shorter) F sc_shorter S q
  have q3 := F.binds (ps := ["program", "choice"]) (fun _ _ _ _ _ _ us hl => match us, hl with | [_, _], _ => rfl)
  exact ⟨a, fd, F, hm, F.kp, q3, q2⟩

theorem scis_row : FnScope ["program", "value", "begin", "moves", "further", "item"] ["program", "value", "begin", "moves"] (defScope (topS 11)) := ⟨rfl, rfl, rfl, by decide +kernel, rfl, by decide +kernel, by decide +kernel⟩
theorem okis_row {v : Nat → Addr} (T : Txt K mg) (S : SysD base) (hV0 : mg "_longer" = some (.ref (v 0))) (hV1 : mg "_shorter" = some (.ref (v 1))) : OkF P w K mg base "is_row" (topS 11) ["program", "value", "begin", "moves"] 6 (Mis_row v) := by
  obtain ⟨a0, fd0, F0, g0, k0, b0, h0⟩ := ok_longer (P := P) (w := w) (base := base) T S
  obtain ⟨a1, fd1, F1, g1, k1, b1, h1⟩ := ok_shorter (P := P) (w := w) (base := base) T S
  obtain ⟨a2, fd2, F2, g2, k2, b2, h2⟩ := okis_integer (P := P) (w := w) (base := base) T S
  have ev0 : a0 = v 0 := by
    have e := g0.symm.trans hV0
    injection e with e; injection e
  subst ev0
  have ev1 : a1 = v 1 := by
    have e := g1.symm.trans hV1
    injection e with e; injection e
  subst ev1
  obtain ⟨a, fd, hm, F⟩ := T.f_is_row
  have q : ∀ (cdv : Value) (A : Around) (outer : List Env) (s : Shared) (H : Hp) (E : XK), GC (cxOf (L2.CX P w) P w K mg base ["program", "value", "begin", "moves", "further", "item"] "is_row" (defScope (topS 11)) a cdv A outer s H E) (wishOf mg K E) 5 → HB (cxOf (L2.CX P w) P w K mg base ["program", "value", "begin", "moves", "further", "item"] "is_row" (defScope (topS 11)) a cdv A outer s H E) (wishOf mg K E) (defBody (topS 11)) (Bis_row v) := by
    intro cdv A outer s H E c
    exact hb_cons (hs_if (ht_not (ht_truth (he_callB cg_isi rfl T.z_isinstance (by decide +kernel) (ha_cons (he_var (i := 1) rfl (Or.inl rfl)) (ha_cons (he_type rfl T.z_tuple (by decide +kernel)) (ha_nil)))))) (hb_one (hs_ret (he_bl))) (hb_nil)) (hb_cons (hs_set (i := 4) c.nd rfl (Or.inl rfl) (he_callL2 (i := 3) (h0.mono (by decide)) (h1.mono (by decide)) c c rfl (Or.inl rfl) k0 k1 b0 b1 (ha_cons (he_var (i := 0) rfl (Or.inl rfl)) (ha_cons (he_var (i := 2) rfl (Or.inl rfl)) (ha_nil))))) (hb_cons (hs_I (sForI_eq _ _ _) (hs_for c.po c.calm (hi_seq (he_var (i := 1) rfl (Or.inl rfl))) (hg_name c.nd rfl (Or.inl rfl)) (hb_cons (hs_if (HW.ht (hw_or (ht_not (ht_truth (he_call (h2.mono (by decide)) c rfl g2 k2 b2 (ha_cons (he_var (i := 5) rfl (Or.inl rfl)) (ha_nil))))) (hw_or1 (ht_notinD c.hu (he_var (i := 5) rfl (Or.inl rfl)) (he_var (i := 4) rfl (Or.inl rfl)))))) (hb_one (hs_ret (he_bl))) (hb_nil)) (hb_one (hs_set (i := 4) c.nd rfl (Or.inl rfl) (he_callL2 (i := 3) (h0.mono (by decide)) (h1.mono (by decide)) c c rfl (Or.inl rfl) k0 k1 b0 b1 (ha_cons (he_var (i := 0) rfl (Or.inl rfl)) (ha_cons (he_ix c.hu (he_var (i := 4) rfl (Or.inl rfl)) (he_var (i := 5) rfl (Or.inl rfl)) (fun _ _ => rfl)) (ha_nil))))))))) (hb_one (hs_ret (he_cmp (og_eq c) (he_callB cg_len rfl T.z_len (by decide +kernel) (ha_cons (he_var (i := 4) rfl (Or.inl rfl)) (ha_nil))) (he_int) (nomark _))))))
  have q2 := fnG_fun (b := (Bis_row v)) F scis_row S q
  have q3 := F.binds (ps := ["program", "value", "begin", "moves"]) (fun _ _ _ _ _ _ us hl => match us, hl with | [_, _, _, _], _ => rfl)
  exact ⟨a, fd, F, hm, F.kp, q3, q2⟩

theorem scrow_holds : FnScope ["program", "value"] ["program", "value"] (defScope (topS 13)) := ⟨rfl, rfl, rfl, by decide +kernel, rfl, by decide +kernel, by decide +kernel⟩
theorem okrow_holds {v : Nat → Addr} (T : Txt K mg) (S : SysD base) (hV0 : mg "_longer" = some (.ref (v 0))) (hV1 : mg "_shorter" = some (.ref (v 1))) : OkF P w K mg base "row_holds" (topS 13) ["program", "value"] 7 (Mrow_holds v) := by
  obtain ⟨a0, fd0, F0, g0, k0, b0, h0⟩ := okis_row (P := P) (w := w) (base := base) T S hV0 hV1
  obtain ⟨a1, fd1, F1, g1, k1, b1, h1⟩ := ok_longer (P := P) (w := w) (base := base) T S
  obtain ⟨a, fd, hm, F⟩ := T.f_row_holds
  have q : ∀ (cdv : Value) (A : Around) (outer : List Env) (s : Shared) (H : Hp) (E : XK), GC (cxOf (L2.CX P w) P w K mg base ["program", "value"] "row_holds" (defScope (topS 13)) a cdv A outer s H E) (wishOf mg K E) 6 → HB (cxOf (L2.CX P w) P w K mg base ["program", "value"] "row_holds" (defScope (topS 13)) a cdv A outer s H E) (wishOf mg K E) (defBody (topS 13)) (Brow_holds v) := by
    intro cdv A outer s H E c
    exact hb_one (hs_ret (he_call (h0.mono (by decide)) c rfl g0 k0 b0 (ha_cons (he_var (i := 0) rfl (Or.inl rfl)) (ha_cons (he_var (i := 1) rfl (Or.inl rfl)) (ha_cons (he_tup (ha_nil)) (ha_cons (he_fn rfl hV0) (ha_nil)))))))
  have q2 := fnG_fun (b := (Brow_holds v)) F scrow_holds S q
  have q3 := F.binds (ps := ["program", "value"]) (fun _ _ _ _ _ _ us hl => match us, hl with | [_, _], _ => rfl)
  exact ⟨a, fd, F, hm, F.kp, q3, q2⟩

theorem scshrink_holds : FnScope ["program", "value"] ["program", "value"] (defScope (topS 16)) := ⟨rfl, rfl, rfl, by decide +kernel, rfl, by decide +kernel, by decide +kernel⟩
theorem okshrink_holds {v : Nat → Addr} (T : Txt K mg) (S : SysD base) (hV0 : mg "_longer" = some (.ref (v 0))) (hV1 : mg "_shorter" = some (.ref (v 1))) : OkF P w K mg base "shrink_holds" (topS 16) ["program", "value"] 7 (Mshrink_holds v) := by
  obtain ⟨a0, fd0, F0, g0, k0, b0, h0⟩ := okis_row (P := P) (w := w) (base := base) T S hV0 hV1
  obtain ⟨a1, fd1, F1, g1, k1, b1, h1⟩ := ok_shorter (P := P) (w := w) (base := base) T S
  obtain ⟨a2, fd2, F2, g2, k2, b2, h2⟩ := okjumps_of (P := P) (w := w) (base := base) T S
  obtain ⟨a, fd, hm, F⟩ := T.f_shrink_holds
  have q : ∀ (cdv : Value) (A : Around) (outer : List Env) (s : Shared) (H : Hp) (E : XK), GC (cxOf (L2.CX P w) P w K mg base ["program", "value"] "shrink_holds" (defScope (topS 16)) a cdv A outer s H E) (wishOf mg K E) 6 → HB (cxOf (L2.CX P w) P w K mg base ["program", "value"] "shrink_holds" (defScope (topS 16)) a cdv A outer s H E) (wishOf mg K E) (defBody (topS 16)) (Bshrink_holds v) := by
    intro cdv A outer s H E c
    exact hb_one (hs_ret (he_call (h0.mono (by decide)) c rfl g0 k0 b0 (ha_cons (he_var (i := 0) rfl (Or.inl rfl)) (ha_cons (he_var (i := 1) rfl (Or.inl rfl)) (ha_cons (he_call (h2.mono (by decide)) c rfl g2 k2 b2 (ha_cons (he_ix c.hu (he_var (i := 0) rfl (Or.inl rfl)) (he_int) (fun _ _ => rfl)) (ha_nil))) (ha_cons (he_fn rfl hV1) (ha_nil)))))))
  have q2 := fnG_fun (b := (Bshrink_holds v)) F scshrink_holds S q
  have q3 := F.binds (ps := ["program", "value"]) (fun _ _ _ _ _ _ us hl => match us, hl with | [_, _], _ => rfl)
  exact ⟨a, fd, F, hm, F.kp, q3, q2⟩

theorem sc_law_stock : FnScope ["script", "flat", "cell"] ["script"] (defScope (topS 19)) := ⟨rfl, rfl, rfl, by decide +kernel, rfl, by decide +kernel, by decide +kernel⟩
theorem ok_law_stock (T : Txt K mg) (S : SysD base) : OkF P w K mg base "_law_stock" (topS 19) ["script"] 1 M_law_stock := by
  obtain ⟨a, fd, hm, F⟩ := T.f__law_stock
  have q : ∀ (cdv : Value) (A : Around) (outer : List Env) (s : Shared) (H : Hp) (E : XK), GC (cxOf (L2.CX P w) P w K mg base ["script", "flat", "cell"] "_law_stock" (defScope (topS 19)) a cdv A outer s H E) (wishOf mg K E) 0 → HB (cxOf (L2.CX P w) P w K mg base ["script", "flat", "cell"] "_law_stock" (defScope (topS 19)) a cdv A outer s H E) (wishOf mg K E) (defBody (topS 19)) B_law_stock := by
    intro cdv A outer s H E c
    exact hb_cons (hs_I (setI_eq _ _ _ _ _ _) (hs_setLc (i := 1) (own := [("cell", 2)]) c rfl rfl (sw_true rfl rfl rfl (by decide +kernel)) (hi_seq (he_cut (he_var (i := 0) rfl (Or.inl rfl)) (ho_none) (ho_some (he_int)))) (by kernel_rfl) (fun s1 H1 C1 cl1 fp1 => hg_name (GC.blk c s1 H1 _ _ fp1).nd rfl (Or.inl rfl)) (fun s1 H1 C1 cl1 fp1 => hts_nil) (fun s1 H1 C1 cl1 fp1 => he_if (ht_cmp og_ge (he_var (i := 2) rfl (Or.inl rfl)) (he_int) (nomark _)) (he_op og_mul (he_int) (he_var (i := 2) rfl (Or.inl rfl))) (he_op og_sub (he_op og_mul (he_neg (he_int)) (he_var (i := 2) rfl (Or.inl rfl))) (he_int))))) (hb_one (hs_ret (he_lst (ha_cons (he_I (mLcI_eq _ _ _ _ _) (he_lc (own := [("cell", 2)]) c (hi_seq (he_var (i := 1) rfl (Or.inl rfl))) (by kernel_rfl) (fun s2 H2 C2 cl2 fp2 => hg_name (GC.blk c s2 H2 _ _ fp2).nd rfl (Or.inl rfl)) (fun s2 H2 C2 cl2 fp2 => hts_one (ht_cmp og_ge (he_var (i := 2) rfl (Or.inl rfl)) (he_op og_pow (he_int) (he_int)) (nomark _))) (fun s2 H2 C2 cl2 fp2 => he_var (i := 2) rfl (Or.inl rfl)))) (ha_cons (he_op og_add (he_var (i := 1) rfl (Or.inl rfl)) (he_lst (ha_cons (he_op og_add (he_callB cg_len rfl T.z_len (by decide +kernel) (ha_cons (he_var (i := 1) rfl (Or.inl rfl)) (ha_nil))) (he_int)) (ha_nil)))) (ha_cons (he_callB (cg_sum c) rfl T.z_sum (by decide +kernel) (ha_cons (he_var (i := 1) rfl (Or.inl rfl)) (ha_nil))) (ha_cons (he_int) (ha_nil))))))))
  have q2 := fnG_fun (b := B_law_stock) F sc_law_stock S q
  have q3 := F.binds (ps := ["script"]) (fun _ _ _ _ _ _ us hl => match us, hl with | [_], _ => rfl)
  exact ⟨a, fd, F, hm, F.kp, q3, q2⟩

theorem sc_law_draw : FnScope ["stock", "size", "great", "turn", "cell", "blend"] ["stock", "size"] (defScope (topS 20)) := ⟨rfl, rfl, rfl, by decide +kernel, rfl, by decide +kernel, by decide +kernel⟩
theorem ok_law_draw (T : Txt K mg) (S : SysD base) : OkF P w K mg base "_law_draw" (topS 20) ["stock", "size"] 1 M_law_draw := by
  obtain ⟨a, fd, hm, F⟩ := T.f__law_draw
  have q : ∀ (cdv : Value) (A : Around) (outer : List Env) (s : Shared) (H : Hp) (E : XK), GC (cxOf (L2.CX P w) P w K mg base ["stock", "size", "great", "turn", "cell", "blend"] "_law_draw" (defScope (topS 20)) a cdv A outer s H E) (wishOf mg K E) 0 → HB (cxOf (L2.CX P w) P w K mg base ["stock", "size", "great", "turn", "cell", "blend"] "_law_draw" (defScope (topS 20)) a cdv A outer s H E) (wishOf mg K E) (defBody (topS 20)) B_law_draw := by
    intro cdv A outer s H E c
    exact hb_cons (hs_if (ht_cmp (og_ne c) (he_ix c.hu (he_var (i := 0) rfl (Or.inl rfl)) (he_int) (fun _ _ => rfl)) (he_lst (ha_nil)) (nomark _)) (hb_cons (hs_set (i := 2) c.nd rfl (Or.inl rfl) (he_meth0 PySem.F.plainAttrs_list PySem.F.slot_list_pop PySem.F.type_list_pop mg_pop (he_ix c.hu (he_var (i := 0) rfl (Or.inl rfl)) (he_int) (fun _ _ => rfl)))) (hb_cons (hs_if (ht_cmp og_ge (he_var (i := 2) rfl (Or.inl rfl)) (he_var (i := 1) rfl (Or.inl rfl)) (nomark _)) (hb_one (hs_expr (he_meth PySem.F.plainAttrs_list PySem.F.slot_list_append PySem.F.type_list_append mg_append (he_ix c.hu (he_var (i := 0) rfl (Or.inl rfl)) (he_int) (fun _ _ => rfl)) (ha_cons (he_op og_fdiv (he_var (i := 2) rfl (Or.inl rfl)) (he_var (i := 1) rfl (Or.inl rfl))) (ha_nil))))) (hb_nil)) (hb_one (hs_ret (he_op og_mod (he_callTy cg_int rfl T.z_int (by decide +kernel) (ha_cons (he_var (i := 2) rfl (Or.inl rfl)) (ha_nil))) (he_var (i := 1) rfl (Or.inl rfl))))))) (hb_nil)) (hb_cons (hs_asg (he_op og_add (he_ix c.hu (he_var (i := 0) rfl (Or.inl rfl)) (he_int) (fun _ _ => rfl)) (he_int)) (hg_put c.hu (he_var (i := 0) rfl (Or.inl rfl)) (he_int) (fun h1 h2 h3 => pg_sub h1 h2 h3))) (hb_cons (hs_set (i := 3) c.nd rfl (Or.inl rfl) (he_ix c.hu (he_var (i := 0) rfl (Or.inl rfl)) (he_int) (fun _ _ => rfl))) (hb_cons (hs_set (i := 4) c.nd rfl (Or.inl rfl) (he_op og_mod (he_callTy cg_int rfl T.z_int (by decide +kernel) (ha_cons (he_ix c.hu (he_ix c.hu (he_var (i := 0) rfl (Or.inl rfl)) (he_int) (fun _ _ => rfl)) (he_op og_mod (he_callTy cg_int rfl T.z_int (by decide +kernel) (ha_cons (he_var (i := 3) rfl (Or.inl rfl)) (ha_nil))) (he_callB cg_len rfl T.z_len (by decide +kernel) (ha_cons (he_ix c.hu (he_var (i := 0) rfl (Or.inl rfl)) (he_int) (fun _ _ => rfl)) (ha_nil)))) (fun _ _ => rfl)) (ha_nil))) (he_int))) (hb_cons (hs_set (i := 5) c.nd rfl (Or.inl rfl) (he_op og_mod (he_callTy cg_int rfl T.z_int (by decide +kernel) (ha_cons (he_op og_add (he_op og_add (he_op og_mul (he_var (i := 4) rfl (Or.inl rfl)) (he_int)) (he_op og_mul (he_op og_mod (he_callTy cg_int rfl T.z_int (by decide +kernel) (ha_cons (he_ix c.hu (he_var (i := 0) rfl (Or.inl rfl)) (he_int) (fun _ _ => rfl)) (ha_nil))) (he_int)) (he_int))) (he_op og_mul (he_var (i := 3) rfl (Or.inl rfl)) (he_int))) (ha_nil))) (he_int))) (hb_cons (hs_set (i := 5) c.nd rfl (Or.inl rfl) (he_op og_mod (he_callTy cg_int rfl T.z_int (by decide +kernel) (ha_cons (he_op og_add (he_op og_add (he_op og_mul (he_var (i := 5) rfl (Or.inl rfl)) (he_var (i := 5) rfl (Or.inl rfl))) (he_op og_mul (he_var (i := 3) rfl (Or.inl rfl)) (he_int))) (he_var (i := 4) rfl (Or.inl rfl))) (ha_nil))) (he_int))) (hb_one (hs_ret (he_op og_mod (he_op og_fdiv (he_op og_mod (he_callTy cg_int rfl T.z_int (by decide +kernel) (ha_cons (he_op og_add (he_op og_mul (he_var (i := 5) rfl (Or.inl rfl)) (he_int)) (he_op og_mul (he_var (i := 3) rfl (Or.inl rfl)) (he_int))) (ha_nil))) (he_int)) (he_int)) (he_var (i := 1) rfl (Or.inl rfl))))))))))
  have q2 := fnG_fun (b := B_law_draw) F sc_law_draw S q
  have q3 := F.binds (ps := ["stock", "size"]) (fun _ _ _ _ _ _ us hl => match us, hl with | [_, _], _ => rfl)
  exact ⟨a, fd, F, hm, F.kp, q3, q2⟩

theorem sc_law_pick : FnScope ["stock", "row"] ["stock", "row"] (defScope (topS 21)) := ⟨rfl, rfl, rfl, by decide +kernel, rfl, by decide +kernel, by decide +kernel⟩
theorem ok_law_pick (T : Txt K mg) (S : SysD base) : OkF P w K mg base "_law_pick" (topS 21) ["stock", "row"] 2 M_law_pick := by
  obtain ⟨a0, fd0, F0, g0, k0, b0, h0⟩ := ok_law_draw (P := P) (w := w) (base := base) T S
  obtain ⟨a, fd, hm, F⟩ := T.f__law_pick
  have q : ∀ (cdv : Value) (A : Around) (outer : List Env) (s : Shared) (H : Hp) (E : XK), GC (cxOf (L2.CX P w) P w K mg base ["stock", "row"] "_law_pick" (defScope (topS 21)) a cdv A outer s H E) (wishOf mg K E) 1 → HB (cxOf (L2.CX P w) P w K mg base ["stock", "row"] "_law_pick" (defScope (topS 21)) a cdv A outer s H E) (wishOf mg K E) (defBody (topS 21)) B_law_pick := by
    intro cdv A outer s H E c
    exact hb_one (hs_ret (he_ix c.hu (he_var (i := 1) rfl (Or.inl rfl)) (he_call (h0.mono (by decide)) c rfl g0 k0 b0 (ha_cons (he_var (i := 0) rfl (Or.inl rfl)) (ha_cons (he_callB cg_len rfl T.z_len (by decide +kernel) (ha_cons (he_var (i := 1) rfl (Or.inl rfl)) (ha_nil))) (ha_nil)))) (fun _ _ => rfl)))
  have q2 := fnG_fun (b := B_law_pick) F sc_law_pick S q
  have q3 := F.binds (ps := ["stock", "row"]) (fun _ _ _ _ _ _ us hl => match us, hl with | [_, _], _ => rfl)
  exact ⟨a, fd, F, hm, F.kp, q3, q2⟩

theorem sc_law_words : FnScope ["stock", "most", "turn"] ["stock", "most"] (defScope (topS 22)) := ⟨rfl, rfl, rfl, by decide +kernel, rfl, by decide +kernel, by decide +kernel⟩
theorem ok_law_words (T : Txt K mg) (S : SysD base) : OkF P w K mg base "_law_words" (topS 22) ["stock", "most"] 3 M_law_words := by
  obtain ⟨a0, fd0, F0, g0, k0, b0, h0⟩ := ok_law_pick (P := P) (w := w) (base := base) T S
  obtain ⟨a1, fd1, F1, g1, k1, b1, h1⟩ := ok_law_draw (P := P) (w := w) (base := base) T S
  obtain ⟨a, fd, hm, F⟩ := T.f__law_words
  have q : ∀ (cdv : Value) (A : Around) (outer : List Env) (s : Shared) (H : Hp) (E : XK), GC (cxOf (L2.CX P w) P w K mg base ["stock", "most", "turn"] "_law_words" (defScope (topS 22)) a cdv A outer s H E) (wishOf mg K E) 2 → HB (cxOf (L2.CX P w) P w K mg base ["stock", "most", "turn"] "_law_words" (defScope (topS 22)) a cdv A outer s H E) (wishOf mg K E) (defBody (topS 22)) B_law_words := by
    intro cdv A outer s H E c
    exact hb_one (hs_ret (he_I (mLcI_eq _ _ _ _ _) (he_lc (own := [("turn", 2)]) c (hi_range1 rfl T.z_range (ha_cons (he_call (h1.mono (by decide)) c rfl g1 k1 b1 (ha_cons (he_var (i := 0) rfl (Or.inr (Or.inl rfl))) (ha_cons (he_var (i := 1) rfl (Or.inl rfl)) (ha_nil)))) (ha_nil))) (by kernel_rfl) (fun s1 H1 C1 cl1 fp1 => hg_name (GC.blk c s1 H1 _ _ fp1).nd rfl (Or.inl rfl)) (fun s1 H1 C1 cl1 fp1 => hts_nil) (fun s1 H1 C1 cl1 fp1 => he_call (h0.mono (by decide)) (GC.blk c s1 H1 _ _ fp1) rfl g0 k0 b0 (ha_cons (he_var (i := 0) rfl (Or.inr (Or.inl rfl))) (ha_cons (he_lst (ha_cons (he_str) (ha_cons (he_str) (ha_cons (he_str) (ha_cons (he_str) (ha_cons (he_str) (ha_nil))))))) (ha_nil)))))))
  have q2 := fnG_fun (b := B_law_words) F sc_law_words S q
  have q3 := F.binds (ps := ["stock", "most"]) (fun _ _ _ _ _ _ us hl => match us, hl with | [_, _], _ => rfl)
  exact ⟨a, fd, F, hm, F.kp, q3, q2⟩

theorem sc_law_skeleton : FnScope ["stock", "most", "wide", "words", "jumps", "place", "goals", "found", "word", "brief", "growth", "own"] ["stock", "most", "wide"] (defScope (topS 23)) := ⟨rfl, rfl, rfl, by decide +kernel, rfl, by decide +kernel, by decide +kernel⟩
theorem ok_law_skeleton (T : Txt K mg) (S : SysD base) : OkF P w K mg base "_law_skeleton" (topS 23) ["stock", "most", "wide"] 4 M_law_skeleton := by
  obtain ⟨a0, fd0, F0, g0, k0, b0, h0⟩ := ok_law_words (P := P) (w := w) (base := base) T S
  obtain ⟨a1, fd1, F1, g1, k1, b1, h1⟩ := ok_law_draw (P := P) (w := w) (base := base) T S
  obtain ⟨a2, fd2, F2, g2, k2, b2, h2⟩ := ok_law_pick (P := P) (w := w) (base := base) T S
  obtain ⟨a, fd, hm, F⟩ := T.f__law_skeleton
  have q : ∀ (cdv : Value) (A : Around) (outer : List Env) (s : Shared) (H : Hp) (E : XK), GC (cxOf (L2.CX P w) P w K mg base ["stock", "most", "wide", "words", "jumps", "place", "goals", "found", "word", "brief", "growth", "own"] "_law_skeleton" (defScope (topS 23)) a cdv A outer s H E) (wishOf mg K E) 3 → HB (cxOf (L2.CX P w) P w K mg base ["stock", "most", "wide", "words", "jumps", "place", "goals", "found", "word", "brief", "growth", "own"] "_law_skeleton" (defScope (topS 23)) a cdv A outer s H E) (wishOf mg K E) (defBody (topS 23)) B_law_skeleton := by
    intro cdv A outer s H E c
    exact hb_cons (hs_set (i := 3) c.nd rfl (Or.inl rfl) (he_call (h0.mono (by decide)) c rfl g0 k0 b0 (ha_cons (he_var (i := 0) rfl (Or.inl rfl)) (ha_cons (he_var (i := 2) rfl (Or.inl rfl)) (ha_nil))))) (hb_cons (hs_if (ht_cmp (og_eq c) (he_call (h1.mono (by decide)) c rfl g1 k1 b1 (ha_cons (he_var (i := 0) rfl (Or.inl rfl)) (ha_cons (he_int) (ha_nil)))) (he_int) (nomark _)) (hb_one (hs_set (i := 3) c.nd rfl (Or.inl rfl) (he_op og_add (he_op og_add (he_cut (he_var (i := 3) rfl (Or.inl rfl)) (ho_none) (ho_some (he_int))) (he_lst (ha_cons (he_str) (ha_cons (he_str) (ha_cons (he_str) (ha_cons (he_str) (ha_nil))))))) (he_cut (he_var (i := 3) rfl (Or.inl rfl)) (ho_some (he_int)) (ho_none))))) (hb_nil)) (hb_cons (hs_expr (he_meth PySem.F.plainAttrs_list PySem.F.slot_list_insert PySem.F.type_list_insert mg_insert (he_var (i := 3) rfl (Or.inl rfl)) (ha_cons (he_call (h1.mono (by decide)) c rfl g1 k1 b1 (ha_cons (he_var (i := 0) rfl (Or.inl rfl)) (ha_cons (he_op og_add (he_callB cg_len rfl T.z_len (by decide +kernel) (ha_cons (he_var (i := 3) rfl (Or.inl rfl)) (ha_nil))) (he_int)) (ha_nil)))) (ha_cons (he_str) (ha_nil))))) (hb_cons (hs_I (setI_eq _ _ _ _ _ _) (hs_setLc (i := 4) (own := [("place", 5), ("word", 8)]) c rfl rfl (sw_true rfl rfl rfl (by decide +kernel)) (hi_enum rfl T.z_enumerate (ha_cons (he_var (i := 3) rfl (Or.inl rfl)) (ha_nil))) (by kernel_rfl) (fun s1 H1 C1 cl1 fp1 => hg_tup (sl := [5, 8]) (GC.blk c s1 H1 _ _ fp1).calm (hgs_cons (GC.blk c s1 H1 _ _ fp1).nd rfl (Or.inl rfl) (by decide) (hgs_cons (GC.blk c s1 H1 _ _ fp1).nd rfl (Or.inl rfl) (by decide) (hgs_nil)))) (fun s1 H1 C1 cl1 fp1 => hts_one (ht_cmp (og_eq (GC.blk c s1 H1 _ _ fp1)) (he_var (i := 8) rfl (Or.inl rfl)) (he_str) (nomark _))) (fun s1 H1 C1 cl1 fp1 => he_var (i := 5) rfl (Or.inl rfl)))) (hb_cons (hs_I (sForI_eq _ _ _) (hs_for c.po c.calm (hi_seq (he_cut (he_var (i := 4) rfl (Or.inl rfl)) (ho_some (he_var (i := 1) rfl (Or.inl rfl))) (ho_none))) (hg_name c.nd rfl (Or.inl rfl)) (hb_one (hs_asg (he_str) (hg_put c.hu (he_var (i := 3) rfl (Or.inl rfl)) (he_var (i := 5) rfl (Or.inl rfl)) (fun h1 h2 h3 => pg_sub h1 h2 h3)))))) (hb_cons (hs_par (i := 6) (j := 7) c rfl rfl (by decide) rfl rfl (ha_cons (he_I (mLcI_eq _ _ _ _ _) (he_lc (own := [("place", 5), ("word", 8)]) c (hi_enum rfl T.z_enumerate (ha_cons (he_var (i := 3) rfl (Or.inl rfl)) (ha_nil))) (by kernel_rfl) (fun s2 H2 C2 cl2 fp2 => hg_tup (sl := [5, 8]) (GC.blk c s2 H2 _ _ fp2).calm (hgs_cons (GC.blk c s2 H2 _ _ fp2).nd rfl (Or.inl rfl) (by decide) (hgs_cons (GC.blk c s2 H2 _ _ fp2).nd rfl (Or.inl rfl) (by decide) (hgs_nil)))) (fun s2 H2 C2 cl2 fp2 => hts_one (ht_cmp (og_eq (GC.blk c s2 H2 _ _ fp2)) (he_var (i := 8) rfl (Or.inl rfl)) (he_str) (nomark _))) (fun s2 H2 C2 cl2 fp2 => he_var (i := 5) rfl (Or.inl rfl)))) (ha_cons (he_lst (ha_nil)) (ha_nil))) (by rfl)) (hb_cons (hs_I (sForI_eq _ _ _) (hs_for c.po c.calm (hi_seq (he_cut (he_var (i := 3) rfl (Or.inl rfl)) (ho_none) (ho_some (he_int)))) (hg_name c.nd rfl (Or.inl rfl)) (hb_one (hs_if (ht_cmp (og_eq c) (he_var (i := 8) rfl (Or.inl rfl)) (he_str) (nomark _)) (hb_cons (hs_set (i := 9) c.nd rfl (Or.inl rfl) (he_op og_add (he_int) (he_call (h1.mono (by decide)) c rfl g1 k1 b1 (ha_cons (he_var (i := 0) rfl (Or.inl rfl)) (ha_cons (he_int) (ha_nil)))))) (hb_cons (hs_set (i := 10) c.nd rfl (Or.inl rfl) (he_call (h2.mono (by decide)) c rfl g2 k2 b2 (ha_cons (he_var (i := 0) rfl (Or.inl rfl)) (ha_cons (he_lst (ha_cons (he_int) (ha_cons (he_int) (ha_cons (he_int) (ha_cons (he_int) (ha_cons (he_int) (ha_cons (he_int) (ha_cons (he_int) (ha_cons (he_int) (ha_cons (he_int) (ha_cons (he_op og_add (he_int) (he_call (h1.mono (by decide)) c rfl g1 k1 b1 (ha_cons (he_var (i := 0) rfl (Or.inl rfl)) (ha_cons (he_int) (ha_nil))))) (ha_nil)))))))))))) (ha_nil))))) (hb_one (hs_expr (he_meth PySem.F.plainAttrs_list PySem.F.slot_list_append PySem.F.type_list_append mg_append (he_var (i := 7) rfl (Or.inl rfl)) (ha_cons (he_tup (ha_cons (he_str) (ha_cons (he_call (h2.mono (by decide)) c rfl g2 k2 b2 (ha_cons (he_var (i := 0) rfl (Or.inl rfl)) (ha_cons (he_I (mLcI_eq _ _ _ _ _) (he_lc (own := [("own", 11)]) c (hi_seq (he_var (i := 6) rfl (Or.inl rfl))) (by kernel_rfl) (fun s3 H3 C3 cl3 fp3 => hg_name (GC.blk c s3 H3 _ _ fp3).nd rfl (Or.inl rfl)) (fun s3 H3 C3 cl3 fp3 => hts_one (ht_cmp og_lt (he_var (i := 11) rfl (Or.inl rfl)) (he_int) (nomark _))) (fun s3 H3 C3 cl3 fp3 => he_var (i := 11) rfl (Or.inl rfl)))) (ha_nil)))) (ha_cons (he_var (i := 9) rfl (Or.inl rfl)) (ha_cons (he_op og_add (he_var (i := 9) rfl (Or.inl rfl)) (he_var (i := 10) rfl (Or.inl rfl))) (ha_nil)))))) (ha_nil))))))) (hb_one (hs_if (ht_cmp (og_eq c) (he_var (i := 8) rfl (Or.inl rfl)) (he_str) (nomark _)) (hb_one (hs_expr (he_meth PySem.F.plainAttrs_list PySem.F.slot_list_append PySem.F.type_list_append mg_append (he_var (i := 7) rfl (Or.inl rfl)) (ha_cons (he_tup (ha_cons (he_str) (ha_cons (he_call (h2.mono (by decide)) c rfl g2 k2 b2 (ha_cons (he_var (i := 0) rfl (Or.inl rfl)) (ha_cons (he_lst (ha_cons (he_int) (ha_cons (he_int) (ha_cons (he_int) (ha_cons (he_int) (ha_cons (he_int) (ha_cons (he_int) (ha_cons (he_int) (ha_cons (he_call (h2.mono (by decide)) c rfl g2 k2 b2 (ha_cons (he_var (i := 0) rfl (Or.inl rfl)) (ha_cons (he_lst (ha_cons (he_int) (ha_cons (he_int) (ha_cons (he_int) (ha_nil))))) (ha_nil)))) (ha_nil)))))))))) (ha_nil)))) (ha_nil)))) (ha_nil))))) (hb_one (hs_expr (he_meth PySem.F.plainAttrs_list PySem.F.slot_list_append PySem.F.type_list_append mg_append (he_var (i := 7) rfl (Or.inl rfl)) (ha_cons (he_tup (ha_cons (he_str) (ha_nil))) (ha_nil))))))))))) (hb_one (hs_ret (he_callTy cg_tuple rfl T.z_tuple (by decide +kernel) (ha_cons (he_var (i := 7) rfl (Or.inl rfl)) (ha_nil)))))))))))
  have q2 := fnG_fun (b := B_law_skeleton) F sc_law_skeleton S q
  have q3 := F.binds (ps := ["stock", "most", "wide"]) (fun _ _ _ _ _ _ us hl => match us, hl with | [_, _, _], _ => rfl)
  exact ⟨a, fd, F, hm, F.kp, q3, q2⟩

theorem sc_law_jumps : FnScope ["skeleton", "place", "item"] ["skeleton"] (defScope (topS 24)) := ⟨rfl, rfl, rfl, by decide +kernel, rfl, by decide +kernel, by decide +kernel⟩
theorem ok_law_jumps (T : Txt K mg) (S : SysD base) : OkF P w K mg base "_law_jumps" (topS 24) ["skeleton"] 1 M_law_jumps := by
  obtain ⟨a, fd, hm, F⟩ := T.f__law_jumps
  have q : ∀ (cdv : Value) (A : Around) (outer : List Env) (s : Shared) (H : Hp) (E : XK), GC (cxOf (L2.CX P w) P w K mg base ["skeleton", "place", "item"] "_law_jumps" (defScope (topS 24)) a cdv A outer s H E) (wishOf mg K E) 0 → HB (cxOf (L2.CX P w) P w K mg base ["skeleton", "place", "item"] "_law_jumps" (defScope (topS 24)) a cdv A outer s H E) (wishOf mg K E) (defBody (topS 24)) B_law_jumps := by
    intro cdv A outer s H E c
    exact hb_one (hs_ret (he_I (mLcI_eq _ _ _ _ _) (he_lc (own := [("place", 1), ("item", 2)]) c (hi_enum rfl T.z_enumerate (ha_cons (he_var (i := 0) rfl (Or.inl rfl)) (ha_nil))) (by kernel_rfl) (fun s1 H1 C1 cl1 fp1 => hg_tup (sl := [1, 2]) (GC.blk c s1 H1 _ _ fp1).calm (hgs_cons (GC.blk c s1 H1 _ _ fp1).nd rfl (Or.inl rfl) (by decide) (hgs_cons (GC.blk c s1 H1 _ _ fp1).nd rfl (Or.inl rfl) (by decide) (hgs_nil)))) (fun s1 H1 C1 cl1 fp1 => hts_one (ht_cmp (og_eq (GC.blk c s1 H1 _ _ fp1)) (he_ix (GC.blk c s1 H1 _ _ fp1).hu (he_var (i := 2) rfl (Or.inl rfl)) (he_int) (fun _ _ => rfl)) (he_str) (nomark _))) (fun s1 H1 C1 cl1 fp1 => he_var (i := 1) rfl (Or.inl rfl)))))
  have q2 := fnG_fun (b := B_law_jumps) F sc_law_jumps S q
  have q3 := F.binds (ps := ["skeleton"]) (fun _ _ _ _ _ _ us hl => match us, hl with | [_], _ => rfl)
  exact ⟨a, fd, F, hm, F.kp, q3, q2⟩

theorem sc_law_laying : FnScope ["skeleton", "lengths", "choice", "here", "found", "place", "item", "begin"] ["skeleton", "lengths", "choice"] (defScope (topS 25)) := ⟨rfl, rfl, rfl, by decide +kernel, rfl, by decide +kernel, by decide +kernel⟩
theorem ok_law_laying (T : Txt K mg) (S : SysD base) : OkF P w K mg base "_law_laying" (topS 25) ["skeleton", "lengths", "choice"] 1 M_law_laying := by
  obtain ⟨a, fd, hm, F⟩ := T.f__law_laying
  have q : ∀ (cdv : Value) (A : Around) (outer : List Env) (s : Shared) (H : Hp) (E : XK), GC (cxOf (L2.CX P w) P w K mg base ["skeleton", "lengths", "choice", "here", "found", "place", "item", "begin"] "_law_laying" (defScope (topS 25)) a cdv A outer s H E) (wishOf mg K E) 0 → HB (cxOf (L2.CX P w) P w K mg base ["skeleton", "lengths", "choice", "here", "found", "place", "item", "begin"] "_law_laying" (defScope (topS 25)) a cdv A outer s H E) (wishOf mg K E) (defBody (topS 25)) B_law_laying := by
    intro cdv A outer s H E c
    exact hb_cons (hs_par (i := 3) (j := 4) c rfl rfl (by decide) rfl rfl (ha_cons (he_int) (ha_cons (he_lst (ha_nil)) (ha_nil))) (by rfl)) (hb_cons (hs_I (sForI_eq _ _ _) (hs_for c.po c.calm (hi_enum rfl T.z_enumerate (ha_cons (he_var (i := 0) rfl (Or.inl rfl)) (ha_nil))) (hg_tup (sl := [5, 6]) c.calm (hgs_cons c.nd rfl (Or.inl rfl) (by decide) (hgs_cons c.nd rfl (Or.inl rfl) (by decide) (hgs_nil)))) (hb_cons (hs_set (i := 3) c.nd rfl (Or.inl rfl) (he_op og_add (he_var (i := 3) rfl (Or.inl rfl)) (he_ix c.hu (he_var (i := 1) rfl (Or.inl rfl)) (he_var (i := 5) rfl (Or.inl rfl)) (fun _ _ => rfl)))) (hb_cons (hs_set (i := 7) c.nd rfl (Or.inl rfl) (he_var (i := 3) rfl (Or.inl rfl))) (hb_cons (hs_if (ht_cmp (og_eq c) (he_ix c.hu (he_var (i := 6) rfl (Or.inl rfl)) (he_int) (fun _ _ => rfl)) (he_str) (nomark _)) (hb_one (hs_set (i := 3) c.nd rfl (Or.inl rfl) (he_op og_mul (he_op og_fdiv (he_op og_sub (he_op og_add (he_var (i := 3) rfl (Or.inl rfl)) (he_ix c.hu (he_var (i := 6) rfl (Or.inl rfl)) (he_int) (fun _ _ => rfl))) (he_int)) (he_ix c.hu (he_var (i := 6) rfl (Or.inl rfl)) (he_int) (fun _ _ => rfl))) (he_ix c.hu (he_var (i := 6) rfl (Or.inl rfl)) (he_int) (fun _ _ => rfl))))) (hb_nil)) (hb_cons (hs_if (ht_cmp (og_eq c) (he_ix c.hu (he_var (i := 6) rfl (Or.inl rfl)) (he_int) (fun _ _ => rfl)) (he_str) (nomark _)) (hb_one (hs_set (i := 3) c.nd rfl (Or.inl rfl) (he_op og_add (he_var (i := 3) rfl (Or.inl rfl)) (he_ix c.hu (he_var (i := 6) rfl (Or.inl rfl)) (he_if (ht_cmp (og_in c) (he_var (i := 5) rfl (Or.inl rfl)) (he_var (i := 2) rfl (Or.inl rfl)) (by rfl)) (he_int) (he_int)) (fun _ _ => rfl))))) (hb_nil)) (hb_one (hs_expr (he_meth PySem.F.plainAttrs_list PySem.F.slot_list_append PySem.F.type_list_append mg_append (he_var (i := 4) rfl (Or.inl rfl)) (ha_cons (he_tup (ha_cons (he_var (i := 7) rfl (Or.inl rfl)) (ha_cons (he_var (i := 3) rfl (Or.inl rfl)) (ha_nil)))) (ha_nil))))))))))) (hb_one (hs_ret (he_var (i := 4) rfl (Or.inl rfl)))))
  have q2 := fnG_fun (b := B_law_laying) F sc_law_laying S q
  have q3 := F.binds (ps := ["skeleton", "lengths", "choice"]) (fun _ _ _ _ _ _ us hl => match us, hl with | [_, _, _], _ => rfl)
  exact ⟨a, fd, F, hm, F.kp, q3, q2⟩

theorem sc_law_way : FnScope ["skeleton", "lengths", "choice", "jump", "rows", "goal", "own"] ["skeleton", "lengths", "choice", "jump"] (defScope (topS 26)) := ⟨rfl, rfl, rfl, by decide +kernel, rfl, by decide +kernel, by decide +kernel⟩
theorem ok_law_way (T : Txt K mg) (S : SysD base) : OkF P w K mg base "_law_way" (topS 26) ["skeleton", "lengths", "choice", "jump"] 2 M_law_way := by
  obtain ⟨a0, fd0, F0, g0, k0, b0, h0⟩ := ok_law_laying (P := P) (w := w) (base := base) T S
  obtain ⟨a, fd, hm, F⟩ := T.f__law_way
  have q : ∀ (cdv : Value) (A : Around) (outer : List Env) (s : Shared) (H : Hp) (E : XK), GC (cxOf (L2.CX P w) P w K mg base ["skeleton", "lengths", "choice", "jump", "rows", "goal", "own"] "_law_way" (defScope (topS 26)) a cdv A outer s H E) (wishOf mg K E) 1 → HB (cxOf (L2.CX P w) P w K mg base ["skeleton", "lengths", "choice", "jump", "rows", "goal", "own"] "_law_way" (defScope (topS 26)) a cdv A outer s H E) (wishOf mg K E) (defBody (topS 26)) B_law_way := by
    intro cdv A outer s H E c
    exact hb_cons (hs_set (i := 4) c.nd rfl (Or.inl rfl) (he_call (h0.mono (by decide)) c rfl g0 k0 b0 (ha_cons (he_var (i := 0) rfl (Or.inl rfl)) (ha_cons (he_var (i := 1) rfl (Or.inl rfl)) (ha_cons (he_I (mLcI_eq _ _ _ _ _) (he_lc (own := [("own", 6)]) c (hi_seq (he_var (i := 2) rfl (Or.inl rfl))) (by kernel_rfl) (fun s1 H1 C1 cl1 fp1 => hg_name (GC.blk c s1 H1 _ _ fp1).nd rfl (Or.inl rfl)) (fun s1 H1 C1 cl1 fp1 => hts_one (ht_cmp (og_ne (GC.blk c s1 H1 _ _ fp1)) (he_var (i := 6) rfl (Or.inl rfl)) (he_var (i := 3) rfl (Or.inr (Or.inl rfl))) (nomark _))) (fun s1 H1 C1 cl1 fp1 => he_var (i := 6) rfl (Or.inl rfl)))) (ha_nil)))))) (hb_cons (hs_set (i := 5) c.nd rfl (Or.inl rfl) (he_ix c.hu (he_ix c.hu (he_var (i := 0) rfl (Or.inl rfl)) (he_var (i := 3) rfl (Or.inr (Or.inl rfl))) (fun _ _ => rfl)) (he_int) (fun _ _ => rfl))) (hb_one (hs_ret (he_if (ht_cmp og_gt (he_var (i := 5) rfl (Or.inl rfl)) (he_var (i := 3) rfl (Or.inr (Or.inl rfl))) (nomark _)) (he_op og_sub (he_ix c.hu (he_ix c.hu (he_var (i := 4) rfl (Or.inl rfl)) (he_var (i := 5) rfl (Or.inl rfl)) (fun _ _ => rfl)) (he_int) (fun _ _ => rfl)) (he_ix c.hu (he_ix c.hu (he_var (i := 4) rfl (Or.inl rfl)) (he_var (i := 3) rfl (Or.inr (Or.inl rfl))) (fun _ _ => rfl)) (he_int) (fun _ _ => rfl))) (he_op og_sub (he_ix c.hu (he_ix c.hu (he_var (i := 4) rfl (Or.inl rfl)) (he_var (i := 3) rfl (Or.inr (Or.inl rfl))) (fun _ _ => rfl)) (he_int) (fun _ _ => rfl)) (he_ix c.hu (he_ix c.hu (he_var (i := 4) rfl (Or.inl rfl)) (he_var (i := 5) rfl (Or.inl rfl)) (fun _ _ => rfl)) (he_int) (fun _ _ => rfl)))))))
  have q2 := fnG_fun (b := B_law_way) F sc_law_way S q
  have q3 := F.binds (ps := ["skeleton", "lengths", "choice", "jump"]) (fun _ _ _ _ _ _ us hl => match us, hl with | [_, _, _, _], _ => rfl)
  exact ⟨a, fd, F, hm, F.kp, q3, q2⟩

theorem sc_law_lengths : FnScope ["stock", "skeleton", "is_great", "found", "place", "far", "small"] ["stock", "skeleton", "is_great"] (defScope (topS 27)) := ⟨rfl, rfl, rfl, by decide +kernel, rfl, by decide +kernel, by decide +kernel⟩
theorem ok_law_lengths (T : Txt K mg) (S : SysD base) : OkF P w K mg base "_law_lengths" (topS 27) ["stock", "skeleton", "is_great"] 3 M_law_lengths := by
  obtain ⟨a0, fd0, F0, g0, k0, b0, h0⟩ := ok_law_pick (P := P) (w := w) (base := base) T S
  obtain ⟨a1, fd1, F1, g1, k1, b1, h1⟩ := ok_law_draw (P := P) (w := w) (base := base) T S
  obtain ⟨a, fd, hm, F⟩ := T.f__law_lengths
  have q : ∀ (cdv : Value) (A : Around) (outer : List Env) (s : Shared) (H : Hp) (E : XK), GC (cxOf (L2.CX P w) P w K mg base ["stock", "skeleton", "is_great", "found", "place", "far", "small"] "_law_lengths" (defScope (topS 27)) a cdv A outer s H E) (wishOf mg K E) 2 → HB (cxOf (L2.CX P w) P w K mg base ["stock", "skeleton", "is_great", "found", "place", "far", "small"] "_law_lengths" (defScope (topS 27)) a cdv A outer s H E) (wishOf mg K E) (defBody (topS 27)) B_law_lengths := by
    intro cdv A outer s H E c
    exact hb_cons (hs_set (i := 3) c.nd rfl (Or.inl rfl) (he_lst (ha_nil))) (hb_cons (hs_I (sForI_eq _ _ _) (hs_for c.po c.calm (hi_range1 rfl T.z_range (ha_cons (he_op og_add (he_callB cg_len rfl T.z_len (by decide +kernel) (ha_cons (he_var (i := 1) rfl (Or.inl rfl)) (ha_nil))) (he_int)) (ha_nil))) (hg_name c.nd rfl (Or.inl rfl)) (hb_cons (hs_set (i := 5) c.nd rfl (Or.inl rfl) (he_op og_sub (he_op og_pow (he_int) (he_int)) (he_call (h1.mono (by decide)) c rfl g1 k1 b1 (ha_cons (he_var (i := 0) rfl (Or.inl rfl)) (ha_cons (he_int) (ha_nil)))))) (hb_cons (hs_set (i := 6) c.nd rfl (Or.inl rfl) (he_call (h0.mono (by decide)) c rfl g0 k0 b0 (ha_cons (he_var (i := 0) rfl (Or.inl rfl)) (ha_cons (he_lst (ha_cons (he_int) (ha_cons (he_int) (ha_cons (he_int) (ha_cons (he_int) (ha_cons (he_int) (ha_cons (he_call (h1.mono (by decide)) c rfl g1 k1 b1 (ha_cons (he_var (i := 0) rfl (Or.inl rfl)) (ha_cons (he_int) (ha_nil)))) (ha_nil)))))))) (ha_nil))))) (hb_one (hs_expr (he_meth PySem.F.plainAttrs_list PySem.F.slot_list_append PySem.F.type_list_append mg_append (he_var (i := 3) rfl (Or.inl rfl)) (ha_cons (he_if (HW.ht (hw_and (ht_truth (he_var (i := 2) rfl (Or.inl rfl))) (hw_and1 (ht_cmp (og_eq c) (he_call (h1.mono (by decide)) c rfl g1 k1 b1 (ha_cons (he_var (i := 0) rfl (Or.inl rfl)) (ha_cons (he_int) (ha_nil)))) (he_int) (nomark _))))) (he_var (i := 5) rfl (Or.inl rfl)) (he_var (i := 6) rfl (Or.inl rfl))) (ha_nil))))))))) (hb_one (hs_ret (he_callTy cg_tuple rfl T.z_tuple (by decide +kernel) (ha_cons (he_var (i := 3) rfl (Or.inl rfl)) (ha_nil))))))
  have q2 := fnG_fun (b := B_law_lengths) F sc_law_lengths S q
  have q3 := F.binds (ps := ["stock", "skeleton", "is_great"]) (fun _ _ _ _ _ _ us hl => match us, hl with | [_, _, _], _ => rfl)
  exact ⟨a, fd, F, hm, F.kp, q3, q2⟩

theorem sc_law_some : FnScope ["stock", "row", "own"] ["stock", "row"] (defScope (topS 28)) := ⟨rfl, rfl, rfl, by decide +kernel, rfl, by decide +kernel, by decide +kernel⟩
theorem ok_law_some (T : Txt K mg) (S : SysD base) : OkF P w K mg base "_law_some" (topS 28) ["stock", "row"] 2 M_law_some := by
  obtain ⟨a0, fd0, F0, g0, k0, b0, h0⟩ := ok_law_draw (P := P) (w := w) (base := base) T S
  obtain ⟨a, fd, hm, F⟩ := T.f__law_some
  have q : ∀ (cdv : Value) (A : Around) (outer : List Env) (s : Shared) (H : Hp) (E : XK), GC (cxOf (L2.CX P w) P w K mg base ["stock", "row", "own"] "_law_some" (defScope (topS 28)) a cdv A outer s H E) (wishOf mg K E) 1 → HB (cxOf (L2.CX P w) P w K mg base ["stock", "row", "own"] "_law_some" (defScope (topS 28)) a cdv A outer s H E) (wishOf mg K E) (defBody (topS 28)) B_law_some := by
    intro cdv A outer s H E c
    exact hb_one (hs_ret (he_callTy cg_tuple rfl T.z_tuple (by decide +kernel) (ha_cons (he_I (mLcI_eq _ _ _ _ _) (he_lc (own := [("own", 2)]) c (hi_seq (he_var (i := 1) rfl (Or.inl rfl))) (by kernel_rfl) (fun s1 H1 C1 cl1 fp1 => hg_name (GC.blk c s1 H1 _ _ fp1).nd rfl (Or.inl rfl)) (fun s1 H1 C1 cl1 fp1 => hts_one (ht_cmp (og_eq (GC.blk c s1 H1 _ _ fp1)) (he_call (h0.mono (by decide)) (GC.blk c s1 H1 _ _ fp1) rfl g0 k0 b0 (ha_cons (he_var (i := 0) rfl (Or.inr (Or.inl rfl))) (ha_cons (he_int) (ha_nil)))) (he_int) (nomark _))) (fun s1 H1 C1 cl1 fp1 => he_var (i := 2) rfl (Or.inl rfl)))) (ha_nil))))
  have q2 := fnG_fun (b := B_law_some) F sc_law_some S q
  have q3 := F.binds (ps := ["stock", "row"]) (fun _ _ _ _ _ _ us hl => match us, hl with | [_, _], _ => rfl)
  exact ⟨a, fd, F, hm, F.kp, q3, q2⟩

theorem sc_law_program : FnScope ["stock", "skeleton", "is_great", "lengths", "jumps", "found", "jump", "way", "reach"] ["stock", "skeleton", "is_great"] (defScope (topS 29)) := ⟨rfl, rfl, rfl, by decide +kernel, rfl, by decide +kernel, by decide +kernel⟩
theorem ok_law_program (T : Txt K mg) (S : SysD base) : OkF P w K mg base "_law_program" (topS 29) ["stock", "skeleton", "is_great"] 4 M_law_program := by
  obtain ⟨a0, fd0, F0, g0, k0, b0, h0⟩ := ok_law_lengths (P := P) (w := w) (base := base) T S
  obtain ⟨a1, fd1, F1, g1, k1, b1, h1⟩ := ok_law_jumps (P := P) (w := w) (base := base) T S
  obtain ⟨a2, fd2, F2, g2, k2, b2, h2⟩ := ok_law_way (P := P) (w := w) (base := base) T S
  obtain ⟨a3, fd3, F3, g3, k3, b3, h3⟩ := ok_law_pick (P := P) (w := w) (base := base) T S
  obtain ⟨a4, fd4, F4, g4, k4, b4, h4⟩ := ok_law_some (P := P) (w := w) (base := base) T S
  obtain ⟨a5, fd5, F5, g5, k5, b5, h5⟩ := ok_law_draw (P := P) (w := w) (base := base) T S
  obtain ⟨a, fd, hm, F⟩ := T.f__law_program
  have q : ∀ (cdv : Value) (A : Around) (outer : List Env) (s : Shared) (H : Hp) (E : XK), GC (cxOf (L2.CX P w) P w K mg base ["stock", "skeleton", "is_great", "lengths", "jumps", "found", "jump", "way", "reach"] "_law_program" (defScope (topS 29)) a cdv A outer s H E) (wishOf mg K E) 3 → HB (cxOf (L2.CX P w) P w K mg base ["stock", "skeleton", "is_great", "lengths", "jumps", "found", "jump", "way", "reach"] "_law_program" (defScope (topS 29)) a cdv A outer s H E) (wishOf mg K E) (defBody (topS 29)) B_law_program := by
    intro cdv A outer s H E c
    exact hb_cons (hs_par3 (i := 3) (j := 4) (l := 5) c rfl rfl rfl (by decide) (by decide) (by decide) rfl rfl rfl (ha_cons (he_call (h0.mono (by decide)) c rfl g0 k0 b0 (ha_cons (he_var (i := 0) rfl (Or.inl rfl)) (ha_cons (he_var (i := 1) rfl (Or.inl rfl)) (ha_cons (he_var (i := 2) rfl (Or.inl rfl)) (ha_nil))))) (ha_cons (he_call (h1.mono (by decide)) c rfl g1 k1 b1 (ha_cons (he_var (i := 1) rfl (Or.inl rfl)) (ha_nil))) (ha_cons (he_lst (ha_nil)) (ha_nil)))) (by rfl)) (hb_cons (hs_I (sForI_eq _ _ _) (hs_for c.po c.calm (hi_seq (he_var (i := 4) rfl (Or.inl rfl))) (hg_name c.nd rfl (Or.inl rfl)) (hb_cons (hs_set (i := 7) c.nd rfl (Or.inl rfl) (he_call (h2.mono (by decide)) c rfl g2 k2 b2 (ha_cons (he_var (i := 1) rfl (Or.inl rfl)) (ha_cons (he_var (i := 3) rfl (Or.inl rfl)) (ha_cons (he_call (h4.mono (by decide)) c rfl g4 k4 b4 (ha_cons (he_var (i := 0) rfl (Or.inl rfl)) (ha_cons (he_var (i := 4) rfl (Or.inl rfl)) (ha_nil)))) (ha_cons (he_var (i := 6) rfl (Or.inl rfl)) (ha_nil))))))) (hb_cons (hs_set (i := 8) c.nd rfl (Or.inl rfl) (he_call (h3.mono (by decide)) c rfl g3 k3 b3 (ha_cons (he_var (i := 0) rfl (Or.inl rfl)) (ha_cons (he_lst (ha_cons (he_var (i := 7) rfl (Or.inl rfl)) (ha_cons (he_var (i := 7) rfl (Or.inl rfl)) (ha_cons (he_op og_sub (he_var (i := 7) rfl (Or.inl rfl)) (he_int)) (ha_cons (he_op og_sub (he_var (i := 7) rfl (Or.inl rfl)) (he_int)) (ha_cons (he_op og_sub (he_var (i := 7) rfl (Or.inl rfl)) (he_int)) (ha_cons (he_op og_add (he_var (i := 7) rfl (Or.inl rfl)) (he_int)) (ha_cons (he_call (h5.mono (by decide)) c rfl g5 k5 b5 (ha_cons (he_var (i := 0) rfl (Or.inl rfl)) (ha_cons (he_int) (ha_nil)))) (ha_cons (he_op og_pow (he_int) (he_int)) (ha_nil)))))))))) (ha_nil))))) (hb_one (hs_expr (he_meth PySem.F.plainAttrs_list PySem.F.slot_list_append PySem.F.type_list_append mg_append (he_var (i := 5) rfl (Or.inl rfl)) (ha_cons (he_callB (cg_min c) rfl T.z_min (by decide +kernel) (ha_cons (he_callB (cg_maxU c) rfl T.z_max (by decide +kernel) (ha_cons (he_int) (ha_cons (he_var (i := 8) rfl (Or.inl rfl)) (ha_nil)))) (ha_cons (he_op og_pow (he_int) (he_int)) (ha_nil)))) (ha_nil))))))))) (hb_one (hs_ret (he_tup (ha_cons (he_var (i := 1) rfl (Or.inl rfl)) (ha_cons (he_var (i := 3) rfl (Or.inl rfl)) (ha_cons (he_callTy cg_tuple rfl T.z_tuple (by decide +kernel) (ha_cons (he_var (i := 5) rfl (Or.inl rfl)) (ha_nil))) (ha_nil))))))))
  have q2 := fnG_fun (b := B_law_program) F sc_law_program S q
  have q3 := F.binds (ps := ["stock", "skeleton", "is_great"]) (fun _ _ _ _ _ _ us hl => match us, hl with | [_, _, _], _ => rfl)
  exact ⟨a, fd, F, hm, F.kp, q3, q2⟩

theorem sc_law_held : FnScope ["program", "choice", "skeleton", "lengths", "reaches", "found", "jump", "reach"] ["program", "choice"] (defScope (topS 30)) := ⟨rfl, rfl, rfl, by decide +kernel, rfl, by decide +kernel, by decide +kernel⟩
theorem ok_law_held (T : Txt K mg) (S : SysD base) : OkF P w K mg base "_law_held" (topS 30) ["program", "choice"] 3 M_law_held := by
  obtain ⟨a0, fd0, F0, g0, k0, b0, h0⟩ := ok_law_jumps (P := P) (w := w) (base := base) T S
  obtain ⟨a1, fd1, F1, g1, k1, b1, h1⟩ := ok_law_way (P := P) (w := w) (base := base) T S
  obtain ⟨a, fd, hm, F⟩ := T.f__law_held
  have q : ∀ (cdv : Value) (A : Around) (outer : List Env) (s : Shared) (H : Hp) (E : XK), GC (cxOf (L2.CX P w) P w K mg base ["program", "choice", "skeleton", "lengths", "reaches", "found", "jump", "reach"] "_law_held" (defScope (topS 30)) a cdv A outer s H E) (wishOf mg K E) 2 → HB (cxOf (L2.CX P w) P w K mg base ["program", "choice", "skeleton", "lengths", "reaches", "found", "jump", "reach"] "_law_held" (defScope (topS 30)) a cdv A outer s H E) (wishOf mg K E) (defBody (topS 30)) B_law_held := by
    intro cdv A outer s H E c
    exact hb_cons (hs_asg (he_var (i := 0) rfl (Or.inl rfl)) (hg_tup (sl := [2, 3, 4]) c.calm (hgs_cons c.nd rfl (Or.inl rfl) (by decide) (hgs_cons c.nd rfl (Or.inl rfl) (by decide) (hgs_cons c.nd rfl (Or.inl rfl) (by decide) (hgs_nil)))))) (hb_cons (hs_set (i := 5) c.nd rfl (Or.inl rfl) (he_lst (ha_nil))) (hb_cons (hs_I (sForI_eq _ _ _) (hs_for c.po c.calm (hi_zipL rfl T.z_zip (ha_cons (he_call (h0.mono (by decide)) c rfl g0 k0 b0 (ha_cons (he_var (i := 2) rfl (Or.inl rfl)) (ha_nil))) (ha_cons (he_var (i := 4) rfl (Or.inl rfl)) (ha_nil)))) (hg_tup (sl := [6, 7]) c.calm (hgs_cons c.nd rfl (Or.inl rfl) (by decide) (hgs_cons c.nd rfl (Or.inl rfl) (by decide) (hgs_nil)))) (hb_one (hs_if (HW.ht (hw_and (ht_cmp (og_notin c) (he_var (i := 6) rfl (Or.inl rfl)) (he_var (i := 1) rfl (Or.inl rfl)) (by rfl)) (hw_and1 (ht_cmp og_gt (he_call (h1.mono (by decide)) c rfl g1 k1 b1 (ha_cons (he_var (i := 2) rfl (Or.inl rfl)) (ha_cons (he_var (i := 3) rfl (Or.inl rfl)) (ha_cons (he_var (i := 1) rfl (Or.inl rfl)) (ha_cons (he_var (i := 6) rfl (Or.inl rfl)) (ha_nil)))))) (he_var (i := 7) rfl (Or.inl rfl)) (nomark _))))) (hb_one (hs_expr (he_meth PySem.F.plainAttrs_list PySem.F.slot_list_append PySem.F.type_list_append mg_append (he_var (i := 5) rfl (Or.inl rfl)) (ha_cons (he_var (i := 6) rfl (Or.inl rfl)) (ha_nil))))) (hb_nil))))) (hb_one (hs_ret (he_callTy cg_tuple rfl T.z_tuple (by decide +kernel) (ha_cons (he_var (i := 5) rfl (Or.inl rfl)) (ha_nil)))))))
  have q2 := fnG_fun (b := B_law_held) F sc_law_held S q
  have q3 := F.binds (ps := ["program", "choice"]) (fun _ _ _ _ _ _ us hl => match us, hl with | [_, _], _ => rfl)
  exact ⟨a, fd, F, hm, F.kp, q3, q2⟩

theorem sc_law_leaves : FnScope ["program", "choice", "found", "jump", "own"] ["program", "choice"] (defScope (topS 31)) := ⟨rfl, rfl, rfl, by decide +kernel, rfl, by decide +kernel, by decide +kernel⟩
theorem ok_law_leaves (T : Txt K mg) (S : SysD base) : OkF P w K mg base "_law_leaves" (topS 31) ["program", "choice"] 4 M_law_leaves := by
  obtain ⟨a0, fd0, F0, g0, k0, b0, h0⟩ := ok_law_held (P := P) (w := w) (base := base) T S
  obtain ⟨a, fd, hm, F⟩ := T.f__law_leaves
  have q : ∀ (cdv : Value) (A : Around) (outer : List Env) (s : Shared) (H : Hp) (E : XK), GC (cxOf (L2.CX P w) P w K mg base ["program", "choice", "found", "jump", "own"] "_law_leaves" (defScope (topS 31)) a cdv A outer s H E) (wishOf mg K E) 3 → HB (cxOf (L2.CX P w) P w K mg base ["program", "choice", "found", "jump", "own"] "_law_leaves" (defScope (topS 31)) a cdv A outer s H E) (wishOf mg K E) (defBody (topS 31)) B_law_leaves := by
    intro cdv A outer s H E c
    exact hb_cons (hs_set (i := 2) c.nd rfl (Or.inl rfl) (he_lst (ha_nil))) (hb_cons (hs_I (sForI_eq _ _ _) (hs_for c.po c.calm (hi_seq (he_var (i := 1) rfl (Or.inl rfl))) (hg_name c.nd rfl (Or.inr rfl)) (hb_one (hs_if (ht_cmp (og_eq c) (he_call (h0.mono (by decide)) c rfl g0 k0 b0 (ha_cons (he_var (i := 0) rfl (Or.inl rfl)) (ha_cons (he_callTy cg_tuple rfl T.z_tuple (by decide +kernel) (ha_cons (he_I (mLcI_eq _ _ _ _ _) (he_lc (own := [("own", 4)]) c (hi_seq (he_var (i := 1) rfl (Or.inl rfl))) (by kernel_rfl) (fun s1 H1 C1 cl1 fp1 => hg_name (GC.blk c s1 H1 _ _ fp1).nd rfl (Or.inl rfl)) (fun s1 H1 C1 cl1 fp1 => hts_one (ht_cmp (og_ne (GC.blk c s1 H1 _ _ fp1)) (he_var (i := 4) rfl (Or.inl rfl)) (he_var (i := 3) rfl (Or.inr (Or.inl rfl))) (nomark _))) (fun s1 H1 C1 cl1 fp1 => he_var (i := 4) rfl (Or.inl rfl)))) (ha_nil))) (ha_nil)))) (he_tup (ha_nil)) (nomark _)) (hb_one (hs_expr (he_meth PySem.F.plainAttrs_list PySem.F.slot_list_append PySem.F.type_list_append mg_append (he_var (i := 2) rfl (Or.inl rfl)) (ha_cons (he_var (i := 3) rfl (Or.inr (Or.inl rfl))) (ha_nil))))) (hb_nil))))) (hb_one (hs_ret (he_var (i := 2) rfl (Or.inl rfl)))))
  have q2 := fnG_fun (b := B_law_leaves) F sc_law_leaves S q
  have q3 := F.binds (ps := ["program", "choice"]) (fun _ _ _ _ _ _ us hl => match us, hl with | [_, _], _ => rfl)
  exact ⟨a, fd, F, hm, F.kp, q3, q2⟩

theorem sc_law_are_jumps : FnScope ["value", "own"] ["value"] (defScope (topS 32)) := ⟨rfl, rfl, rfl, by decide +kernel, rfl, by decide +kernel, by decide +kernel⟩
theorem ok_law_are_jumps (T : Txt K mg) (S : SysD base) : OkF P w K mg base "_law_are_jumps" (topS 32) ["value"] 1 M_law_are_jumps := by
  obtain ⟨a, fd, hm, F⟩ := T.f__law_are_jumps
  have q : ∀ (cdv : Value) (A : Around) (outer : List Env) (s : Shared) (H : Hp) (E : XK), GC (cxOf (L2.CX P w) P w K mg base ["value", "own"] "_law_are_jumps" (defScope (topS 32)) a cdv A outer s H E) (wishOf mg K E) 0 → HB (cxOf (L2.CX P w) P w K mg base ["value", "own"] "_law_are_jumps" (defScope (topS 32)) a cdv A outer s H E) (wishOf mg K E) (defBody (topS 32)) B_law_are_jumps := by
    intro cdv A outer s H E c
    exact hb_cons (hs_if (ht_not (ht_truth (he_callB cg_isi rfl T.z_isinstance (by decide +kernel) (ha_cons (he_var (i := 0) rfl (Or.inl rfl)) (ha_cons (he_type rfl T.z_tuple (by decide +kernel)) (ha_nil)))))) (hb_one (hs_ret (he_bl))) (hb_nil)) (hb_one (hs_ret (he_cmp (og_eq c) (he_I (mLcI_eq _ _ _ _ _) (he_lc (own := [("own", 1)]) c (hi_seq (he_var (i := 0) rfl (Or.inl rfl))) (by kernel_rfl) (fun s1 H1 C1 cl1 fp1 => hg_name (GC.blk c s1 H1 _ _ fp1).nd rfl (Or.inl rfl)) (fun s1 H1 C1 cl1 fp1 => hts_one (HW.ht (hw_or (ht_truth (he_callB cg_isi rfl T.z_isinstance (by decide +kernel) (ha_cons (he_var (i := 1) rfl (Or.inl rfl)) (ha_cons (he_type rfl T.z_bool (by decide +kernel)) (ha_nil))))) (hw_or1 (ht_not (ht_truth (he_callB cg_isi rfl T.z_isinstance (by decide +kernel) (ha_cons (he_var (i := 1) rfl (Or.inl rfl)) (ha_cons (he_type rfl T.z_int (by decide +kernel)) (ha_nil)))))))))) (fun s1 H1 C1 cl1 fp1 => he_int))) (he_lst (ha_nil)) (nomark _))))
  have q2 := fnG_fun (b := B_law_are_jumps) F sc_law_are_jumps S q
  have q3 := F.binds (ps := ["value"]) (fun _ _ _ _ _ _ us hl => match us, hl with | [_], _ => rfl)
  exact ⟨a, fd, F, hm, F.kp, q3, q2⟩

theorem sc_law_is_growing : FnScope ["program", "value", "long_ones", "held", "jump"] ["program", "value"] (defScope (topS 33)) := ⟨rfl, rfl, rfl, by decide +kernel, rfl, by decide +kernel, by decide +kernel⟩
theorem ok_law_is_growing (T : Txt K mg) (S : SysD base) : OkF P w K mg base "_law_is_growing" (topS 33) ["program", "value"] 4 M_law_is_growing := by
  obtain ⟨a0, fd0, F0, g0, k0, b0, h0⟩ := ok_law_are_jumps (P := P) (w := w) (base := base) T S
  obtain ⟨a1, fd1, F1, g1, k1, b1, h1⟩ := ok_law_held (P := P) (w := w) (base := base) T S
  obtain ⟨a, fd, hm, F⟩ := T.f__law_is_growing
  have q : ∀ (cdv : Value) (A : Around) (outer : List Env) (s : Shared) (H : Hp) (E : XK), GC (cxOf (L2.CX P w) P w K mg base ["program", "value", "long_ones", "held", "jump"] "_law_is_growing" (defScope (topS 33)) a cdv A outer s H E) (wishOf mg K E) 3 → HB (cxOf (L2.CX P w) P w K mg base ["program", "value", "long_ones", "held", "jump"] "_law_is_growing" (defScope (topS 33)) a cdv A outer s H E) (wishOf mg K E) (defBody (topS 33)) B_law_is_growing := by
    intro cdv A outer s H E c
    exact hb_cons (hs_if (ht_not (ht_truth (he_call (h0.mono (by decide)) c rfl g0 k0 b0 (ha_cons (he_var (i := 1) rfl (Or.inl rfl)) (ha_nil))))) (hb_one (hs_ret (he_bl))) (hb_nil)) (hb_cons (hs_par (i := 2) (j := 3) c rfl rfl (by decide) rfl rfl (ha_cons (he_tup (ha_nil)) (ha_cons (he_call (h1.mono (by decide)) c rfl g1 k1 b1 (ha_cons (he_var (i := 0) rfl (Or.inl rfl)) (ha_cons (he_tup (ha_nil)) (ha_nil)))) (ha_nil))) (by rfl)) (hb_cons (hs_I (sForI_eq _ _ _) (hs_for c.po c.calm (hi_seq (he_var (i := 1) rfl (Or.inl rfl))) (hg_name c.nd rfl (Or.inl rfl)) (hb_cons (hs_if (ht_cmp (og_notin c) (he_var (i := 4) rfl (Or.inl rfl)) (he_var (i := 3) rfl (Or.inl rfl)) (by rfl)) (hb_one (hs_ret (he_bl))) (hb_nil)) (hb_cons (hs_set (i := 2) c.nd rfl (Or.inl rfl) (he_callTy cg_tuple rfl T.z_tuple (by decide +kernel) (ha_cons (he_callB cg_sortedT rfl T.z_sorted (by decide +kernel) (ha_cons (he_op og_add (he_var (i := 2) rfl (Or.inl rfl)) (he_tup (ha_cons (he_var (i := 4) rfl (Or.inl rfl)) (ha_nil)))) (ha_nil))) (ha_nil)))) (hb_one (hs_set (i := 3) c.nd rfl (Or.inl rfl) (he_call (h1.mono (by decide)) c rfl g1 k1 b1 (ha_cons (he_var (i := 0) rfl (Or.inl rfl)) (ha_cons (he_var (i := 2) rfl (Or.inl rfl)) (ha_nil)))))))))) (hb_one (hs_ret (he_cmp (og_eq c) (he_var (i := 3) rfl (Or.inl rfl)) (he_tup (ha_nil)) (nomark _))))))
  have q2 := fnG_fun (b := B_law_is_growing) F sc_law_is_growing S q
  have q3 := F.binds (ps := ["program", "value"]) (fun _ _ _ _ _ _ us hl => match us, hl with | [_, _], _ => rfl)
  exact ⟨a, fd, F, hm, F.kp, q3, q2⟩

theorem sc_law_is_shrinking : FnScope ["program", "value", "long_ones", "free", "jump", "own"] ["program", "value"] (defScope (topS 34)) := ⟨rfl, rfl, rfl, by decide +kernel, rfl, by decide +kernel, by decide +kernel⟩
theorem ok_law_is_shrinking (T : Txt K mg) (S : SysD base) : OkF P w K mg base "_law_is_shrinking" (topS 34) ["program", "value"] 5 M_law_is_shrinking := by
  obtain ⟨a0, fd0, F0, g0, k0, b0, h0⟩ := ok_law_leaves (P := P) (w := w) (base := base) T S
  obtain ⟨a1, fd1, F1, g1, k1, b1, h1⟩ := ok_law_are_jumps (P := P) (w := w) (base := base) T S
  obtain ⟨a2, fd2, F2, g2, k2, b2, h2⟩ := ok_law_jumps (P := P) (w := w) (base := base) T S
  obtain ⟨a, fd, hm, F⟩ := T.f__law_is_shrinking
  have q : ∀ (cdv : Value) (A : Around) (outer : List Env) (s : Shared) (H : Hp) (E : XK), GC (cxOf (L2.CX P w) P w K mg base ["program", "value", "long_ones", "free", "jump", "own"] "_law_is_shrinking" (defScope (topS 34)) a cdv A outer s H E) (wishOf mg K E) 4 → HB (cxOf (L2.CX P w) P w K mg base ["program", "value", "long_ones", "free", "jump", "own"] "_law_is_shrinking" (defScope (topS 34)) a cdv A outer s H E) (wishOf mg K E) (defBody (topS 34)) B_law_is_shrinking := by
    intro cdv A outer s H E c
    exact hb_cons (hs_if (ht_not (ht_truth (he_call (h1.mono (by decide)) c rfl g1 k1 b1 (ha_cons (he_var (i := 1) rfl (Or.inl rfl)) (ha_nil))))) (hb_one (hs_ret (he_bl))) (hb_nil)) (hb_cons (hs_set (i := 2) c.nd rfl (Or.inl rfl) (he_callTy cg_tuple rfl T.z_tuple (by decide +kernel) (ha_cons (he_call (h2.mono (by decide)) c rfl g2 k2 b2 (ha_cons (he_ix c.hu (he_var (i := 0) rfl (Or.inl rfl)) (he_int) (fun _ _ => rfl)) (ha_nil))) (ha_nil)))) (hb_cons (hs_set (i := 3) c.nd rfl (Or.inl rfl) (he_call (h0.mono (by decide)) c rfl g0 k0 b0 (ha_cons (he_var (i := 0) rfl (Or.inl rfl)) (ha_cons (he_var (i := 2) rfl (Or.inl rfl)) (ha_nil))))) (hb_cons (hs_I (sForI_eq _ _ _) (hs_for c.po c.calm (hi_seq (he_var (i := 1) rfl (Or.inl rfl))) (hg_name c.nd rfl (Or.inr rfl)) (hb_cons (hs_if (ht_cmp (og_notin c) (he_var (i := 4) rfl (Or.inr (Or.inl rfl))) (he_var (i := 3) rfl (Or.inl rfl)) (by rfl)) (hb_one (hs_ret (he_bl))) (hb_nil)) (hb_cons (hs_set (i := 2) c.nd rfl (Or.inl rfl) (he_callTy cg_tuple rfl T.z_tuple (by decide +kernel) (ha_cons (he_I (mLcI_eq _ _ _ _ _) (he_lc (own := [("own", 5)]) c (hi_seq (he_var (i := 2) rfl (Or.inl rfl))) (by kernel_rfl) (fun s1 H1 C1 cl1 fp1 => hg_name (GC.blk c s1 H1 _ _ fp1).nd rfl (Or.inl rfl)) (fun s1 H1 C1 cl1 fp1 => hts_one (ht_cmp (og_ne (GC.blk c s1 H1 _ _ fp1)) (he_var (i := 5) rfl (Or.inl rfl)) (he_var (i := 4) rfl (Or.inr (Or.inl rfl))) (nomark _))) (fun s1 H1 C1 cl1 fp1 => he_var (i := 5) rfl (Or.inl rfl)))) (ha_nil)))) (hb_one (hs_set (i := 3) c.nd rfl (Or.inl rfl) (he_call (h0.mono (by decide)) c rfl g0 k0 b0 (ha_cons (he_var (i := 0) rfl (Or.inl rfl)) (ha_cons (he_var (i := 2) rfl (Or.inl rfl)) (ha_nil)))))))))) (hb_one (hs_ret (he_cmp (og_eq c) (he_var (i := 3) rfl (Or.inl rfl)) (he_lst (ha_nil)) (nomark _)))))))
  have q2 := fnG_fun (b := B_law_is_shrinking) F sc_law_is_shrinking S q
  have q3 := F.binds (ps := ["program", "value"]) (fun _ _ _ _ _ _ us hl => match us, hl with | [_, _], _ => rfl)
  exact ⟨a, fd, F, hm, F.kp, q3, q2⟩

theorem sc_law_row : FnScope ["stock", "program", "is_growing", "jumps", "row", "long_ones", "turn", "free", "jump", "rest", "own"] ["stock", "program", "is_growing"] (defScope (topS 35)) := ⟨rfl, rfl, rfl, by decide +kernel, rfl, by decide +kernel, by decide +kernel⟩
theorem ok_law_row (T : Txt K mg) (S : SysD base) : OkF P w K mg base "_law_row" (topS 35) ["stock", "program", "is_growing"] 5 M_law_row := by
  obtain ⟨a0, fd0, F0, g0, k0, b0, h0⟩ := ok_law_jumps (P := P) (w := w) (base := base) T S
  obtain ⟨a1, fd1, F1, g1, k1, b1, h1⟩ := ok_law_held (P := P) (w := w) (base := base) T S
  obtain ⟨a2, fd2, F2, g2, k2, b2, h2⟩ := ok_law_leaves (P := P) (w := w) (base := base) T S
  obtain ⟨a3, fd3, F3, g3, k3, b3, h3⟩ := ok_law_pick (P := P) (w := w) (base := base) T S
  obtain ⟨a, fd, hm, F⟩ := T.f__law_row
  have q : ∀ (cdv : Value) (A : Around) (outer : List Env) (s : Shared) (H : Hp) (E : XK), GC (cxOf (L2.CX P w) P w K mg base ["stock", "program", "is_growing", "jumps", "row", "long_ones", "turn", "free", "jump", "rest", "own"] "_law_row" (defScope (topS 35)) a cdv A outer s H E) (wishOf mg K E) 4 → HB (cxOf (L2.CX P w) P w K mg base ["stock", "program", "is_growing", "jumps", "row", "long_ones", "turn", "free", "jump", "rest", "own"] "_law_row" (defScope (topS 35)) a cdv A outer s H E) (wishOf mg K E) (defBody (topS 35)) B_law_row := by
    intro cdv A outer s H E c
    exact hb_cons (hs_par (i := 3) (j := 4) c rfl rfl (by decide) rfl rfl (ha_cons (he_call (h0.mono (by decide)) c rfl g0 k0 b0 (ha_cons (he_ix c.hu (he_var (i := 1) rfl (Or.inl rfl)) (he_int) (fun _ _ => rfl)) (ha_nil))) (ha_cons (he_lst (ha_nil)) (ha_nil))) (by rfl)) (hb_cons (hs_set (i := 5) c.nd rfl (Or.inl rfl) (he_if (ht_truth (he_var (i := 2) rfl (Or.inl rfl))) (he_tup (ha_nil)) (he_callTy cg_tuple rfl T.z_tuple (by decide +kernel) (ha_cons (he_var (i := 3) rfl (Or.inl rfl)) (ha_nil))))) (hb_cons (hs_I (sForI_eq _ _ _) (hs_for c.po c.calm (hi_range1 rfl T.z_range (ha_cons (he_callB cg_len rfl T.z_len (by decide +kernel) (ha_cons (he_var (i := 3) rfl (Or.inl rfl)) (ha_nil))) (ha_nil))) (hg_name c.nd rfl (Or.inl rfl)) (hb_cons (hs_set (i := 7) c.nd rfl (Or.inl rfl) (he_if (ht_truth (he_var (i := 2) rfl (Or.inl rfl))) (he_call (h1.mono (by decide)) c rfl g1 k1 b1 (ha_cons (he_var (i := 1) rfl (Or.inl rfl)) (ha_cons (he_var (i := 5) rfl (Or.inl rfl)) (ha_nil)))) (he_call (h2.mono (by decide)) c rfl g2 k2 b2 (ha_cons (he_var (i := 1) rfl (Or.inl rfl)) (ha_cons (he_var (i := 5) rfl (Or.inl rfl)) (ha_nil)))))) (hb_one (hs_if (ht_cmp og_gt (he_callB cg_len rfl T.z_len (by decide +kernel) (ha_cons (he_var (i := 7) rfl (Or.inl rfl)) (ha_nil))) (he_int) (nomark _)) (hb_cons (hs_set (i := 8) c.nd rfl (Or.inr rfl) (he_call (h3.mono (by decide)) c rfl g3 k3 b3 (ha_cons (he_var (i := 0) rfl (Or.inl rfl)) (ha_cons (he_callTy cg_list rfl T.z_list (by decide +kernel) (ha_cons (he_var (i := 7) rfl (Or.inl rfl)) (ha_nil))) (ha_nil))))) (hb_cons (hs_expr (he_meth PySem.F.plainAttrs_list PySem.F.slot_list_append PySem.F.type_list_append mg_append (he_var (i := 4) rfl (Or.inl rfl)) (ha_cons (he_var (i := 8) rfl (Or.inr (Or.inl rfl))) (ha_nil)))) (hb_cons (hs_I (setI_eq _ _ _ _ _ _) (hs_setLc (i := 9) (own := [("own", 10)]) c rfl rfl (sw_true rfl rfl rfl (by decide +kernel)) (hi_seq (he_var (i := 5) rfl (Or.inl rfl))) (by kernel_rfl) (fun s1 H1 C1 cl1 fp1 => hg_name (GC.blk c s1 H1 _ _ fp1).nd rfl (Or.inl rfl)) (fun s1 H1 C1 cl1 fp1 => hts_one (ht_cmp (og_ne (GC.blk c s1 H1 _ _ fp1)) (he_var (i := 10) rfl (Or.inl rfl)) (he_var (i := 8) rfl (Or.inr (Or.inl rfl))) (nomark _))) (fun s1 H1 C1 cl1 fp1 => he_var (i := 10) rfl (Or.inl rfl)))) (hb_one (hs_set (i := 5) c.nd rfl (Or.inl rfl) (he_callTy cg_tuple rfl T.z_tuple (by decide +kernel) (ha_cons (he_callB cg_sorted rfl T.z_sorted (by decide +kernel) (ha_cons (he_op og_add (he_var (i := 9) rfl (Or.inl rfl)) (he_if (ht_truth (he_var (i := 2) rfl (Or.inl rfl))) (he_lst (ha_cons (he_var (i := 8) rfl (Or.inr (Or.inl rfl))) (ha_nil))) (he_lst (ha_nil)))) (ha_nil))) (ha_nil)))))))) (hb_nil)))))) (hb_one (hs_ret (he_callTy cg_tuple rfl T.z_tuple (by decide +kernel) (ha_cons (he_var (i := 4) rfl (Or.inl rfl)) (ha_nil)))))))
  have q2 := fnG_fun (b := B_law_row) F sc_law_row S q
  have q3 := F.binds (ps := ["stock", "program", "is_growing"]) (fun _ _ _ _ _ _ us hl => match us, hl with | [_, _, _], _ => rfl)
  exact ⟨a, fd, F, hm, F.kp, q3, q2⟩

theorem sc_law_spoilt : FnScope ["stock", "program", "row", "spot", "jumps", "jump", "odd", "own"] ["stock", "program", "row"] (defScope (topS 36)) := ⟨rfl, rfl, rfl, by decide +kernel, rfl, by decide +kernel, by decide +kernel⟩
theorem ok_law_spoilt (T : Txt K mg) (S : SysD base) : OkF P w K mg base "_law_spoilt" (topS 36) ["stock", "program", "row"] 3 M_law_spoilt := by
  obtain ⟨a0, fd0, F0, g0, k0, b0, h0⟩ := ok_law_pick (P := P) (w := w) (base := base) T S
  obtain ⟨a1, fd1, F1, g1, k1, b1, h1⟩ := ok_law_draw (P := P) (w := w) (base := base) T S
  obtain ⟨a2, fd2, F2, g2, k2, b2, h2⟩ := ok_law_jumps (P := P) (w := w) (base := base) T S
  obtain ⟨a, fd, hm, F⟩ := T.f__law_spoilt
  have q : ∀ (cdv : Value) (A : Around) (outer : List Env) (s : Shared) (H : Hp) (E : XK), GC (cxOf (L2.CX P w) P w K mg base ["stock", "program", "row", "spot", "jumps", "jump", "odd", "own"] "_law_spoilt" (defScope (topS 36)) a cdv A outer s H E) (wishOf mg K E) 2 → HB (cxOf (L2.CX P w) P w K mg base ["stock", "program", "row", "spot", "jumps", "jump", "odd", "own"] "_law_spoilt" (defScope (topS 36)) a cdv A outer s H E) (wishOf mg K E) (defBody (topS 36)) B_law_spoilt := by
    intro cdv A outer s H E c
    exact hb_cons (hs_par (i := 3) (j := 4) c rfl rfl (by decide) rfl rfl (ha_cons (he_call (h1.mono (by decide)) c rfl g1 k1 b1 (ha_cons (he_var (i := 0) rfl (Or.inl rfl)) (ha_cons (he_op og_add (he_callB cg_len rfl T.z_len (by decide +kernel) (ha_cons (he_var (i := 2) rfl (Or.inl rfl)) (ha_nil))) (he_int)) (ha_nil)))) (ha_cons (he_op og_add (he_call (h2.mono (by decide)) c rfl g2 k2 b2 (ha_cons (he_ix c.hu (he_var (i := 1) rfl (Or.inl rfl)) (he_int) (fun _ _ => rfl)) (ha_nil))) (he_lst (ha_cons (he_int) (ha_cons (he_int) (ha_nil))))) (ha_nil))) (by rfl)) (hb_cons (hs_set (i := 5) c.nd rfl (Or.inl rfl) (he_call (h0.mono (by decide)) c rfl g0 k0 b0 (ha_cons (he_var (i := 0) rfl (Or.inl rfl)) (ha_cons (he_op og_add (he_var (i := 4) rfl (Or.inl rfl)) (he_lst (ha_cons (he_neg (he_int)) (ha_cons (he_int) (ha_cons (he_bl) (ha_cons (he_bl) (ha_cons (he_non) (ha_cons (he_str) (ha_cons (he_tup (ha_cons (he_int) (ha_nil))) (ha_cons (he_op og_pow (he_int) (he_int)) (ha_cons (he_lst (ha_cons (he_int) (ha_nil))) (ha_cons (he_dict0) (ha_nil))))))))))))) (ha_nil))))) (hb_cons (hs_set (i := 6) c.nd rfl (Or.inl rfl) (he_lst (ha_cons (he_op og_add (he_cut (he_var (i := 2) rfl (Or.inl rfl)) (ho_none) (ho_some (he_var (i := 3) rfl (Or.inl rfl)))) (he_cut (he_var (i := 2) rfl (Or.inl rfl)) (ho_some (he_op og_add (he_var (i := 3) rfl (Or.inl rfl)) (he_int))) (ho_none))) (ha_cons (he_op og_add (he_op og_add (he_cut (he_var (i := 2) rfl (Or.inl rfl)) (ho_none) (ho_some (he_var (i := 3) rfl (Or.inl rfl)))) (he_tup (ha_cons (he_var (i := 5) rfl (Or.inl rfl)) (ha_nil)))) (he_cut (he_var (i := 2) rfl (Or.inl rfl)) (ho_some (he_var (i := 3) rfl (Or.inl rfl))) (ho_none))) (ha_cons (he_op og_add (he_op og_add (he_cut (he_var (i := 2) rfl (Or.inl rfl)) (ho_none) (ho_some (he_var (i := 3) rfl (Or.inl rfl)))) (he_tup (ha_cons (he_var (i := 5) rfl (Or.inl rfl)) (ha_nil)))) (he_cut (he_var (i := 2) rfl (Or.inl rfl)) (ho_some (he_op og_add (he_var (i := 3) rfl (Or.inl rfl)) (he_int))) (ho_none))) (ha_nil)))))) (hb_cons (hs_set (i := 6) c.nd rfl (Or.inl rfl) (he_op og_add (he_var (i := 6) rfl (Or.inl rfl)) (he_lst (ha_cons (he_cut (he_var (i := 2) rfl (Or.inl rfl)) (ho_none) (ho_some (he_var (i := 3) rfl (Or.inl rfl)))) (ha_cons (he_rev (he_var (i := 2) rfl (Or.inl rfl))) (ha_cons (he_op og_add (he_var (i := 2) rfl (Or.inl rfl)) (he_var (i := 2) rfl (Or.inl rfl))) (ha_cons (he_cut (he_var (i := 2) rfl (Or.inl rfl)) (ho_some (he_int)) (ho_none)) (ha_cons (he_op og_add (he_var (i := 2) rfl (Or.inl rfl)) (he_cut (he_var (i := 2) rfl (Or.inl rfl)) (ho_none) (ho_some (he_int)))) (ha_cons (he_callTy cg_list rfl T.z_list (by decide +kernel) (ha_cons (he_var (i := 2) rfl (Or.inl rfl)) (ha_nil))) (ha_cons (he_tup (ha_cons (he_var (i := 2) rfl (Or.inl rfl)) (ha_nil))) (ha_cons (he_tup (ha_nil)) (ha_nil)))))))))))) (hb_cons (hs_expr (he_meth PySem.F.plainAttrs_list PySem.F.slot_list_append PySem.F.type_list_append mg_append (he_var (i := 6) rfl (Or.inl rfl)) (ha_cons (he_callTy cg_tuple rfl T.z_tuple (by decide +kernel) (ha_cons (he_I (mLcI_eq _ _ _ _ _) (he_lc (own := [("own", 7)]) c (hi_seq (he_var (i := 2) rfl (Or.inl rfl))) (by kernel_rfl) (fun s1 H1 C1 cl1 fp1 => hg_name (GC.blk c s1 H1 _ _ fp1).nd rfl (Or.inl rfl)) (fun s1 H1 C1 cl1 fp1 => hts_nil) (fun s1 H1 C1 cl1 fp1 => he_cmp (og_eq (GC.blk c s1 H1 _ _ fp1)) (he_var (i := 7) rfl (Or.inl rfl)) (he_int) (nomark _)))) (ha_nil))) (ha_nil)))) (hb_cons (hs_set (i := 6) c.nd rfl (Or.inl rfl) (he_op og_add (he_var (i := 6) rfl (Or.inl rfl)) (he_lst (ha_cons (he_callTy cg_tuple rfl T.z_tuple (by decide +kernel) (ha_cons (he_I (mLcI_eq _ _ _ _ _) (he_lc (own := [("own", 7)]) c (hi_seq (he_var (i := 2) rfl (Or.inl rfl))) (by kernel_rfl) (fun s2 H2 C2 cl2 fp2 => hg_name (GC.blk c s2 H2 _ _ fp2).nd rfl (Or.inl rfl)) (fun s2 H2 C2 cl2 fp2 => hts_nil) (fun s2 H2 C2 cl2 fp2 => he_if (ht_cmp og_lt (he_var (i := 7) rfl (Or.inl rfl)) (he_int) (nomark _)) (he_callTy cg_bool rfl T.z_bool (by decide +kernel) (ha_cons (he_var (i := 7) rfl (Or.inl rfl)) (ha_nil))) (he_var (i := 7) rfl (Or.inl rfl))))) (ha_nil))) (ha_cons (he_non) (ha_cons (he_str) (ha_cons (he_dict0) (ha_cons (he_int) (ha_cons (he_bl) (ha_cons (he_callTy cg_tuple rfl T.z_tuple (by decide +kernel) (ha_cons (he_callB cg_sortedT rfl T.z_sorted (by decide +kernel) (ha_cons (he_var (i := 2) rfl (Or.inl rfl)) (ha_nil))) (ha_nil))) (ha_nil))))))))))) (hb_one (hs_ret (he_call (h0.mono (by decide)) c rfl g0 k0 b0 (ha_cons (he_var (i := 0) rfl (Or.inl rfl)) (ha_cons (he_op og_add (he_var (i := 6) rfl (Or.inl rfl)) (he_lst (ha_cons (he_callTy cg_tuple rfl T.z_tuple (by decide +kernel) (ha_cons (he_cut (he_var (i := 4) rfl (Or.inl rfl)) (ho_none) (ho_some (he_neg (he_int)))) (ha_nil))) (ha_cons (he_rev (he_callTy cg_tuple rfl T.z_tuple (by decide +kernel) (ha_cons (he_cut (he_var (i := 4) rfl (Or.inl rfl)) (ho_none) (ho_some (he_neg (he_int)))) (ha_nil)))) (ha_cons (he_lst (ha_cons (he_lst (ha_cons (he_int) (ha_nil))) (ha_nil))) (ha_cons (he_tup (ha_cons (he_tup (ha_nil)) (ha_nil))) (ha_cons (he_tup (ha_cons (he_dict0) (ha_nil))) (ha_nil)))))))) (ha_nil)))))))))))
  have q2 := fnG_fun (b := B_law_spoilt) F sc_law_spoilt S q
  have q3 := F.binds (ps := ["stock", "program", "row"]) (fun _ _ _ _ _ _ us hl => match us, hl with | [_, _, _], _ => rfl)
  exact ⟨a, fd, F, hm, F.kp, q3, q2⟩

theorem sc_law_is_told : FnScope ["program", "value", "is_named", "known", "due", "told"] ["program", "value", "is_named"] (defScope (topS 37)) := ⟨rfl, rfl, rfl, by decide +kernel, rfl, by decide +kernel, by decide +kernel⟩
theorem ok_law_is_told {v : Nat → Addr} (T : Txt K mg) (S : SysD base) (hV0 : mg "_longer" = some (.ref (v 0))) (hV1 : mg "_shorter" = some (.ref (v 1))) : OkF P w K mg base "_law_is_told" (topS 37) ["program", "value", "is_named"] 8 (M_law_is_told v) := by
  obtain ⟨a0, fd0, F0, g0, k0, b0, h0⟩ := okrow_holds (P := P) (w := w) (base := base) T S hV0 hV1
  obtain ⟨a1, fd1, F1, g1, k1, b1, h1⟩ := okshrink_holds (P := P) (w := w) (base := base) T S hV0 hV1
  obtain ⟨a2, fd2, F2, g2, k2, b2, h2⟩ := ok_law_is_growing (P := P) (w := w) (base := base) T S
  obtain ⟨a3, fd3, F3, g3, k3, b3, h3⟩ := ok_law_is_shrinking (P := P) (w := w) (base := base) T S
  obtain ⟨a, fd, hm, F⟩ := T.f__law_is_told
  have q : ∀ (cdv : Value) (A : Around) (outer : List Env) (s : Shared) (H : Hp) (E : XK), GC (cxOf (L2.CX P w) P w K mg base ["program", "value", "is_named", "known", "due", "told"] "_law_is_told" (defScope (topS 37)) a cdv A outer s H E) (wishOf mg K E) 7 → HB (cxOf (L2.CX P w) P w K mg base ["program", "value", "is_named", "known", "due", "told"] "_law_is_told" (defScope (topS 37)) a cdv A outer s H E) (wishOf mg K E) (defBody (topS 37)) (B_law_is_told v) := by
    intro cdv A outer s H E c
    exact hb_cons (hs_par (i := 3) (j := 4) c rfl rfl (by decide) rfl rfl (ha_cons (he_callB (cg_repr c) rfl T.z_repr (by decide +kernel) (ha_cons (he_lst (ha_cons (he_var (i := 0) rfl (Or.inl rfl)) (ha_cons (he_var (i := 1) rfl (Or.inl rfl)) (ha_nil)))) (ha_nil))) (ha_cons (he_lst (ha_cons (he_call (h2.mono (by decide)) c rfl g2 k2 b2 (ha_cons (he_var (i := 0) rfl (Or.inl rfl)) (ha_cons (he_var (i := 1) rfl (Or.inl rfl)) (ha_nil)))) (ha_cons (he_call (h3.mono (by decide)) c rfl g3 k3 b3 (ha_cons (he_var (i := 0) rfl (Or.inl rfl)) (ha_cons (he_var (i := 1) rfl (Or.inl rfl)) (ha_nil)))) (ha_nil)))) (ha_nil))) (by rfl)) (hb_cons (hs_set (i := 5) c.nd rfl (Or.inl rfl) (he_lst (ha_cons (he_call (h0.mono (by decide)) c rfl g0 k0 b0 (ha_cons (he_var (i := 0) rfl (Or.inl rfl)) (ha_cons (he_var (i := 1) rfl (Or.inl rfl)) (ha_nil)))) (ha_cons (he_call (h1.mono (by decide)) c rfl g1 k1 b1 (ha_cons (he_var (i := 0) rfl (Or.inl rfl)) (ha_cons (he_var (i := 1) rfl (Or.inl rfl)) (ha_nil)))) (ha_nil))))) (hb_cons (hs_if (ht_truth (he_var (i := 2) rfl (Or.inl rfl))) (hb_one (hs_set (i := 5) c.nd rfl (Or.inl rfl) (he_lst (ha_cons (he_callK0 (h0.mono (by decide)) c rfl g0 k0 (kwB_of F0 (ks := ["value", "program"]) (np := 0) (perm := [1, 0]) fun _ _ _ _ _ _ us zs h1 h2 => match us, zs, h1, h2 with | [], [_, _], _, _ => rfl) (hk_cons (he_var (i := 1) rfl (Or.inl rfl)) (hk_cons (he_var (i := 0) rfl (Or.inl rfl)) (hk_nil)))) (ha_cons (he_callK0 (h1.mono (by decide)) c rfl g1 k1 (kwB_of F1 (ks := ["value", "program"]) (np := 0) (perm := [1, 0]) fun _ _ _ _ _ _ us zs h1 h2 => match us, zs, h1, h2 with | [], [_, _], _, _ => rfl) (hk_cons (he_var (i := 1) rfl (Or.inl rfl)) (hk_cons (he_var (i := 0) rfl (Or.inl rfl)) (hk_nil)))) (ha_nil)))))) (hb_nil)) (hb_one (hs_ret (he_and (he_cmp (og_eq c) (he_callB (cg_repr c) rfl T.z_repr (by decide +kernel) (ha_cons (he_var (i := 5) rfl (Or.inl rfl)) (ha_nil))) (he_callB (cg_repr c) rfl T.z_repr (by decide +kernel) (ha_cons (he_var (i := 4) rfl (Or.inl rfl)) (ha_nil))) (nomark _)) (he_one (he_cmp (og_eq c) (he_callB (cg_repr c) rfl T.z_repr (by decide +kernel) (ha_cons (he_lst (ha_cons (he_var (i := 0) rfl (Or.inl rfl)) (ha_cons (he_var (i := 1) rfl (Or.inl rfl)) (ha_nil)))) (ha_nil))) (he_var (i := 3) rfl (Or.inl rfl)) (nomark _))))))))
  have q2 := fnG_fun (b := (B_law_is_told v)) F sc_law_is_told S q
  have q3 := F.binds (ps := ["program", "value", "is_named"]) (fun _ _ _ _ _ _ us hl => match us, hl with | [_, _, _], _ => rfl)
  exact ⟨a, fd, F, hm, F.kp, q3, q2⟩

theorem sclaw : FnScope ["script", "stock", "turn", "skeleton", "program", "is_growing", "row", "again"] ["script"] (defScope (topS 38)) := ⟨rfl, rfl, rfl, by decide +kernel, rfl, by decide +kernel, by decide +kernel⟩
theorem oklaw {v : Nat → Addr} (T : Txt K mg) (S : SysD base) (hV0 : mg "_longer" = some (.ref (v 0))) (hV1 : mg "_shorter" = some (.ref (v 1))) : OkF P w K mg base "law" (topS 38) ["script"] 9 (Mlaw v) := by
  obtain ⟨a0, fd0, F0, g0, k0, b0, h0⟩ := ok_law_stock (P := P) (w := w) (base := base) T S
  obtain ⟨a1, fd1, F1, g1, k1, b1, h1⟩ := ok_law_skeleton (P := P) (w := w) (base := base) T S
  obtain ⟨a2, fd2, F2, g2, k2, b2, h2⟩ := ok_law_program (P := P) (w := w) (base := base) T S
  obtain ⟨a3, fd3, F3, g3, k3, b3, h3⟩ := ok_law_row (P := P) (w := w) (base := base) T S
  obtain ⟨a4, fd4, F4, g4, k4, b4, h4⟩ := ok_law_is_told (P := P) (w := w) (base := base) T S hV0 hV1
  obtain ⟨a5, fd5, F5, g5, k5, b5, h5⟩ := ok_law_spoilt (P := P) (w := w) (base := base) T S
  obtain ⟨a6, fd6, F6, g6, k6, b6, h6⟩ := ok_law_draw (P := P) (w := w) (base := base) T S
  obtain ⟨a, fd, hm, F⟩ := T.f_law
  have q : ∀ (cdv : Value) (A : Around) (outer : List Env) (s : Shared) (H : Hp) (E : XK), GC (cxOf (L2.CX P w) P w K mg base ["script", "stock", "turn", "skeleton", "program", "is_growing", "row", "again"] "law" (defScope (topS 38)) a cdv A outer s H E) (wishOf mg K E) 8 → HB (cxOf (L2.CX P w) P w K mg base ["script", "stock", "turn", "skeleton", "program", "is_growing", "row", "again"] "law" (defScope (topS 38)) a cdv A outer s H E) (wishOf mg K E) (defBody (topS 38)) (Blaw v) := by
    intro cdv A outer s H E c
    exact hb_cons (hs_set (i := 1) c.nd rfl (Or.inl rfl) (he_call (h0.mono (by decide)) c rfl g0 k0 b0 (ha_cons (he_var (i := 0) rfl (Or.inl rfl)) (ha_nil)))) (hb_cons (hs_I (sForI_eq _ _ _) (hs_for c.po c.calm (hi_range1 rfl T.z_range (ha_cons (he_int) (ha_nil))) (hg_name c.nd rfl (Or.inl rfl)) (hb_cons (hs_set (i := 3) c.nd rfl (Or.inl rfl) (he_call (h1.mono (by decide)) c rfl g1 k1 b1 (ha_cons (he_var (i := 1) rfl (Or.inl rfl)) (ha_cons (he_ix c.hu (he_lst (ha_cons (he_int) (ha_cons (he_int) (ha_cons (he_op og_add (he_int) (he_op og_mul (he_int) (he_callTy cg_int rfl T.z_int (by decide +kernel) (ha_cons (he_cmp (og_eq c) (he_call (h6.mono (by decide)) c rfl g6 k6 b6 (ha_cons (he_var (i := 1) rfl (Or.inl rfl)) (ha_cons (he_int) (ha_nil)))) (he_int) (nomark _)) (ha_nil))))) (ha_nil))))) (he_var (i := 2) rfl (Or.inl rfl)) (fun _ _ => rfl)) (ha_cons (he_int) (ha_nil)))))) (hb_cons (hs_set (i := 4) c.nd rfl (Or.inl rfl) (he_call (h2.mono (by decide)) c rfl g2 k2 b2 (ha_cons (he_var (i := 1) rfl (Or.inl rfl)) (ha_cons (he_var (i := 3) rfl (Or.inl rfl)) (ha_cons (he_cmp (og_eq c) (he_var (i := 2) rfl (Or.inl rfl)) (he_int) (nomark _)) (ha_nil)))))) (hb_one (hs_I (sForI_eq _ _ _) (hs_for c.po c.calm (hi_seq (he_tup (ha_cons (he_bl) (ha_cons (he_bl) (ha_nil))))) (hg_name c.nd rfl (Or.inl rfl)) (hb_cons (hs_set (i := 6) c.nd rfl (Or.inl rfl) (he_call (h3.mono (by decide)) c rfl g3 k3 b3 (ha_cons (he_var (i := 1) rfl (Or.inl rfl)) (ha_cons (he_var (i := 4) rfl (Or.inl rfl)) (ha_cons (he_var (i := 5) rfl (Or.inl rfl)) (ha_nil)))))) (hb_cons (hs_if (ht_not (ht_truth (he_call (h4.mono (by decide)) c rfl g4 k4 b4 (ha_cons (he_var (i := 4) rfl (Or.inl rfl)) (ha_cons (he_var (i := 6) rfl (Or.inl rfl)) (ha_cons (he_var (i := 5) rfl (Or.inl rfl)) (ha_nil))))))) (hb_one (hs_ret (he_bl))) (hb_nil)) (hb_one (hs_I (sForI_eq _ _ _) (hs_for c.po c.calm (hi_range1 rfl T.z_range (ha_cons (he_int) (ha_nil))) (hg_name c.nd rfl (Or.inl rfl)) (hb_one (hs_if (ht_not (ht_truth (he_call (h4.mono (by decide)) c rfl g4 k4 b4 (ha_cons (he_var (i := 4) rfl (Or.inl rfl)) (ha_cons (he_call (h5.mono (by decide)) c rfl g5 k5 b5 (ha_cons (he_var (i := 1) rfl (Or.inl rfl)) (ha_cons (he_var (i := 4) rfl (Or.inl rfl)) (ha_cons (he_var (i := 6) rfl (Or.inl rfl)) (ha_nil))))) (ha_cons (he_cmp (og_eq c) (he_var (i := 7) rfl (Or.inl rfl)) (he_var (i := 2) rfl (Or.inl rfl)) (nomark _)) (ha_nil))))))) (hb_one (hs_ret (he_bl))) (hb_nil))))))))))))))) (hb_one (hs_ret (he_bl))))
  have q2 := fnG_fun (b := (Blaw v)) F sclaw S q
  have q3 := F.binds (ps := ["script"]) (fun _ _ _ _ _ _ us hl => match us, hl with | [_], _ => rfl)
  exact ⟨a, fd, F, hm, F.kp, q3, q2⟩

end
theorem txt_mk {K : Fg} {h : Heap} {mg : Str → Option Value} (X : K.In h) (G : h.Ns mainGlobals mg)
    (z_bool : PySem.W.nsIn K mainGlobals "bool" = some none)
    (z_enumerate : PySem.W.nsIn K mainGlobals "enumerate" = some none)
    (z_int : PySem.W.nsIn K mainGlobals "int" = some none)
    (z_isinstance : PySem.W.nsIn K mainGlobals "isinstance" = some none)
    (z_len : PySem.W.nsIn K mainGlobals "len" = some none)
    (z_list : PySem.W.nsIn K mainGlobals "list" = some none)
    (z_max : PySem.W.nsIn K mainGlobals "max" = some none)
    (z_min : PySem.W.nsIn K mainGlobals "min" = some none)
    (z_range : PySem.W.nsIn K mainGlobals "range" = some none)
    (z_repr : PySem.W.nsIn K mainGlobals "repr" = some none)
    (z_sorted : PySem.W.nsIn K mainGlobals "sorted" = some none)
    (z_sum : PySem.W.nsIn K mainGlobals "sum" = some none)
    (z_tuple : PySem.W.nsIn K mainGlobals "tuple" = some none)
    (z_zip : PySem.W.nsIn K mainGlobals "zip" = some none)
    {f1 : Addr} {od1 an1 : Option Addr} {sl1 : Array (Option Value)} {oc1 kV1 dc1 pm1 cd1 ct1 : Value} (a1 : PySem.W.nsIn K mainGlobals "is_integer" = some (some (.ref f1))) (l1 : K.lookup f1 = some ⟨oc1, od1, .func (PySem.W.fnOf "is_integer" "is_integer" (defArgs (topS 1)) (defBody (topS 1)) (defScope (topS 1)) .none kV1 dc1 pm1 an1 cd1 ct1), sl1⟩) (q1 : PySem.W.codeIn K cd1 "is_integer" = true) (k1 : PySem.W.keepIn K (.ref f1) = true)
    {f3 : Addr} {od3 an3 : Option Addr} {sl3 : Array (Option Value)} {oc3 kV3 dc3 pm3 cd3 ct3 : Value} (a3 : PySem.W.nsIn K mainGlobals "jumps_of" = some (some (.ref f3))) (l3 : K.lookup f3 = some ⟨oc3, od3, .func (PySem.W.fnOf "jumps_of" "jumps_of" (defArgs (topS 3)) (defBody (topS 3)) (defScope (topS 3)) .none kV3 dc3 pm3 an3 cd3 ct3), sl3⟩) (q3 : PySem.W.codeIn K cd3 "jumps_of" = true) (k3 : PySem.W.keepIn K (.ref f3) = true)
    {f8 : Addr} {od8 an8 : Option Addr} {sl8 : Array (Option Value)} {oc8 kV8 dc8 pm8 cd8 ct8 : Value} (a8 : PySem.W.nsIn K mainGlobals "own_bytes" = some (some (.ref f8))) (l8 : K.lookup f8 = some ⟨oc8, od8, .func (PySem.W.fnOf "own_bytes" "own_bytes" (defArgs (topS 8)) (defBody (topS 8)) (defScope (topS 8)) .none kV8 dc8 pm8 an8 cd8 ct8), sl8⟩) (q8 : PySem.W.codeIn K cd8 "own_bytes" = true) (k8 : PySem.W.keepIn K (.ref f8) = true)
    {f5 : Addr} {od5 an5 : Option Addr} {sl5 : Array (Option Value)} {oc5 kV5 dc5 pm5 cd5 ct5 : Value} (a5 : PySem.W.nsIn K mainGlobals "laid" = some (some (.ref f5))) (l5 : K.lookup f5 = some ⟨oc5, od5, .func (PySem.W.fnOf "laid" "laid" (defArgs (topS 5)) (defBody (topS 5)) (defScope (topS 5)) .none kV5 dc5 pm5 an5 cd5 ct5), sl5⟩) (q5 : PySem.W.codeIn K cd5 "laid" = true) (k5 : PySem.W.keepIn K (.ref f5) = true)
    {f9 : Addr} {od9 an9 : Option Addr} {sl9 : Array (Option Value)} {oc9 kV9 dc9 pm9 cd9 ct9 : Value} (a9 : PySem.W.nsIn K mainGlobals "_way" = some (some (.ref f9))) (l9 : K.lookup f9 = some ⟨oc9, od9, .func (PySem.W.fnOf "_way" "_way" (defArgs (topS 9)) (defBody (topS 9)) (defScope (topS 9)) .none kV9 dc9 pm9 an9 cd9 ct9), sl9⟩) (q9 : PySem.W.codeIn K cd9 "_way" = true) (k9 : PySem.W.keepIn K (.ref f9) = true)
    {f7 : Addr} {od7 an7 : Option Addr} {sl7 : Array (Option Value)} {oc7 kV7 dc7 pm7 cd7 ct7 : Value} (a7 : PySem.W.nsIn K mainGlobals "stuck" = some (some (.ref f7))) (l7 : K.lookup f7 = some ⟨oc7, od7, .func (PySem.W.fnOf "stuck" "stuck" (defArgs (topS 7)) (defBody (topS 7)) (defScope (topS 7)) .none kV7 dc7 pm7 an7 cd7 ct7), sl7⟩) (q7 : PySem.W.codeIn K cd7 "stuck" = true) (k7 : PySem.W.keepIn K (.ref f7) = true)
    {f6 : Addr} {od6 an6 : Option Addr} {sl6 : Array (Option Value)} {oc6 kV6 dc6 pm6 cd6 ct6 : Value} (a6 : PySem.W.nsIn K mainGlobals "serves" = some (some (.ref f6))) (l6 : K.lookup f6 = some ⟨oc6, od6, .func (PySem.W.fnOf "serves" "serves" (defArgs (topS 6)) (defBody (topS 6)) (defScope (topS 6)) .none kV6 dc6 pm6 an6 cd6 ct6), sl6⟩) (q6 : PySem.W.codeIn K cd6 "serves" = true) (k6 : PySem.W.keepIn K (.ref f6) = true)
    {f14 : Addr} {od14 an14 : Option Addr} {sl14 : Array (Option Value)} {oc14 kV14 dc14 pm14 cd14 ct14 : Value} (a14 : PySem.W.nsIn K mainGlobals "_longer" = some (some (.ref f14))) (l14 : K.lookup f14 = some ⟨oc14, od14, .func (PySem.W.fnOf "_longer" "_longer" (defArgs (topS 14)) (defBody (topS 14)) (defScope (topS 14)) .none kV14 dc14 pm14 an14 cd14 ct14), sl14⟩) (q14 : PySem.W.codeIn K cd14 "_longer" = true) (k14 : PySem.W.keepIn K (.ref f14) = true)
    {f17 : Addr} {od17 an17 : Option Addr} {sl17 : Array (Option Value)} {oc17 kV17 dc17 pm17 cd17 ct17 : Value} (a17 : PySem.W.nsIn K mainGlobals "_shorter" = some (some (.ref f17))) (l17 : K.lookup f17 = some ⟨oc17, od17, .func (PySem.W.fnOf "_shorter" "_shorter" (defArgs (topS 17)) (defBody (topS 17)) (defScope (topS 17)) .none kV17 dc17 pm17 an17 cd17 ct17), sl17⟩) (q17 : PySem.W.codeIn K cd17 "_shorter" = true) (k17 : PySem.W.keepIn K (.ref f17) = true)
    {f11 : Addr} {od11 an11 : Option Addr} {sl11 : Array (Option Value)} {oc11 kV11 dc11 pm11 cd11 ct11 : Value} (a11 : PySem.W.nsIn K mainGlobals "is_row" = some (some (.ref f11))) (l11 : K.lookup f11 = some ⟨oc11, od11, .func (PySem.W.fnOf "is_row" "is_row" (defArgs (topS 11)) (defBody (topS 11)) (defScope (topS 11)) .none kV11 dc11 pm11 an11 cd11 ct11), sl11⟩) (q11 : PySem.W.codeIn K cd11 "is_row" = true) (k11 : PySem.W.keepIn K (.ref f11) = true)
    {f13 : Addr} {od13 an13 : Option Addr} {sl13 : Array (Option Value)} {oc13 kV13 dc13 pm13 cd13 ct13 : Value} (a13 : PySem.W.nsIn K mainGlobals "row_holds" = some (some (.ref f13))) (l13 : K.lookup f13 = some ⟨oc13, od13, .func (PySem.W.fnOf "row_holds" "row_holds" (defArgs (topS 13)) (defBody (topS 13)) (defScope (topS 13)) .none kV13 dc13 pm13 an13 cd13 ct13), sl13⟩) (q13 : PySem.W.codeIn K cd13 "row_holds" = true) (k13 : PySem.W.keepIn K (.ref f13) = true)
    {f16 : Addr} {od16 an16 : Option Addr} {sl16 : Array (Option Value)} {oc16 kV16 dc16 pm16 cd16 ct16 : Value} (a16 : PySem.W.nsIn K mainGlobals "shrink_holds" = some (some (.ref f16))) (l16 : K.lookup f16 = some ⟨oc16, od16, .func (PySem.W.fnOf "shrink_holds" "shrink_holds" (defArgs (topS 16)) (defBody (topS 16)) (defScope (topS 16)) .none kV16 dc16 pm16 an16 cd16 ct16), sl16⟩) (q16 : PySem.W.codeIn K cd16 "shrink_holds" = true) (k16 : PySem.W.keepIn K (.ref f16) = true)
    {f19 : Addr} {od19 an19 : Option Addr} {sl19 : Array (Option Value)} {oc19 kV19 dc19 pm19 cd19 ct19 : Value} (a19 : PySem.W.nsIn K mainGlobals "_law_stock" = some (some (.ref f19))) (l19 : K.lookup f19 = some ⟨oc19, od19, .func (PySem.W.fnOf "_law_stock" "_law_stock" (defArgs (topS 19)) (defBody (topS 19)) (defScope (topS 19)) .none kV19 dc19 pm19 an19 cd19 ct19), sl19⟩) (q19 : PySem.W.codeIn K cd19 "_law_stock" = true) (k19 : PySem.W.keepIn K (.ref f19) = true)
    {f20 : Addr} {od20 an20 : Option Addr} {sl20 : Array (Option Value)} {oc20 kV20 dc20 pm20 cd20 ct20 : Value} (a20 : PySem.W.nsIn K mainGlobals "_law_draw" = some (some (.ref f20))) (l20 : K.lookup f20 = some ⟨oc20, od20, .func (PySem.W.fnOf "_law_draw" "_law_draw" (defArgs (topS 20)) (defBody (topS 20)) (defScope (topS 20)) .none kV20 dc20 pm20 an20 cd20 ct20), sl20⟩) (q20 : PySem.W.codeIn K cd20 "_law_draw" = true) (k20 : PySem.W.keepIn K (.ref f20) = true)
    {f21 : Addr} {od21 an21 : Option Addr} {sl21 : Array (Option Value)} {oc21 kV21 dc21 pm21 cd21 ct21 : Value} (a21 : PySem.W.nsIn K mainGlobals "_law_pick" = some (some (.ref f21))) (l21 : K.lookup f21 = some ⟨oc21, od21, .func (PySem.W.fnOf "_law_pick" "_law_pick" (defArgs (topS 21)) (defBody (topS 21)) (defScope (topS 21)) .none kV21 dc21 pm21 an21 cd21 ct21), sl21⟩) (q21 : PySem.W.codeIn K cd21 "_law_pick" = true) (k21 : PySem.W.keepIn K (.ref f21) = true)
    {f22 : Addr} {od22 an22 : Option Addr} {sl22 : Array (Option Value)} {oc22 kV22 dc22 pm22 cd22 ct22 : Value} (a22 : PySem.W.nsIn K mainGlobals "_law_words" = some (some (.ref f22))) (l22 : K.lookup f22 = some ⟨oc22, od22, .func (PySem.W.fnOf "_law_words" "_law_words" (defArgs (topS 22)) (defBody (topS 22)) (defScope (topS 22)) .none kV22 dc22 pm22 an22 cd22 ct22), sl22⟩) (q22 : PySem.W.codeIn K cd22 "_law_words" = true) (k22 : PySem.W.keepIn K (.ref f22) = true)
    {f23 : Addr} {od23 an23 : Option Addr} {sl23 : Array (Option Value)} {oc23 kV23 dc23 pm23 cd23 ct23 : Value} (a23 : PySem.W.nsIn K mainGlobals "_law_skeleton" = some (some (.ref f23))) (l23 : K.lookup f23 = some ⟨oc23, od23, .func (PySem.W.fnOf "_law_skeleton" "_law_skeleton" (defArgs (topS 23)) (defBody (topS 23)) (defScope (topS 23)) .none kV23 dc23 pm23 an23 cd23 ct23), sl23⟩) (q23 : PySem.W.codeIn K cd23 "_law_skeleton" = true) (k23 : PySem.W.keepIn K (.ref f23) = true)
    {f24 : Addr} {od24 an24 : Option Addr} {sl24 : Array (Option Value)} {oc24 kV24 dc24 pm24 cd24 ct24 : Value} (a24 : PySem.W.nsIn K mainGlobals "_law_jumps" = some (some (.ref f24))) (l24 : K.lookup f24 = some ⟨oc24, od24, .func (PySem.W.fnOf "_law_jumps" "_law_jumps" (defArgs (topS 24)) (defBody (topS 24)) (defScope (topS 24)) .none kV24 dc24 pm24 an24 cd24 ct24), sl24⟩) (q24 : PySem.W.codeIn K cd24 "_law_jumps" = true) (k24 : PySem.W.keepIn K (.ref f24) = true)
    {f25 : Addr} {od25 an25 : Option Addr} {sl25 : Array (Option Value)} {oc25 kV25 dc25 pm25 cd25 ct25 : Value} (a25 : PySem.W.nsIn K mainGlobals "_law_laying" = some (some (.ref f25))) (l25 : K.lookup f25 = some ⟨oc25, od25, .func (PySem.W.fnOf "_law_laying" "_law_laying" (defArgs (topS 25)) (defBody (topS 25)) (defScope (topS 25)) .none kV25 dc25 pm25 an25 cd25 ct25), sl25⟩) (q25 : PySem.W.codeIn K cd25 "_law_laying" = true) (k25 : PySem.W.keepIn K (.ref f25) = true)
    {f26 : Addr} {od26 an26 : Option Addr} {sl26 : Array (Option Value)} {oc26 kV26 dc26 pm26 cd26 ct26 : Value} (a26 : PySem.W.nsIn K mainGlobals "_law_way" = some (some (.ref f26))) (l26 : K.lookup f26 = some ⟨oc26, od26, .func (PySem.W.fnOf "_law_way" "_law_way" (defArgs (topS 26)) (defBody (topS 26)) (defScope (topS 26)) .none kV26 dc26 pm26 an26 cd26 ct26), sl26⟩) (q26 : PySem.W.codeIn K cd26 "_law_way" = true) (k26 : PySem.W.keepIn K (.ref f26) = true)
    {f27 : Addr} {od27 an27 : Option Addr} {sl27 : Array (Option Value)} {oc27 kV27 dc27 pm27 cd27 ct27 : Value} (a27 : PySem.W.nsIn K mainGlobals "_law_lengths" = some (some (.ref f27))) (l27 : K.lookup f27 = some ⟨oc27, od27, .func (PySem.W.fnOf "_law_lengths" "_law_lengths" (defArgs (topS 27)) (defBody (topS 27)) (defScope (topS 27)) .none kV27 dc27 pm27 an27 cd27 ct27), sl27⟩) (q27 : PySem.W.codeIn K cd27 "_law_lengths" = true) (k27 : PySem.W.keepIn K (.ref f27) = true)
    {f28 : Addr} {od28 an28 : Option Addr} {sl28 : Array (Option Value)} {oc28 kV28 dc28 pm28 cd28 ct28 : Value} (a28 : PySem.W.nsIn K mainGlobals "_law_some" = some (some (.ref f28))) (l28 : K.lookup f28 = some ⟨oc28, od28, .func (PySem.W.fnOf "_law_some" "_law_some" (defArgs (topS 28)) (defBody (topS 28)) (defScope (topS 28)) .none kV28 dc28 pm28 an28 cd28 ct28), sl28⟩) (q28 : PySem.W.codeIn K cd28 "_law_some" = true) (k28 : PySem.W.keepIn K (.ref f28) = true)
    {f29 : Addr} {od29 an29 : Option Addr} {sl29 : Array (Option Value)} {oc29 kV29 dc29 pm29 cd29 ct29 : Value} (a29 : PySem.W.nsIn K mainGlobals "_law_program" = some (some (.ref f29))) (l29 : K.lookup f29 = some ⟨oc29, od29, .func (PySem.W.fnOf "_law_program" "_law_program" (defArgs (topS 29)) (defBody (topS 29)) (defScope (topS 29)) .none kV29 dc29 pm29 an29 cd29 ct29), sl29⟩) (q29 : PySem.W.codeIn K cd29 "_law_program" = true) (k29 : PySem.W.keepIn K (.ref f29) = true)
    {f30 : Addr} {od30 an30 : Option Addr} {sl30 : Array (Option Value)} {oc30 kV30 dc30 pm30 cd30 ct30 : Value} (a30 : PySem.W.nsIn K mainGlobals "_law_held" = some (some (.ref f30))) (l30 : K.lookup f30 = some ⟨oc30, od30, .func (PySem.W.fnOf "_law_held" "_law_held" (defArgs (topS 30)) (defBody (topS 30)) (defScope (topS 30)) .none kV30 dc30 pm30 an30 cd30 ct30), sl30⟩) (q30 : PySem.W.codeIn K cd30 "_law_held" = true) (k30 : PySem.W.keepIn K (.ref f30) = true)
    {f31 : Addr} {od31 an31 : Option Addr} {sl31 : Array (Option Value)} {oc31 kV31 dc31 pm31 cd31 ct31 : Value} (a31 : PySem.W.nsIn K mainGlobals "_law_leaves" = some (some (.ref f31))) (l31 : K.lookup f31 = some ⟨oc31, od31, .func (PySem.W.fnOf "_law_leaves" "_law_leaves" (defArgs (topS 31)) (defBody (topS 31)) (defScope (topS 31)) .none kV31 dc31 pm31 an31 cd31 ct31), sl31⟩) (q31 : PySem.W.codeIn K cd31 "_law_leaves" = true) (k31 : PySem.W.keepIn K (.ref f31) = true)
    {f32 : Addr} {od32 an32 : Option Addr} {sl32 : Array (Option Value)} {oc32 kV32 dc32 pm32 cd32 ct32 : Value} (a32 : PySem.W.nsIn K mainGlobals "_law_are_jumps" = some (some (.ref f32))) (l32 : K.lookup f32 = some ⟨oc32, od32, .func (PySem.W.fnOf "_law_are_jumps" "_law_are_jumps" (defArgs (topS 32)) (defBody (topS 32)) (defScope (topS 32)) .none kV32 dc32 pm32 an32 cd32 ct32), sl32⟩) (q32 : PySem.W.codeIn K cd32 "_law_are_jumps" = true) (k32 : PySem.W.keepIn K (.ref f32) = true)
    {f33 : Addr} {od33 an33 : Option Addr} {sl33 : Array (Option Value)} {oc33 kV33 dc33 pm33 cd33 ct33 : Value} (a33 : PySem.W.nsIn K mainGlobals "_law_is_growing" = some (some (.ref f33))) (l33 : K.lookup f33 = some ⟨oc33, od33, .func (PySem.W.fnOf "_law_is_growing" "_law_is_growing" (defArgs (topS 33)) (defBody (topS 33)) (defScope (topS 33)) .none kV33 dc33 pm33 an33 cd33 ct33), sl33⟩) (q33 : PySem.W.codeIn K cd33 "_law_is_growing" = true) (k33 : PySem.W.keepIn K (.ref f33) = true)
    {f34 : Addr} {od34 an34 : Option Addr} {sl34 : Array (Option Value)} {oc34 kV34 dc34 pm34 cd34 ct34 : Value} (a34 : PySem.W.nsIn K mainGlobals "_law_is_shrinking" = some (some (.ref f34))) (l34 : K.lookup f34 = some ⟨oc34, od34, .func (PySem.W.fnOf "_law_is_shrinking" "_law_is_shrinking" (defArgs (topS 34)) (defBody (topS 34)) (defScope (topS 34)) .none kV34 dc34 pm34 an34 cd34 ct34), sl34⟩) (q34 : PySem.W.codeIn K cd34 "_law_is_shrinking" = true) (k34 : PySem.W.keepIn K (.ref f34) = true)
    {f35 : Addr} {od35 an35 : Option Addr} {sl35 : Array (Option Value)} {oc35 kV35 dc35 pm35 cd35 ct35 : Value} (a35 : PySem.W.nsIn K mainGlobals "_law_row" = some (some (.ref f35))) (l35 : K.lookup f35 = some ⟨oc35, od35, .func (PySem.W.fnOf "_law_row" "_law_row" (defArgs (topS 35)) (defBody (topS 35)) (defScope (topS 35)) .none kV35 dc35 pm35 an35 cd35 ct35), sl35⟩) (q35 : PySem.W.codeIn K cd35 "_law_row" = true) (k35 : PySem.W.keepIn K (.ref f35) = true)
    {f36 : Addr} {od36 an36 : Option Addr} {sl36 : Array (Option Value)} {oc36 kV36 dc36 pm36 cd36 ct36 : Value} (a36 : PySem.W.nsIn K mainGlobals "_law_spoilt" = some (some (.ref f36))) (l36 : K.lookup f36 = some ⟨oc36, od36, .func (PySem.W.fnOf "_law_spoilt" "_law_spoilt" (defArgs (topS 36)) (defBody (topS 36)) (defScope (topS 36)) .none kV36 dc36 pm36 an36 cd36 ct36), sl36⟩) (q36 : PySem.W.codeIn K cd36 "_law_spoilt" = true) (k36 : PySem.W.keepIn K (.ref f36) = true)
    {f37 : Addr} {od37 an37 : Option Addr} {sl37 : Array (Option Value)} {oc37 kV37 dc37 pm37 cd37 ct37 : Value} (a37 : PySem.W.nsIn K mainGlobals "_law_is_told" = some (some (.ref f37))) (l37 : K.lookup f37 = some ⟨oc37, od37, .func (PySem.W.fnOf "_law_is_told" "_law_is_told" (defArgs (topS 37)) (defBody (topS 37)) (defScope (topS 37)) .none kV37 dc37 pm37 an37 cd37 ct37), sl37⟩) (q37 : PySem.W.codeIn K cd37 "_law_is_told" = true) (k37 : PySem.W.keepIn K (.ref f37) = true)
    {f38 : Addr} {od38 an38 : Option Addr} {sl38 : Array (Option Value)} {oc38 kV38 dc38 pm38 cd38 ct38 : Value} (a38 : PySem.W.nsIn K mainGlobals "law" = some (some (.ref f38))) (l38 : K.lookup f38 = some ⟨oc38, od38, .func (PySem.W.fnOf "law" "law" (defArgs (topS 38)) (defBody (topS 38)) (defScope (topS 38)) .none kV38 dc38 pm38 an38 cd38 ct38), sl38⟩) (q38 : PySem.W.codeIn K cd38 "law" = true) (k38 : PySem.W.keepIn K (.ref f38) = true) :
    Txt K mg :=
  ⟨PySem.W.mg_none_of X G z_bool,
    PySem.W.mg_none_of X G z_enumerate,
    PySem.W.mg_none_of X G z_int,
    PySem.W.mg_none_of X G z_isinstance,
    PySem.W.mg_none_of X G z_len,
    PySem.W.mg_none_of X G z_list,
    PySem.W.mg_none_of X G z_max,
    PySem.W.mg_none_of X G z_min,
    PySem.W.mg_none_of X G z_range,
    PySem.W.mg_none_of X G z_repr,
    PySem.W.mg_none_of X G z_sorted,
    PySem.W.mg_none_of X G z_sum,
    PySem.W.mg_none_of X G z_tuple,
    PySem.W.mg_none_of X G z_zip,
    ⟨_, _, PySem.W.mg_of X G a1, fun_mk (st := topS 1) l1 q1 k1⟩,
    ⟨_, _, PySem.W.mg_of X G a3, fun_mk (st := topS 3) l3 q3 k3⟩,
    ⟨_, _, PySem.W.mg_of X G a8, fun_mk (st := topS 8) l8 q8 k8⟩,
    ⟨_, _, PySem.W.mg_of X G a5, fun_mk (st := topS 5) l5 q5 k5⟩,
    ⟨_, _, PySem.W.mg_of X G a9, fun_mk (st := topS 9) l9 q9 k9⟩,
    ⟨_, _, PySem.W.mg_of X G a7, fun_mk (st := topS 7) l7 q7 k7⟩,
    ⟨_, _, PySem.W.mg_of X G a6, fun_mk (st := topS 6) l6 q6 k6⟩,
    ⟨_, _, PySem.W.mg_of X G a14, fun_mk (st := topS 14) l14 q14 k14⟩,
    ⟨_, _, PySem.W.mg_of X G a17, fun_mk (st := topS 17) l17 q17 k17⟩,
    ⟨_, _, PySem.W.mg_of X G a11, fun_mk (st := topS 11) l11 q11 k11⟩,
    ⟨_, _, PySem.W.mg_of X G a13, fun_mk (st := topS 13) l13 q13 k13⟩,
    ⟨_, _, PySem.W.mg_of X G a16, fun_mk (st := topS 16) l16 q16 k16⟩,
    ⟨_, _, PySem.W.mg_of X G a19, fun_mk (st := topS 19) l19 q19 k19⟩,
    ⟨_, _, PySem.W.mg_of X G a20, fun_mk (st := topS 20) l20 q20 k20⟩,
    ⟨_, _, PySem.W.mg_of X G a21, fun_mk (st := topS 21) l21 q21 k21⟩,
    ⟨_, _, PySem.W.mg_of X G a22, fun_mk (st := topS 22) l22 q22 k22⟩,
    ⟨_, _, PySem.W.mg_of X G a23, fun_mk (st := topS 23) l23 q23 k23⟩,
    ⟨_, _, PySem.W.mg_of X G a24, fun_mk (st := topS 24) l24 q24 k24⟩,
    ⟨_, _, PySem.W.mg_of X G a25, fun_mk (st := topS 25) l25 q25 k25⟩,
    ⟨_, _, PySem.W.mg_of X G a26, fun_mk (st := topS 26) l26 q26 k26⟩,
    ⟨_, _, PySem.W.mg_of X G a27, fun_mk (st := topS 27) l27 q27 k27⟩,
    ⟨_, _, PySem.W.mg_of X G a28, fun_mk (st := topS 28) l28 q28 k28⟩,
    ⟨_, _, PySem.W.mg_of X G a29, fun_mk (st := topS 29) l29 q29 k29⟩,
    ⟨_, _, PySem.W.mg_of X G a30, fun_mk (st := topS 30) l30 q30 k30⟩,
    ⟨_, _, PySem.W.mg_of X G a31, fun_mk (st := topS 31) l31 q31 k31⟩,
    ⟨_, _, PySem.W.mg_of X G a32, fun_mk (st := topS 32) l32 q32 k32⟩,
    ⟨_, _, PySem.W.mg_of X G a33, fun_mk (st := topS 33) l33 q33 k33⟩,
    ⟨_, _, PySem.W.mg_of X G a34, fun_mk (st := topS 34) l34 q34 k34⟩,
    ⟨_, _, PySem.W.mg_of X G a35, fun_mk (st := topS 35) l35 q35 k35⟩,
    ⟨_, _, PySem.W.mg_of X G a36, fun_mk (st := topS 36) l36 q36 k36⟩,
    ⟨_, _, PySem.W.mg_of X G a37, fun_mk (st := topS 37) l37 q37 k37⟩,
    ⟨_, _, PySem.W.mg_of X G a38, fun_mk (st := topS 38) l38 q38 k38⟩⟩
theorem law_fn {l : PySem.W.OpenLaw} {w : World} {K : Fg} {mg : Str → Option Value} {fa : Addr} (T : Txt K mg) (hfa : mg "law" = some (.ref fa)) : ∃ v : {v : Nat → Addr // v 0 ≠ v 1}, ∃ fd : FuncData, (∀ (s : Shared) (u : Value), BindsTo s fd ⟨[u], []⟩ [("script", u)]) ∧ ∀ base : Heap, K.In base → base.Ns mainGlobals mg → SysD base → FnG l.prog w K mg base 9 fa fd ["script"] (Mlaw v.1) := by
  obtain ⟨a, fd, hm, F⟩ := T.f_law
  obtain ⟨aV0, fdV0, hV0, FV0⟩ := T.f__longer
  obtain ⟨aV1, fdV1, hV1, FV1⟩ := T.f__shorter
  refine ⟨⟨fun i => if i = 0 then aV0 else aV1, fun_ne FV0 FV1 (by decide +kernel)⟩, fd, fun s v => ?_, fun base _ _ S => ?_⟩
  · obtain ⟨oc, od, kV, doc, pm, an, cdv, ct, osl, rfl, lk, hcd⟩ := F.ex
    exact .of_eq rfl
  · obtain ⟨a2, fd2, F2, g2, k2, b2, h2⟩ := oklaw (P := l.prog) (w := w) (base := base) (v := fun i => if i = 0 then aV0 else aV1) T S hV0 hV1
    rw [hfa] at g2
    cases g2
    rw [hfa] at hm
    cases hm
    have e : fd2 = fd := fun_same F2 F
    subst e
    exact h2
end NS
open PySem PySem.W PyProof.Rows
set_option maxHeartbeats 0 in
theorem PySem.Challenge.cw_longernearer_k20_rows_judged_and_spoilt_holds : PySem.Challenge.rw_longernearer_k20_rows_judged_and_spoilt.Holds := by
  w_on; o_law; k_head; (case hw => w_witness2)
  k_fill
  refine PL.law_walkV (l := PySem.Challenge.rw_longernearer_k20_rows_judged_and_spoilt) (n := 63) (k := 9) (x := "script") (F := fun v : {v : Nat → Addr // v 0 ≠ v 1} => NS.Mlaw v.1) rfl (by decide) rfl (by decide +kernel) ⟨rfl, by decide, by decide⟩ (fun w h Y => PySem.W.kIn_of Y) ?F NS.law_true
  case F =>
    intro w mg fa h KX G hmg
    refine NS.law_fn ?T hmg
    refine' NS.txt_mk KX G ?z_bool ?z_enumerate ?z_int ?z_isinstance ?z_len ?z_list ?z_max ?z_min ?z_range ?z_repr ?z_sorted ?z_sum ?z_tuple ?z_zip ?a1 ?l1 ?q1 ?k1 ?a3 ?l3 ?q3 ?k3 ?a8 ?l8 ?q8 ?k8 ?a5 ?l5 ?q5 ?k5 ?a9 ?l9 ?q9 ?k9 ?a7 ?l7 ?q7 ?k7 ?a6 ?l6 ?q6 ?k6 ?a14 ?l14 ?q14 ?k14 ?a17 ?l17 ?q17 ?k17 ?a11 ?l11 ?q11 ?k11 ?a13 ?l13 ?q13 ?k13 ?a16 ?l16 ?q16 ?k16 ?a19 ?l19 ?q19 ?k19 ?a20 ?l20 ?q20 ?k20 ?a21 ?l21 ?q21 ?k21 ?a22 ?l22 ?q22 ?k22 ?a23 ?l23 ?q23 ?k23 ?a24 ?l24 ?q24 ?k24 ?a25 ?l25 ?q25 ?k25 ?a26 ?l26 ?q26 ?k26 ?a27 ?l27 ?q27 ?k27 ?a28 ?l28 ?q28 ?k28 ?a29 ?l29 ?q29 ?k29 ?a30 ?l30 ?q30 ?k30 ?a31 ?l31 ?q31 ?k31 ?a32 ?l32 ?q32 ?k32 ?a33 ?l33 ?q33 ?k33 ?a34 ?l34 ?q34 ?k34 ?a35 ?l35 ?q35 ?k35 ?a36 ?l36 ?q36 ?k36 ?a37 ?l37 ?q37 ?k37 ?a38 ?l38 ?q38 ?k38
    (case z_bool => k_is); (case z_enumerate => k_is); (case z_int => k_is); (case z_isinstance => k_is); (case z_len => k_is); (case z_list => k_is); (case z_max => k_is); (case z_min => k_is); (case z_range => k_is); (case z_repr => k_is); (case z_sorted => k_is); (case z_sum => k_is); (case z_tuple => k_is); (case z_zip => k_is); (case a1 => k_is); (case l1 => k_is); (case q1 => k_is); (case k1 => k_is); (case a3 => k_is); (case l3 => k_is); (case q3 => k_is); (case k3 => k_is); (case a8 => k_is); (case l8 => k_is); (case q8 => k_is); (case k8 => k_is); (case a5 => k_is); (case l5 => k_is); (case q5 => k_is); (case k5 => k_is); (case a9 => k_is); (case l9 => k_is); (case q9 => k_is); (case k9 => k_is); (case a7 => k_is); (case l7 => k_is); (case q7 => k_is); (case k7 => k_is); (case a6 => k_is); (case l6 => k_is); (case q6 => k_is); (case k6 => k_is); (case a14 => k_is); (case l14 => k_is); (case q14 => k_is); (case k14 => k_is); (case a17 => k_is); (case l17 => k_is); (case q17 => k_is); (case k17 => k_is); (case a11 => k_is); (case l11 => k_is); (case q11 => k_is); (case k11 => k_is); (case a13 => k_is); (case l13 => k_is); (case q13 => k_is); (case k13 => k_is); (case a16 => k_is); (case l16 => k_is); (case q16 => k_is); (case k16 => k_is); (case a19 => k_is); (case l19 => k_is); (case q19 => k_is); (case k19 => k_is); (case a20 => k_is); (case l20 => k_is); (case q20 => k_is); (case k20 => k_is); (case a21 => k_is); (case l21 => k_is); (case q21 => k_is); (case k21 => k_is); (case a22 => k_is); (case l22 => k_is); (case q22 => k_is); (case k22 => k_is); (case a23 => k_is); (case l23 => k_is); (case q23 => k_is); (case k23 => k_is); (case a24 => k_is); (case l24 => k_is); (case q24 => k_is); (case k24 => k_is); (case a25 => k_is); (case l25 => k_is); (case q25 => k_is); (case k25 => k_is); (case a26 => k_is); (case l26 => k_is); (case q26 => k_is); (case k26 => k_is); (case a27 => k_is); (case l27 => k_is); (case q27 => k_is); (case k27 => k_is); (case a28 => k_is); (case l28 => k_is); (case q28 => k_is); (case k28 => k_is); (case a29 => k_is); (case l29 => k_is); (case q29 => k_is); (case k29 => k_is); (case a30 => k_is); (case l30 => k_is); (case q30 => k_is); (case k30 => k_is); (case a31 => k_is); (case l31 => k_is); (case q31 => k_is); (case k31 => k_is); (case a32 => k_is); (case l32 => k_is); (case q32 => k_is); (case k32 => k_is); (case a33 => k_is); (case l33 => k_is); (case q33 => k_is); (case k33 => k_is); (case a34 => k_is); (case l34 => k_is); (case q34 => k_is); (case k34 => k_is); (case a35 => k_is); (case l35 => k_is); (case q35 => k_is); (case k35 => k_is); (case a36 => k_is); (case l36 => k_is); (case q36 => k_is); (case k36 => k_is); (case a37 => k_is); (case l37 => k_is); (case q37 => k_is); (case k37 => k_is); (case a38 => k_is); (case l38 => k_is); (case q38 => k_is); (case k38 => k_is)
