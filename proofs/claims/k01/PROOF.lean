import PyProof.Rows.All
import HandS.ForMost
import HandS.ForExc
import HandS.IsInst
import HandS.Deep
import HandS.TupMul
import HandS.Conv
import HandS.Flow
import HandS.TupAny
import HandS.More
import HandS.Zip
import KE.GoesMore
import KE.GoesEnum
import PyProof.EnumFor
import PyProof.EnumMake
import HandS.Small
import HandS.RevRange
import PyProof.EqKinds
import HandS.RaiseMore
import HandS.WordsDict
import PySem.Challenge.RW_longernearer_k01_what_is_a_skeleton
set_option Elab.async false
set_option linter.all false
set_option maxRecDepth 100000
/- part PLa -/
set_option maxHeartbeats 4000000
namespace PL
open PySem PySem.Spec PyProof.Rows L2
abbrev Fg := PySem.W.Frag
abbrev St := L2.St

/-! ### pure values, cells, outcomes -/
inductive W where
  | non
  | bl (b : Bool)
  | int (i : Int)
  | str (x : Str)
  | ty (s : String)
  | tup (ws : List W)
  | ref (n : Nat)
instance : Inhabited W := ⟨.non⟩

inductive Cell where
  | lst (ws : List W)
  | rol (ws : List W)
  | dct (kvs : List (Key × W))
instance : Inhabited Cell := ⟨.lst []⟩
def Cell.mut : Cell → Bool
  | .rol _ => false
  | _ => true
abbrev Cells := List Cell
abbrev PEnv := List (Option W)
structure Exn where
  cls : Str
  arg : Option (Str × W)

inductive Rs (α : Type) where
  | ok (a : α) (G : Cells)
  | ex (e : Exn) (G : Cells)
  | no
def Rs.bind {α β : Type} (r : Rs α) (k : α → Cells → Rs β) : Rs β :=
  match r with
  | .ok a G => k a G
  | .ex e G => .ex e G
  | .no => .no
@[simp] theorem Rs.bind_ok {α β : Type} (a : α) (G : Cells) (k : α → Cells → Rs β) : (Rs.ok a G).bind k = k a G := rfl
@[simp] theorem Rs.bind_ex {α β : Type} (e : Exn) (G : Cells) (k : α → Cells → Rs β) : (Rs.ex e G : Rs α).bind k = .ex e G := rfl
@[simp] theorem Rs.bind_no {α β : Type} (k : α → Cells → Rs β) : (Rs.no : Rs α).bind k = .no := rfl
inductive So where
  | nx (E : PEnv) (G : Cells)
  | rt (w : W) (G : Cells)
  | bk (E : PEnv) (G : Cells)
  | ct (E : PEnv) (G : Cells)
  | ex (e : Exn) (E : PEnv) (G : Cells)
  | no

/-! ### a pure value stands for a value -/
mutual
inductive VR (K : Fg) (ρ : List Addr) (H : Hp) : W → V → Prop
  | non : VR K ρ H .non .non
  | bl (b : Bool) : VR K ρ H (.bl b) (.bl b)
  | int (i : Int) : VR K ρ H (.int i) (.int i)
  | str (x : Str) : VR K ρ H (.str x) (.str x)
  | ty (s : String) : VR K ρ H (.ty s) (.ty s)
  | tup {a : Addr} {vs : List V} {ws : List W} : SqT K H a vs → VRs K ρ H ws vs → VR K ρ H (.tup ws) (.ref a)
  | ref {n : Nat} {a : Addr} : ρ[n]? = some a → VR K ρ H (.ref n) (.ref a)
inductive VRs (K : Fg) (ρ : List Addr) (H : Hp) : List W → List V → Prop
  | nil : VRs K ρ H [] []
  | cons {w : W} {v : V} {ws : List W} {vs : List V} : VR K ρ H w v → VRs K ρ H ws vs → VRs K ρ H (w :: ws) (v :: vs)
end
structure Ext (K : Fg) (ρ : List Addr) (H : Hp) (ρ' : List Addr) (H' : Hp) : Prop where
  rho : ∀ (n : Nat) (a : Addr), ρ[n]? = some a → ρ'[n]? = some a
  tups : ∀ a vs, SqT K H a vs → SqT K H' a vs
  frz : ∀ a o u, H a = some (.frz o u) → H' a = some (.frz o u)
theorem Ext.refl {K : Fg} {ρ : List Addr} {H : Hp} : Ext K ρ H ρ H := ⟨fun _ _ h => h, fun _ _ h => h, fun _ _ _ h => h⟩
theorem Ext.trans {K : Fg} {ρ ρ1 ρ2 : List Addr} {H H1 H2 : Hp} (a : Ext K ρ H ρ1 H1) (b : Ext K ρ1 H1 ρ2 H2) : Ext K ρ H ρ2 H2 :=
  ⟨fun n x h => b.rho n x (a.rho n x h), fun x vs h => b.tups x vs (a.tups x vs h), fun x o u h => b.frz x o u (a.frz x o u h)⟩
section
variable {K : Fg} {ρ ρ' : List Addr} {H H' : Hp}
mutual
theorem VR.mono (e : Ext K ρ H ρ' H') : ∀ {w : W} {v : V}, VR K ρ H w v → VR K ρ' H' w v
  | _, _, .non => .non
  | _, _, .bl b => .bl b
  | _, _, .int i => .int i
  | _, _, .str x => .str x
  | _, _, .ty s => .ty s
  | _, _, .tup h k => .tup (e.tups _ _ h) (VRs.mono e k)
  | _, _, .ref h => .ref (e.rho _ _ h)
theorem VRs.mono (e : Ext K ρ H ρ' H') : ∀ {ws : List W} {vs : List V}, VRs K ρ H ws vs → VRs K ρ' H' ws vs
  | _, _, .nil => .nil
  | _, _, .cons h k => .cons (VR.mono e h) (VRs.mono e k)
end
theorem VRs.length : ∀ {ws : List W} {vs : List V}, VRs K ρ H ws vs → ws.length = vs.length
  | _, _, .nil => rfl
  | _, _, .cons _ k => by rw [List.length_cons, List.length_cons, k.length]
theorem VRs.get : ∀ {ws : List W} {vs : List V} {i : Nat} {w : W}, VRs K ρ H ws vs → ws[i]? = some w → ∃ v, vs[i]? = some v ∧ VR K ρ H w v
  | _, _, _, _, .nil, h => by simp at h
  | _, _, 0, w, .cons h k, e => by simp at e; subst e; exact ⟨_, rfl, h⟩
  | _, _, i + 1, w, .cons h k, e => by
    obtain ⟨v, e1, e2⟩ := VRs.get (i := i) (w := w) k (by simpa using e)
    exact ⟨v, by simpa using e1, e2⟩
theorem VRs.append : ∀ {ws xs : List W} {vs us : List V}, VRs K ρ H ws vs → VRs K ρ H xs us → VRs K ρ H (ws ++ xs) (vs ++ us)
  | _, _, _, _, .nil, s => s
  | _, _, _, _, .cons h k, s => .cons h (VRs.append k s)
theorem VRs.take : ∀ {ws : List W} {vs : List V} (n : Nat), VRs K ρ H ws vs → VRs K ρ H (ws.take n) (vs.take n)
  | _, _, 0, _ => .nil
  | _, _, _ + 1, .nil => .nil
  | _, _, n + 1, .cons h k => .cons h (VRs.take n k)
theorem VRs.drop : ∀ {ws : List W} {vs : List V} (n : Nat), VRs K ρ H ws vs → VRs K ρ H (ws.drop n) (vs.drop n)
  | _, _, 0, h => h
  | _, _, _ + 1, .nil => .nil
  | _, _, n + 1, .cons h k => VRs.drop n k
theorem VRs.set {w : W} {v : V} (h : VR K ρ H w v) : ∀ {ws : List W} {vs : List V} (n : Nat), VRs K ρ H ws vs → VRs K ρ H (ws.set n w) (vs.set n v)
  | _, _, _, .nil => .nil
  | _, _, 0, .cons _ k => .cons h k
  | _, _, n + 1, .cons h' k => .cons h' (VRs.set h n k)
theorem VRs.get_none {ws : List W} {vs : List V} {i : Nat} (h : VRs K ρ H ws vs) (e : ws[i]? = none) : vs[i]? = none := by
  have h1 := h.length
  have h2 := List.getElem?_eq_none_iff.mp e
  exact List.getElem?_eq_none_iff.mpr (by omega)
theorem VRs.reverse : ∀ {ws : List W} {vs : List V}, VRs K ρ H ws vs → VRs K ρ H ws.reverse vs.reverse
  | _, _, .nil => .nil
  | _, _, .cons h k => by rw [List.reverse_cons, List.reverse_cons]; exact VRs.append (VRs.reverse k) (.cons h .nil)
theorem VRs.rep {ws : List W} {vs : List V} (h : VRs K ρ H ws vs) : ∀ n : Nat, VRs K ρ H (List.replicate n ws).flatten (List.replicate n vs).flatten
  | 0 => .nil
  | n + 1 => by rw [List.replicate_succ, List.replicate_succ, List.flatten_cons, List.flatten_cons]; exact h.append (VRs.rep h n)
end

/-! ### cells -/
inductive KVR (K : Fg) (ρ : List Addr) (H : Hp) : List (Key × W) → List (Key × V) → Prop
  | nil : KVR K ρ H [] []
  | cons {k : Key} {w : W} {v : V} {r : List (Key × W)} {q : List (Key × V)} : VR K ρ H w v → KVR K ρ H r q → KVR K ρ H ((k, w) :: r) ((k, v) :: q)
theorem KVR.mono {K : Fg} {ρ ρ' : List Addr} {H H' : Hp} (e : Ext K ρ H ρ' H') : ∀ {r : List (Key × W)} {q : List (Key × V)}, KVR K ρ H r q → KVR K ρ' H' r q
  | _, _, .nil => .nil
  | _, _, .cons h k => .cons (h.mono e) (k.mono e)
def KList (K : Fg) (a : Addr) (xs : List V) : Prop :=
  ∃ (o : Obj) (its : Array Value) (n : Nat), K.lookup a = some o ∧ o.cls = .type "list" ∧ o.dict = none ∧ o.data = .seq its n ∧ its.size ≤ sizeLine ∧ Vals xs its.toList
def CR (K : Fg) (ρ : List Addr) (H : Hp) : Cell → Addr → Prop
  | .lst ws, a => ∃ vs, H a = some (.lst vs) ∧ VRs K ρ H ws vs
  | .rol ws, a => ∃ vs, ((∃ o, H a = some (.frz o (.lst vs))) ∨ KList K a vs) ∧ VRs K ρ H ws vs
  | .dct kvs, a => ∃ q, H a = some (.dK q) ∧ KVR K ρ H kvs q
structure SR (K : Fg) (ρ : List Addr) (G : Cells) (H : Hp) : Prop where
  len : ρ.length = G.length
  cell : ∀ (n : Nat) (c : Cell) (a : Addr), G[n]? = some c → ρ[n]? = some a → CR K ρ H c a
  inj : ∀ (n m : Nat) (a : Addr) (c d : Cell), ρ[n]? = some a → ρ[m]? = some a → G[n]? = some c → c.mut = true → G[m]? = some d → d.mut = true → n = m
section
variable {K : Fg} {ρ ρ' : List Addr} {H H' : Hp} {G : Cells} {n : Nat} {a p : Addr} {c : Cell} {o : HO}
theorem SR.at (s : SR K ρ G H) (h : ρ[n]? = some a) : ∃ c, G[n]? = some c := by
  obtain ⟨hn, _⟩ := List.getElem?_eq_some_iff.mp h
  rw [s.len] at hn
  exact ⟨G[n], List.getElem?_eq_getElem hn⟩
/-- what a store at x keeps -/
theorem ext_upd {x : Addr} (hx : H x = none ∨ Mut (H x)) (hr : ∀ (n : Nat) (a : Addr), ρ[n]? = some a → ρ'[n]? = some a) : Ext K ρ H ρ' (upd H x o) := by
  have ne : ∀ b u, H b = some u → ¬ Mut (some u) → b ≠ x := fun b u h m z => by
    subst z
    rcases hx with e | e
    · rw [e] at h; cases h
    · rw [h] at e; exact m e
  refine ⟨hr, fun b vs h => ?_, fun b ob u h => by rw [upd_ne (ne b _ h fun z => z)]; exact h⟩
  rcases h with (h | ⟨ob, h⟩) | h
  · exact .inl (.inl (by rw [upd_ne (ne b _ h fun z => z)]; exact h))
  · exact .inl (.inr ⟨ob, by rw [upd_ne (ne b _ h fun z => z)]; exact h⟩)
  · exact .inr h
theorem CR.mono {c : Cell} (r : CR K ρ H c a) (e : Ext K ρ H ρ' H') (k : c.mut = true → H' a = H a) : CR K ρ' H' c a := by
  cases c with
  | lst ws => obtain ⟨vs, h, q⟩ := r; exact ⟨vs, by rw [k rfl]; exact h, q.mono e⟩
  | rol ws =>
    obtain ⟨vs, h, q⟩ := r
    refine ⟨vs, ?_, q.mono e⟩
    rcases h with ⟨o, h⟩ | h
    · exact .inl ⟨o, e.frz _ _ _ h⟩
    · exact .inr h
  | dct kvs => obtain ⟨vs, h, q⟩ := r; exact ⟨vs, by rw [k rfl]; exact h, q.mono e⟩
theorem CR.here {c : Cell} (r : CR K ρ H c a) (m : c.mut = true) : ∃ o, H a = some o ∧ Mut (some o) := by
  cases c with
  | lst ws => obtain ⟨vs, h, q⟩ := r; exact ⟨_, h, trivial⟩
  | rol ws => cases m
  | dct kvs => obtain ⟨vs, h, q⟩ := r; exact ⟨_, h, trivial⟩
/-- a new tuple (or whatever is not a cell) -/
theorem SR.fresh (s : SR K ρ G H) (hp : H p = none) : SR K ρ G (upd H p o) := by
  refine ⟨s.len, fun n c a h1 h2 => (s.cell n c a h1 h2).mono (ext_upd (.inl hp) fun _ _ h => h) fun m => ?_, s.inj⟩
  obtain ⟨u, hu, _⟩ := (s.cell n c a h1 h2).here m
  exact upd_ne (ne_of_none hu hp)
theorem get_snoc {α : Type} {l : List α} {x y : α} {n : Nat} (h : (l ++ [x])[n]? = some y) : l[n]? = some y ∨ (n = l.length ∧ y = x) := by
  by_cases hn : n < l.length
  · rw [List.getElem?_append_left hn] at h; exact .inl h
  · rw [List.getElem?_append_right (by omega)] at h
    have : n - l.length = 0 := by
      obtain ⟨q, _⟩ := List.getElem?_eq_some_iff.mp h
      simp at q; omega
    rw [this] at h
    simp at h
    exact .inr ⟨by omega, h.symm⟩
theorem get_left {α : Type} {l r : List α} {y : α} {n : Nat} (h : l[n]? = some y) : (l ++ r)[n]? = some y := by
  obtain ⟨q, _⟩ := List.getElem?_eq_some_iff.mp h
  rw [List.getElem?_append_left q]; exact h
theorem ext_alloc (hp : H p = none) : Ext K ρ H (ρ ++ [p]) (upd H p o) := ext_upd (.inl hp) fun _ _ h => get_left h
/-- a new cell -/
theorem SR.alloc (s : SR K ρ G H) (hp : H p = none) (hc : CR K (ρ ++ [p]) (upd H p o) c p) : SR K (ρ ++ [p]) (G ++ [c]) (upd H p o) := by
  have keep : ∀ (n : Nat) (c : Cell) (a : Addr), G[n]? = some c → ρ[n]? = some a → c.mut = true → a ≠ p := fun n c a h1 h2 m => by
    obtain ⟨u, hu, _⟩ := (s.cell n c a h1 h2).here m
    exact ne_of_none hu hp
  refine ⟨by simp [s.len], fun n d a h1 h2 => ?_, fun n m a d e h1 h2 h3 h4 h5 h6 => ?_⟩
  · rcases get_snoc h1 with h1 | ⟨h1, rfl⟩
    · rcases get_snoc h2 with h2 | ⟨h2, _⟩
      · exact (s.cell n d a h1 h2).mono (ext_alloc hp) fun m => upd_ne (keep n d a h1 h2 m)
      · obtain ⟨q, _⟩ := List.getElem?_eq_some_iff.mp h1
        have := s.len; omega
    · rcases get_snoc h2 with h2 | ⟨h2, rfl⟩
      · obtain ⟨q, _⟩ := List.getElem?_eq_some_iff.mp h2
        have := s.len; omega
      · exact hc
  · rcases get_snoc h1 with h1 | ⟨h1, e1⟩
    · rcases get_snoc h2 with h2 | ⟨h2, e2⟩
      · rcases get_snoc h3 with h3 | ⟨h3, _⟩
        · rcases get_snoc h5 with h5 | ⟨h5, _⟩
          · exact s.inj n m a d e h1 h2 h3 h4 h5 h6
          · obtain ⟨q, _⟩ := List.getElem?_eq_some_iff.mp h2
            have := s.len; omega
        · obtain ⟨q, _⟩ := List.getElem?_eq_some_iff.mp h1
          have := s.len; omega
      · rcases get_snoc h3 with h3 | ⟨h3, _⟩
        · exact absurd e2 (keep n d a h3 h1 h4)
        · obtain ⟨q, _⟩ := List.getElem?_eq_some_iff.mp h1
          have := s.len; omega
    · rcases get_snoc h2 with h2 | ⟨h2, e2⟩
      · rcases get_snoc h5 with h5 | ⟨h5, _⟩
        · exact absurd e1 (keep m e a h5 h2 h6)
        · obtain ⟨q, _⟩ := List.getElem?_eq_some_iff.mp h2
          have := s.len; omega
      · omega
/-- a cell is written -/
theorem SR.write {c' : Cell} (s : SR K ρ G H) (hn : G[n]? = some c) (ha : ρ[n]? = some a) (hm : c.mut = true) (hm' : c'.mut = true) (hc : CR K ρ (upd H a o) c' a) : SR K ρ (G.set n c') (upd H a o) := by
  have mu : Mut (H a) := by
    obtain ⟨u, hu, h⟩ := (s.cell n c a hn ha).here hm
    rw [hu]; exact h
  have hlt : n < G.length := (List.getElem?_eq_some_iff.mp hn).1
  refine ⟨by simp [s.len], fun m d b h1 h2 => ?_, fun i j b d e h1 h2 h3 h4 h5 h6 => ?_⟩
  · by_cases e : m = n
    · subst e
      rw [List.getElem?_set_self hlt] at h1
      cases h1
      rw [ha] at h2; cases h2
      exact hc
    · rw [List.getElem?_set_ne (Ne.symm e)] at h1
      exact (s.cell m d b h1 h2).mono (ext_upd (.inr mu) fun _ _ h => h) fun md => upd_ne fun z => e (s.inj m n b d c h2 (z ▸ ha) h1 md hn hm)
  · have back : ∀ (i : Nat) (d : Cell), (G.set n c')[i]? = some d → d.mut = true → ∃ d', G[i]? = some d' ∧ d'.mut = true := fun i d h m => by
      by_cases e : i = n
      · subst e; exact ⟨c, hn, hm⟩
      · rw [List.getElem?_set_ne (Ne.symm e)] at h; exact ⟨d, h, m⟩
    obtain ⟨d', q1, q2⟩ := back i d h3 h4
    obtain ⟨e', q3, q4⟩ := back j e h5 h6
    exact s.inj i j b d' e' h1 h2 q1 q2 q3 q4
theorem SR.ext_write (s : SR K ρ G H) (hn : G[n]? = some c) (ha : ρ[n]? = some a) (hm : c.mut = true) : Ext K ρ H ρ (upd H a o) := by
  obtain ⟨u, hu, h⟩ := (s.cell n c a hn ha).here hm
  exact ext_upd (.inr (by rw [hu]; exact h)) fun _ _ h => h
theorem same_ext (h : Same H H') : Ext K ρ H ρ H' := ⟨fun _ _ h => h, fun a vs q => by
  rcases q with (q | ⟨o, q⟩) | q
  · exact .inl (.inl (h _ _ q))
  · exact .inl (.inr ⟨o, h _ _ q⟩)
  · exact .inr q, fun a o u q => h _ _ q⟩
theorem SR.same (s : SR K ρ G H) (h : Same H H') : SR K ρ G H' := ⟨s.len, fun n c a h1 h2 => (s.cell n c a h1 h2).mono (same_ext h) fun m => by
  obtain ⟨u, hu, _⟩ := (s.cell n c a h1 h2).here m
  rw [hu, h _ _ hu], s.inj⟩
end

/-! ### slots -/
inductive ER (K : Fg) (ρ : List Addr) (H : Hp) : PEnv → St → Prop
  | nil : ER K ρ H [] []
  | none {v : Option V} {E : PEnv} {σ : St} : ER K ρ H E σ → ER K ρ H (.none :: E) (v :: σ)
  | some {w : W} {v : V} {E : PEnv} {σ : St} : VR K ρ H w v → ER K ρ H E σ → ER K ρ H (.some w :: E) (.some v :: σ)
section
variable {K : Fg} {ρ ρ' : List Addr} {H H' : Hp}
theorem ER.mono (e : Ext K ρ H ρ' H') : ∀ {E : PEnv} {σ : St}, ER K ρ H E σ → ER K ρ' H' E σ
  | _, _, .nil => .nil
  | _, _, .none k => .none (k.mono e)
  | _, _, .some h k => .some (h.mono e) (k.mono e)
theorem ER.get : ∀ {E : PEnv} {σ : St} {i : Nat} {w : W}, ER K ρ H E σ → E[i]? = .some (.some w) → ∃ v, σ[i]? = .some (.some v) ∧ VR K ρ H w v
  | _, _, _, _, .nil, h => by simp at h
  | _, _, 0, _, .none _, h => by simp at h
  | _, _, 0, _, .some q _, h => by simp at h; subst h; exact ⟨_, rfl, q⟩
  | _, _, i + 1, w, .none k, h => by
    obtain ⟨v, e1, e2⟩ := ER.get (i := i) (w := w) k (by simpa using h)
    exact ⟨v, by simpa using e1, e2⟩
  | _, _, i + 1, w, .some _ k, h => by
    obtain ⟨v, e1, e2⟩ := ER.get (i := i) (w := w) k (by simpa using h)
    exact ⟨v, by simpa using e1, e2⟩
theorem ER.set {w : W} {v : V} (h : VR K ρ H w v) : ∀ {E : PEnv} {σ : St} (i : Nat), ER K ρ H E σ → ER K ρ H (E.set i (.some w)) (σ.set i (.some v))
  | _, _, _, .nil => .nil
  | _, _, 0, .none k => .some h k
  | _, _, 0, .some _ k => .some h k
  | _, _, i + 1, .none k => .none (ER.set h i k)
  | _, _, i + 1, .some q k => .some q (ER.set h i k)
theorem ER.unset : ∀ {E : PEnv} {σ : St} (i : Nat) (v : Option V), ER K ρ H E σ → ER K ρ H (E.set i .none) (σ.set i v)
  | _, _, _, _, .nil => .nil
  | _, _, 0, _, .none k => .none k
  | _, _, 0, _, .some _ k => .none k
  | _, _, i + 1, v, .none k => .none (ER.unset i v k)
  | _, _, i + 1, v, .some q k => .some q (ER.unset i v k)
theorem ER.length : ∀ {E : PEnv} {σ : St}, ER K ρ H E σ → E.length = σ.length
  | _, _, .nil => rfl
  | _, _, .none k => by rw [List.length_cons, List.length_cons, k.length]
  | _, _, .some _ k => by rw [List.length_cons, List.length_cons, k.length]
theorem ER.replicate : ∀ n : Nat, ER K ρ H (List.replicate n .none) (List.replicate n .none)
  | 0 => .nil
  | n + 1 => .none (ER.replicate n)
theorem ER.args : ∀ {ws : List W} {vs : List V}, VRs K ρ H ws vs → ∀ {E : PEnv} {σ : St}, ER K ρ H E σ → ER K ρ H (ws.map .some ++ E) (vs.map .some ++ σ)
  | _, _, .nil, _, _, k => k
  | _, _, .cons h q, _, _, k => .some h (ER.args q k)
end

/-! ### outcomes -/
abbrev Wish := Exn → St → List Addr → Hp → Prop
def Out {α β : Type} (K : Fg) (XP : Wish) (Rel : List Addr → Hp → α → β → Prop) (σ : St) (ρ : List Addr) (H : Hp) (r : Rs α) (Q : β → Hp → Prop) : Prop :=
  match r with
  | .ok w G => ∀ ρ' H' v, Ext K ρ H ρ' H' → SR K ρ' G H' → Rel ρ' H' w v → Q v H'
  | .ex e G => ∀ ρ' H', Ext K ρ H ρ' H' → SR K ρ' G H' → XP e σ ρ' H'
  | .no => False
theorem Out.mono {α β : Type} {K : Fg} {XP : Wish} {Rel : List Addr → Hp → α → β → Prop} {σ : St} {ρ ρ' : List Addr} {H H' : Hp} {r : Rs α} {Q : β → Hp → Prop} (h : Out K XP Rel σ ρ H r Q) (e : Ext K ρ H ρ' H') : Out K XP Rel σ ρ' H' r Q := by
  cases r with
  | ok w G => exact fun ρ2 H2 v e2 s q => h ρ2 H2 v (e.trans e2) s q
  | ex x G => exact fun ρ2 H2 e2 s => h ρ2 H2 (e.trans e2) s
  | no => exact h
theorem Out.bind {α β α' β' : Type} {K : Fg} {XP : Wish} {Rel : List Addr → Hp → α → β → Prop} {Rel' : List Addr → Hp → α' → β' → Prop} {σ : St} {ρ : List Addr} {H : Hp} {r : Rs α} {k : α → Cells → Rs α'} {Q : β → Hp → Prop} {Q' : β' → Hp → Prop}
    (h : Out K XP Rel' σ ρ H (r.bind k) Q') (f : ∀ w G ρ1 H1 v, Ext K ρ H ρ1 H1 → SR K ρ1 G H1 → Rel ρ1 H1 w v → Out K XP Rel' σ ρ1 H1 (k w G) Q' → Q v H1) : Out K XP Rel σ ρ H r Q := by
  cases r with
  | ok w G => exact fun ρ1 H1 v e s q => f w G ρ1 H1 v e s q (h.mono e)
  | ex x G => exact h
  | no => exact h
theorem Out.ok {α β : Type} {K : Fg} {XP : Wish} {Rel : List Addr → Hp → α → β → Prop} {σ : St} {ρ : List Addr} {H : Hp} {w : α} {G : Cells} {Q : β → Hp → Prop} (h : Out K XP Rel σ ρ H (.ok w G) Q) {v : β} (s : SR K ρ G H) (q : Rel ρ H w v) : Q v H := h ρ H v .refl s q

abbrev ME := PEnv → Cells → Rs W
abbrev MA := PEnv → Cells → Rs (List W)
abbrev MT := PEnv → Cells → Rs Bool
abbrev MS := PEnv → Cells → So
def BR : List Addr → Hp → Bool → Bool → Prop := fun _ _ a b => a = b

structure HE (X : Cx) (XP : Wish) (e : Expr) (m : ME) : Prop where
  ex : ∃ t, PE X e t ∧ ∀ ρ E G σ H Q, ER X.K ρ H E σ → SR X.K ρ G H → Out X.K XP (VR X.K) σ ρ H (m E G) Q → t σ H Q
structure HA (X : Cx) (XP : Wish) (es : List Expr) (m : MA) : Prop where
  ex : ∃ t, PA X es t ∧ ∀ ρ E G σ H Q, ER X.K ρ H E σ → SR X.K ρ G H → Out X.K XP (VRs X.K) σ ρ H (m E G) Q → t σ H Q
structure HT (X : Cx) (XP : Wish) (e : Expr) (m : MT) : Prop where
  ex : ∃ t, PT X e t ∧ ∀ ρ E G σ H Q, ER X.K ρ H E σ → SR X.K ρ G H → Out X.K XP BR σ ρ H (m E G) Q → t σ H Q
def OutS (K : Fg) (XP : Wish) (ρ : List Addr) (H : Hp) (r : So) (D : Ends) : Prop :=
  match r with
  | .nx E G => ∀ ρ' H' σ', Ext K ρ H ρ' H' → SR K ρ' G H' → ER K ρ' H' E σ' → D.nx σ' H'
  | .rt w G => ∀ ρ' H' v, Ext K ρ H ρ' H' → SR K ρ' G H' → VR K ρ' H' w v → D.rt v H'
  | .bk E G => ∀ ρ' H' σ', Ext K ρ H ρ' H' → SR K ρ' G H' → ER K ρ' H' E σ' → D.bk σ' H'
  | .ct E G => ∀ ρ' H' σ', Ext K ρ H ρ' H' → SR K ρ' G H' → ER K ρ' H' E σ' → D.ct σ' H'
  | .ex e E G => ∀ ρ' H' σ', Ext K ρ H ρ' H' → SR K ρ' G H' → ER K ρ' H' E σ' → XP e σ' ρ' H'
  | .no => False
theorem OutS.mono {K : Fg} {XP : Wish} {ρ ρ' : List Addr} {H H' : Hp} {r : So} {D : Ends} (h : OutS K XP ρ H r D) (e : Ext K ρ H ρ' H') : OutS K XP ρ' H' r D := by
  cases r with
  | nx E G => exact fun ρ2 H2 v e2 s q => h ρ2 H2 v (e.trans e2) s q
  | rt w G => exact fun ρ2 H2 v e2 s q => h ρ2 H2 v (e.trans e2) s q
  | bk E G => exact fun ρ2 H2 v e2 s q => h ρ2 H2 v (e.trans e2) s q
  | ct E G => exact fun ρ2 H2 v e2 s q => h ρ2 H2 v (e.trans e2) s q
  | ex x E G => exact fun ρ2 H2 v e2 s q => h ρ2 H2 v (e.trans e2) s q
  | no => exact h
structure HS (X : Cx) (XP : Wish) (st : Stmt) (m : MS) : Prop where
  ex : ∃ t, PS X st t ∧ ∀ ρ E G σ H D, ER X.K ρ H E σ → SR X.K ρ G H → OutS X.K XP ρ H (m E G) D → t D σ H
structure HB (X : Cx) (XP : Wish) (sts : List Stmt) (m : MS) : Prop where
  ex : ∃ t, PSs X sts t ∧ ∀ ρ E G σ H D, ER X.K ρ H E σ → SR X.K ρ G H → OutS X.K XP ρ H (m E G) D → t D σ H
end PL
/- part PLb -/
set_option maxHeartbeats 4000000
namespace PL
open PySem PySem.Spec PyProof.Rows L2
section
variable {X : Cx} {XP : Wish} {pos : Pos}

/-! ### names, constants -/
def mVar (i : Nat) : ME := fun E G => match E[i]? with | some (some w) => .ok w G | _ => .no
def mC (w : W) : ME := fun _ G => .ok w G
theorem he_var {i : Nat} {x : Str} (hN : X.N[i]? = some x) (hv : Vis X.env.scope x) (hd : (x == ("__debug__" : Str)) = false := by decide) (hcd : (x == ("__classdict__" : Str)) = false := by decide) : HE X XP (.Name x pos) (mVar i) := by
  refine ⟨_, pe_var hN hv hd hcd, fun ρ E G σ H Q er sr h => ?_⟩
  unfold mVar at h
  split at h
  · rename_i w hw
    obtain ⟨v, h1, h2⟩ := er.get hw
    exact ⟨v, h1, h.ok sr h2⟩
  · exact h.elim
theorem he_const {e : Expr} {v : V} {w : W} (h : PE X e (tC v)) (r : ∀ ρ H, VR X.K ρ H w v) : HE X XP e (mC w) :=
  ⟨_, h, fun ρ E G σ H Q er sr q => q.ok sr (r ρ H)⟩
theorem he_int {i : Int} {j} : HE X XP (.Constant (.int i) j pos) (mC (.int i)) := he_const pe_int fun _ _ => .int i
theorem he_bl {b : Bool} {j} : HE X XP (.Constant (.bool b) j pos) (mC (.bl b)) := he_const pe_bl fun _ _ => .bl b
theorem he_non {j} : HE X XP (.Constant .none j pos) (mC .non) := he_const pe_non fun _ _ => .non
theorem he_str {x : Str} {j} : HE X XP (.Constant (.str x) j pos) (mC (.str x)) := he_const pe_str fun _ _ => .str x
/-- a module's constant -/
theorem he_glob {x : Str} {v : V} {u : Value} {w : W} (hg : Gl X x) (hm : X.mg x = some u) (r : RelV v u) (k : ∀ ρ H, VR X.K ρ H w v) (hd : (x == ("__debug__" : Str)) = false := by decide) : HE X XP (.Name x pos) (mC w) :=
  he_const (pe_glob hg hm r hd) k
/-- a built-in type as a value -/
theorem he_type {x : Str} {n : String} (hg : Gl X x) (hm : X.mg x = none) (hv : bootBuiltins x = some (.type n)) (hn : x ≠ "__name__" := by decide) (hd : (x == ("__debug__" : Str)) = false := by decide) : HE X XP (.Name x pos) (mC (.ty n)) :=
  he_const (v := .ty n) (pe_bltn hg hm hv rfl hn hd) fun _ _ => .ty n

/-! ### two-place operations -/
abbrev GOp := Cells → W → W → Rs W
structure OpG (X : Cx) (XP : Wish) (f : Value → Value → Sem Value) (g : GOp) : Prop where
  ex : ∃ r, OpR X f r ∧ ∀ ρ G σ H x y v u Q, SR X.K ρ G H → VR X.K ρ H x v → VR X.K ρ H y u → Out X.K XP (VR X.K) σ ρ H (g G x y) Q → r v u H Q
def mBin (g : GOp) (ma mb : ME) : ME := fun E G => (ma E G).bind fun x G1 => (mb E G1).bind fun y G2 => g G2 x y
theorem bin_run {ta tb : TE} {ma mb : ME} {g : GOp} {r : R2}
    (ha : ∀ ρ E G σ H Q, ER X.K ρ H E σ → SR X.K ρ G H → Out X.K XP (VR X.K) σ ρ H (ma E G) Q → ta σ H Q)
    (hb : ∀ ρ E G σ H Q, ER X.K ρ H E σ → SR X.K ρ G H → Out X.K XP (VR X.K) σ ρ H (mb E G) Q → tb σ H Q)
    (hr : ∀ ρ G σ H x y v u Q, SR X.K ρ G H → VR X.K ρ H x v → VR X.K ρ H y u → Out X.K XP (VR X.K) σ ρ H (g G x y) Q → r v u H Q) :
    ∀ ρ E G σ H Q, ER X.K ρ H E σ → SR X.K ρ G H → Out X.K XP (VR X.K) σ ρ H (mBin g ma mb E G) Q → tOp r ta tb σ H Q := by
  intro ρ E G σ H Q er sr h
  refine ha ρ E G σ H _ er sr (h.bind fun x G1 ρ1 H1 v e1 s1 r1 h1 => ?_)
  refine hb ρ1 E G1 σ H1 _ (er.mono e1) s1 (h1.bind fun y G2 ρ2 H2 u e2 s2 r2 h2 => ?_)
  exact hr ρ2 G2 σ H2 x y v u Q s2 (r1.mono e2) r2 h2
theorem he_op {op : Operator} {a b : Expr} {ma mb : ME} {g : GOp} (ho : OpG X XP (binaryOp op) g) (ha : HE X XP a ma) (hb : HE X XP b mb) : HE X XP (.BinOp a op b pos) (mBin g ma mb) := by
  obtain ⟨r, h1, h2⟩ := ho.ex
  obtain ⟨ta, a1, a2⟩ := ha.ex
  obtain ⟨tb, b1, b2⟩ := hb.ex
  exact ⟨_, pe_op h1 a1 b1, bin_run a2 b2 h2⟩
theorem he_cmp {op : CmpOp} {a b : Expr} {ma mb : ME} {g : GOp} (ho : OpG X XP (compareOp op) g) (ha : HE X XP a ma) (hb : HE X XP b mb) (hm : behindInMarks op b = false) : HE X XP (.Compare a [op] [b] pos) (mBin g ma mb) := by
  obtain ⟨r, h1, h2⟩ := ho.ex
  obtain ⟨ta, a1, a2⟩ := ha.ex
  obtain ⟨tb, b1, b2⟩ := hb.ex
  exact ⟨_, pe_cmpR h1 a1 b1 hm, bin_run a2 b2 h2⟩
def mTest (m : ME) : MT := fun E G => (m E G).bind fun w G' => match w with | .bl b => .ok b G' | _ => .no
theorem test_run {t : TE} {m : ME} (h : ∀ ρ E G σ H Q, ER X.K ρ H E σ → SR X.K ρ G H → Out X.K XP (VR X.K) σ ρ H (m E G) Q → t σ H Q) :
    ∀ ρ E G σ H Q, ER X.K ρ H E σ → SR X.K ρ G H → Out X.K XP BR σ ρ H (mTest m E G) Q → tTest t σ H Q := by
  intro ρ E G σ H Q er sr q
  refine h ρ E G σ H _ er sr (q.bind fun w G1 ρ1 H1 v e1 s1 r1 h1 => ?_)
  cases r1 <;> first | exact h1.elim | exact ⟨_, rfl, h1.ok s1 rfl⟩
theorem ht_cmp {op : CmpOp} {a b : Expr} {ma mb : ME} {g : GOp} (ho : OpG X XP (compareOp op) g) (ha : HE X XP a ma) (hb : HE X XP b mb) (hm : behindInMarks op b = false) : HT X XP (.Compare a [op] [b] pos) (mTest (mBin g ma mb)) := by
  obtain ⟨r, h1, h2⟩ := ho.ex
  obtain ⟨ta, a1, a2⟩ := ha.ex
  obtain ⟨tb, b1, b2⟩ := hb.ex
  exact ⟨_, pt_cmpR h1 a1 b1 hm, test_run (bin_run a2 b2 h2)⟩
/-- a op b op' c -/
def mChain (g g' : GOp) (ma mb mc : ME) : ME := fun E G => (ma E G).bind fun x G1 => (mb E G1).bind fun y G2 => (g G2 x y).bind fun z G3 =>
  match z with | .bl true => (mc E G3).bind fun w G4 => g' G4 y w | .bl false => .ok (.bl false) G3 | _ => .no
theorem chain_run {ta tb tc : TE} {ma mb mc : ME} {g g' : GOp} {r r' : R2}
    (ha : ∀ ρ E G σ H Q, ER X.K ρ H E σ → SR X.K ρ G H → Out X.K XP (VR X.K) σ ρ H (ma E G) Q → ta σ H Q)
    (hb : ∀ ρ E G σ H Q, ER X.K ρ H E σ → SR X.K ρ G H → Out X.K XP (VR X.K) σ ρ H (mb E G) Q → tb σ H Q)
    (hc : ∀ ρ E G σ H Q, ER X.K ρ H E σ → SR X.K ρ G H → Out X.K XP (VR X.K) σ ρ H (mc E G) Q → tc σ H Q)
    (hr : ∀ ρ G σ H x y v u Q, SR X.K ρ G H → VR X.K ρ H x v → VR X.K ρ H y u → Out X.K XP (VR X.K) σ ρ H (g G x y) Q → r v u H Q)
    (hr' : ∀ ρ G σ H x y v u Q, SR X.K ρ G H → VR X.K ρ H x v → VR X.K ρ H y u → Out X.K XP (VR X.K) σ ρ H (g' G x y) Q → r' v u H Q) :
    ∀ ρ E G σ H Q, ER X.K ρ H E σ → SR X.K ρ G H → Out X.K XP (VR X.K) σ ρ H (mChain g g' ma mb mc E G) Q → tChain r r' ta tb tc σ H Q := by
  intro ρ E G σ H Q er sr h
  refine ha ρ E G σ H _ er sr (h.bind fun x G1 ρ1 H1 v e1 s1 r1 h1 => ?_)
  refine hb ρ1 E G1 σ H1 _ (er.mono e1) s1 (h1.bind fun y G2 ρ2 H2 u e2 s2 r2 h2 => ?_)
  refine hr ρ2 G2 σ H2 x y v u _ s2 (r1.mono e2) r2 (h2.bind fun z G3 ρ3 H3 zv e3 s3 r3 h3 => ?_)
  cases r3 with
  | bl b =>
    cases b with
    | true =>
      refine ⟨true, rfl, ?_⟩
      rw [if_pos rfl]
      refine hc ρ3 E G3 σ H3 _ (er.mono (e1.trans (e2.trans e3))) s3 (h3.bind fun w' G4 ρ4 H4 wv e4 s4 r4 h4 => ?_)
      exact hr' ρ4 G4 σ H4 y w' u wv Q s4 (r2.mono (e3.trans e4)) r4 h4
    | false =>
      refine ⟨false, rfl, ?_⟩
      rw [if_neg Bool.false_ne_true]
      exact h3.ok s3 (.bl false)
  | _ => exact h3.elim
theorem he_chain {op op' : CmpOp} {a b c : Expr} {ma mb mc : ME} {g g' : GOp} (ho : OpG X XP (compareOp op) g) (ho' : OpG X XP (compareOp op') g') (ha : HE X XP a ma) (hb : HE X XP b mb) (hc : HE X XP c mc)
    (hm : lastMarks [op, op'] [b, c] = false := by with_unfolding_all rfl) : HE X XP (.Compare a [op, op'] [b, c] pos) (mChain g g' ma mb mc) := by
  obtain ⟨r, h1, h2⟩ := ho.ex
  obtain ⟨r', h1', h2'⟩ := ho'.ex
  obtain ⟨ta, a1, a2⟩ := ha.ex
  obtain ⟨tb, b1, b2⟩ := hb.ex
  obtain ⟨tc, c1, c2⟩ := hc.ex
  exact ⟨_, pe_chain h1 h1' a1 b1 c1 hm, chain_run a2 b2 c2 h2 h2'⟩
theorem ht_chain {op op' : CmpOp} {a b c : Expr} {ma mb mc : ME} {g g' : GOp} (ho : OpG X XP (compareOp op) g) (ho' : OpG X XP (compareOp op') g') (ha : HE X XP a ma) (hb : HE X XP b mb) (hc : HE X XP c mc)
    (hm : lastMarks [op, op'] [b, c] = false := by with_unfolding_all rfl) : HT X XP (.Compare a [op, op'] [b, c] pos) (mTest (mChain g g' ma mb mc)) := by
  obtain ⟨r, h1, h2⟩ := ho.ex
  obtain ⟨r', h1', h2'⟩ := ho'.ex
  obtain ⟨ta, a1, a2⟩ := ha.ex
  obtain ⟨tb, b1, b2⟩ := hb.ex
  obtain ⟨tc, c1, c2⟩ := hc.ex
  exact ⟨_, pt_chain h1 h1' a1 b1 c1 hm, test_run (chain_run a2 b2 c2 h2 h2')⟩

/-! ### truth -/
def truW (G : Cells) : W → Option Bool
  | .non => some false
  | .bl b => some b
  | .int i => some (i != 0)
  | .str y => if y.length ≤ sizeLine then some ((y.length : Int) != 0) else none
  | .tup ws => some (!ws.isEmpty)
  | .ref n => match G[n]? with
    | some (.lst ws) => some (!ws.isEmpty)
    | some (.rol ws) => some (!ws.isEmpty)
    | some (.dct kvs) => some (!kvs.isEmpty)
    | none => none
  | .ty _ => none
theorem VRs.empty {K : Fg} {ρ : List Addr} {H : Hp} {ws : List W} {vs : List V} (h : VRs K ρ H ws vs) : ws.isEmpty = vs.isEmpty := by cases h <;> rfl
theorem tru_of {K : Fg} {ρ : List Addr} {G : Cells} {H : Hp} {w : W} {v : V} {b : Bool} (s : SR K ρ G H) (r : VR K ρ H w v) (h : truW G w = some b) : TruV K v H b := by
  cases r with
  | non => exact (Option.some.inj h).symm
  | bl k => exact (Option.some.inj h).symm
  | int i => exact (Option.some.inj h).symm
  | str y =>
    simp only [truW] at h
    split at h
    · rename_i hl
      exact ⟨hl, (Option.some.inj h).symm⟩
    · cases h
  | ty s => cases h
  | tup h1 h2 =>
    have e := (Option.some.inj h).symm
    exact .inr (.inl ⟨_, h1, by rw [e, h2.empty]⟩)
  | @ref n a h1 =>
    obtain ⟨c, hc⟩ := s.at h1
    have k := s.cell n c a hc h1
    simp only [truW, hc] at h
    cases c with
    | lst ws =>
      obtain ⟨vs, q1, q2⟩ := k
      have e := (Option.some.inj h).symm
      exact .inl ⟨vs, .of q1, by rw [e, q2.empty]⟩
    | rol ws =>
      obtain ⟨vs, q1, q2⟩ := k
      have e := (Option.some.inj h).symm
      refine .inl ⟨vs, ?_, by rw [e, q2.empty]⟩
      rcases q1 with ⟨o, q1⟩ | q1
      · exact .inl (.inr ⟨o, q1⟩)
      · exact .inr q1
    | dct kvs =>
      obtain ⟨vs, q1, q2⟩ := k
      have e := (Option.some.inj h).symm
      refine .inr (.inr ⟨vs, q1, ?_⟩)
      rw [e]
      cases q2 <;> rfl
def mTru (m : ME) : MT := fun E G => (m E G).bind fun w G' => match truW G' w with | some b => .ok b G' | none => .no
theorem ht_truth {a : Expr} {m : ME} (ha : HE X XP a m) (he : ∀ whole, isTrue a X.env whole = (do let v ← whole; standAt a.pos; holding [v] (truthy v)) := by intro _; rfl) : HT X XP a (mTru m) := by
  obtain ⟨ta, a1, a2⟩ := ha.ex
  refine ⟨_, pt_truth a1 he, fun ρ E G σ H Q er sr q => a2 ρ E G σ H _ er sr (q.bind fun w G1 ρ1 H1 v e1 s1 r1 h1 => ?_)⟩
  split at h1
  · rename_i b hb
    exact ⟨b, tru_of s1 r1 hb, h1.ok s1 rfl⟩
  · exact h1.elim
def mNotT (m : MT) : MT := fun E G => (m E G).bind fun b G' => .ok (!b) G'
theorem ht_not {a : Expr} {m : MT} (ha : HT X XP a m) : HT X XP (.UnaryOp .Not a pos) (mNotT m) := by
  obtain ⟨ta, a1, a2⟩ := ha.ex
  exact ⟨_, pt_not a1, fun ρ E G σ H Q er sr q => a2 ρ E G σ H _ er sr (q.bind fun w G1 ρ1 H1 v e1 s1 r1 h1 => by cases r1; exact h1.ok s1 rfl)⟩
structure HW (X : Cx) (XP : Wish) (e : Expr) (m : MT) : Prop where
  ex : ∃ t, PW X e t ∧ ∀ ρ E G σ H Q, ER X.K ρ H E σ → SR X.K ρ G H → Out X.K XP BR σ ρ H (m E G) Q → t σ H Q
theorem HW.ht {e : Expr} {m : MT} (h : HW X XP e m) : HT X XP e m := by
  obtain ⟨t, h1, h2⟩ := h.ex
  exact ⟨t, h1.pt, h2⟩
def mAndT (ma mb : MT) : MT := fun E G => (ma E G).bind fun b G' => if b = true then mb E G' else .ok false G'
def mOrT (ma mb : MT) : MT := fun E G => (ma E G).bind fun b G' => if b = true then .ok true G' else mb E G'
theorem hw_and1 {a : Expr} {m : MT} (ha : HT X XP a m) : HW X XP (.BoolOp .And [a] pos) m := by
  obtain ⟨t, h1, h2⟩ := ha.ex
  exact ⟨_, pw_and1 h1, h2⟩
theorem hw_or1 {a : Expr} {m : MT} (ha : HT X XP a m) : HW X XP (.BoolOp .Or [a] pos) m := by
  obtain ⟨t, h1, h2⟩ := ha.ex
  exact ⟨_, pw_or1 h1, h2⟩
theorem hw_and {a b : Expr} {rest : List Expr} {ma mb : MT} (ha : HT X XP a ma) (hb : HW X XP (.BoolOp .And (b :: rest) pos) mb) : HW X XP (.BoolOp .And (a :: b :: rest) pos) (mAndT ma mb) := by
  obtain ⟨ta, a1, a2⟩ := ha.ex
  obtain ⟨tb, b1, b2⟩ := hb.ex
  refine ⟨_, pw_and a1 b1, fun ρ E G σ H Q er sr q => a2 ρ E G σ H _ er sr (q.bind fun w G1 ρ1 H1 v e1 s1 r1 h1 => ?_)⟩
  cases r1
  cases w with
  | true => rw [if_pos rfl]; exact b2 ρ1 E G1 σ H1 Q (er.mono e1) s1 (by simpa using h1)
  | false => rw [if_neg Bool.false_ne_true]; exact Out.ok (by simpa using h1) s1 rfl
theorem hw_or {a b : Expr} {rest : List Expr} {ma mb : MT} (ha : HT X XP a ma) (hb : HW X XP (.BoolOp .Or (b :: rest) pos) mb) : HW X XP (.BoolOp .Or (a :: b :: rest) pos) (mOrT ma mb) := by
  obtain ⟨ta, a1, a2⟩ := ha.ex
  obtain ⟨tb, b1, b2⟩ := hb.ex
  refine ⟨_, pw_or a1 b1, fun ρ E G σ H Q er sr q => a2 ρ E G σ H _ er sr (q.bind fun w G1 ρ1 H1 v e1 s1 r1 h1 => ?_)⟩
  cases r1
  cases w with
  | true => rw [if_pos rfl]; exact Out.ok (by simpa using h1) s1 rfl
  | false => rw [if_neg Bool.false_ne_true]; exact b2 ρ1 E G1 σ H1 Q (er.mono e1) s1 (by simpa using h1)
/-- x and y, x or y, not x as values -/
def mAnd (ma mb : ME) : ME := fun E G => (ma E G).bind fun w G' => match truW G' w with | some true => mb E G' | some false => .ok w G' | none => .no
def mOr (ma mb : ME) : ME := fun E G => (ma E G).bind fun w G' => match truW G' w with | some true => .ok w G' | some false => mb E G' | none => .no
def mNot (ma : ME) : ME := fun E G => (ma E G).bind fun w G' => match truW G' w with | some b => .ok (.bl (!b)) G' | none => .no
theorem he_one {op : BoolOp} {a : Expr} {m : ME} (ha : HE X XP a m) : HE X XP (.BoolOp op [a] pos) m := by
  obtain ⟨t, h1, h2⟩ := ha.ex
  exact ⟨_, pe_one h1, h2⟩
theorem he_and {a b : Expr} {rest : List Expr} {ma mb : ME} (ha : HE X XP a ma) (hb : HE X XP (.BoolOp .And (b :: rest) pos) mb) : HE X XP (.BoolOp .And (a :: b :: rest) pos) (mAnd ma mb) := by
  obtain ⟨ta, a1, a2⟩ := ha.ex
  obtain ⟨tb, b1, b2⟩ := hb.ex
  refine ⟨_, pe_andT a1 b1, fun ρ E G σ H Q er sr q => a2 ρ E G σ H _ er sr (q.bind fun w G1 ρ1 H1 v e1 s1 r1 h1 => ?_)⟩
  split at h1
  · rename_i hb; exact ⟨true, tru_of s1 r1 hb, by rw [if_pos rfl]; exact b2 ρ1 E G1 σ H1 Q (er.mono e1) s1 h1⟩
  · rename_i hb; exact ⟨false, tru_of s1 r1 hb, by rw [if_neg Bool.false_ne_true]; exact h1.ok s1 r1⟩
  · exact h1.elim
theorem he_or {a b : Expr} {rest : List Expr} {ma mb : ME} (ha : HE X XP a ma) (hb : HE X XP (.BoolOp .Or (b :: rest) pos) mb) : HE X XP (.BoolOp .Or (a :: b :: rest) pos) (mOr ma mb) := by
  obtain ⟨ta, a1, a2⟩ := ha.ex
  obtain ⟨tb, b1, b2⟩ := hb.ex
  refine ⟨_, pe_orT a1 b1, fun ρ E G σ H Q er sr q => a2 ρ E G σ H _ er sr (q.bind fun w G1 ρ1 H1 v e1 s1 r1 h1 => ?_)⟩
  split at h1
  · rename_i hb; exact ⟨true, tru_of s1 r1 hb, by rw [if_pos rfl]; exact h1.ok s1 r1⟩
  · rename_i hb; exact ⟨false, tru_of s1 r1 hb, by rw [if_neg Bool.false_ne_true]; exact b2 ρ1 E G1 σ H1 Q (er.mono e1) s1 h1⟩
  · exact h1.elim
theorem he_not {a : Expr} {ma : ME} (ha : HE X XP a ma) : HE X XP (.UnaryOp .Not a pos) (mNot ma) := by
  obtain ⟨ta, a1, a2⟩ := ha.ex
  refine ⟨_, pe_notT a1, fun ρ E G σ H Q er sr q => a2 ρ E G σ H _ er sr (q.bind fun w G1 ρ1 H1 v e1 s1 r1 h1 => ?_)⟩
  split at h1
  · rename_i b hb; exact ⟨b, tru_of s1 r1 hb, h1.ok s1 (.bl _)⟩
  · exact h1.elim
def mIf (t : MT) (ma mb : ME) : ME := fun E G => (t E G).bind fun b G' => if b = true then ma E G' else mb E G'
theorem he_if {c a b : Expr} {t : MT} {ma mb : ME} (hc : HT X XP c t) (ha : HE X XP a ma) (hb : HE X XP b mb) : HE X XP (.IfExp c a b pos) (mIf t ma mb) := by
  obtain ⟨tc, c1, c2⟩ := hc.ex
  obtain ⟨ta, a1, a2⟩ := ha.ex
  obtain ⟨tb, b1, b2⟩ := hb.ex
  refine ⟨_, pe_ifExp c1 a1 b1, fun ρ E G σ H Q er sr q => c2 ρ E G σ H _ er sr (q.bind fun w G1 ρ1 H1 v e1 s1 r1 h1 => ?_)⟩
  cases r1
  cases w with
  | true => rw [if_pos rfl]; exact a2 ρ1 E G1 σ H1 Q (er.mono e1) s1 (by simpa using h1)
  | false => rw [if_neg Bool.false_ne_true]; exact b2 ρ1 E G1 σ H1 Q (er.mono e1) s1 (by simpa using h1)
def mNeg (m : ME) : ME := fun E G => (m E G).bind fun w G' => match w with | .int i => .ok (.int (-i)) G' | _ => .no
theorem he_neg {a : Expr} {m : ME} (ha : HE X XP a m) : HE X XP (.UnaryOp .USub a pos) (mNeg m) := by
  obtain ⟨ta, a1, a2⟩ := ha.ex
  refine ⟨_, pe_un un_neg a1, fun ρ E G σ H Q er sr q => a2 ρ E G σ H _ er sr (q.bind fun w G1 ρ1 H1 v e1 s1 r1 h1 => ?_)⟩
  cases r1 <;> first | exact h1.elim | exact ⟨_, rfl, h1.ok s1 (.int _)⟩

/-! ### arguments, displays -/
def mNil : MA := fun _ G => .ok [] G
def mCons (ma : ME) (mr : MA) : MA := fun E G => (ma E G).bind fun w G1 => (mr E G1).bind fun ws G2 => .ok (w :: ws) G2
theorem ha_nil : HA X XP [] mNil := ⟨_, pa_nil, fun ρ E G σ H Q er sr q => q.ok sr .nil⟩
theorem ha_cons {e : Expr} {es : List Expr} {ma : ME} {mr : MA} (ha : HE X XP e ma) (hr : HA X XP es mr) (hs : starEach (e :: es) X.env = (false, eval e X.env) :: starEach es X.env := by rfl) : HA X XP (e :: es) (mCons ma mr) := by
  obtain ⟨ta, a1, a2⟩ := ha.ex
  obtain ⟨tr, r1, r2⟩ := hr.ex
  refine ⟨_, pa_cons a1 r1 hs, fun ρ E G σ H Q er sr q => a2 ρ E G σ H _ er sr (q.bind fun w G1 ρ1 H1 v e1 s1 q1 h1 => ?_)⟩
  exact r2 ρ1 E G1 σ H1 _ (er.mono e1) s1 (h1.bind fun ws G2 ρ2 H2 vs e2 s2 q2 h2 => h2.ok s2 (.cons (q1.mono e2) q2))
def mTup (m : MA) : ME := fun E G => (m E G).bind fun ws G' => if ws.length ≤ sizeLine then .ok (.tup ws) G' else .no
def mLst (m : MA) : ME := fun E G => (m E G).bind fun ws G' => if ws.length ≤ sizeLine then .ok (.ref G'.length) (G' ++ [.lst ws]) else .no
/-- a new tuple -/
theorem out_tup {Q : VK} {σ : St} {ρ : List Addr} {H : Hp} {G : Cells} {ws : List W} {vs : List V} {p : Addr} (h : Out X.K XP (VR X.K) σ ρ H (.ok (.tup ws) G) Q) (s : SR X.K ρ G H) (r : VRs X.K ρ H ws vs) (hp : H p = none) : Q (.ref p) (upd H p (.tup vs)) :=
  h ρ _ _ (ext_upd (.inl hp) fun _ _ h => h) (s.fresh hp) (.tup (.of upd_same) (r.mono (ext_upd (.inl hp) fun _ _ h => h)))
theorem last_get {α : Type} (l : List α) (x : α) : (l ++ [x])[l.length]? = some x := by simp
/-- a new list -/
theorem out_lst {Q : VK} {σ : St} {ρ : List Addr} {H : Hp} {G : Cells} {ws : List W} {vs : List V} {p : Addr} (h : Out X.K XP (VR X.K) σ ρ H (.ok (.ref G.length) (G ++ [.lst ws])) Q) (s : SR X.K ρ G H) (r : VRs X.K ρ H ws vs) (hp : H p = none) : Q (.ref p) (upd H p (.lst vs)) :=
  h (ρ ++ [p]) _ _ (ext_alloc hp) (s.alloc hp ⟨vs, upd_same, r.mono (ext_alloc hp)⟩) (.ref (by rw [← s.len]; exact last_get _ _))
theorem he_tup {es : List Expr} {m : MA} {x1} (h : HA X XP es m) : HE X XP (.Tuple es x1 pos) (mTup m) := by
  obtain ⟨t, h1, h2⟩ := h.ex
  refine ⟨_, pe_tup h1, fun ρ E G σ H Q er sr q => h2 ρ E G σ H _ er sr (q.bind fun ws G1 ρ1 H1 vs e1 s1 r1 k1 => ?_)⟩
  split at k1
  · rename_i hl
    exact ⟨by rw [← r1.length]; exact hl, fun p hp => out_tup k1 s1 r1 hp⟩
  · exact k1.elim
theorem he_lst {es : List Expr} {m : MA} (h : HA X XP es m) : HE X XP (.List es pos) (mLst m) := by
  obtain ⟨t, h1, h2⟩ := h.ex
  refine ⟨_, pe_lst h1, fun ρ E G σ H Q er sr q => h2 ρ E G σ H _ er sr (q.bind fun ws G1 ρ1 H1 vs e1 s1 r1 k1 => ?_)⟩
  split at k1
  · rename_i hl
    exact ⟨by rw [← r1.length]; exact hl, fun p hp => out_lst k1 s1 r1 hp⟩
  · exact k1.elim

/-! ### calls of built-ins by values -/
abbrev GCall := Cells → List W → Rs W
structure CaG (X : Cx) (XP : Wish) (f : Value) (g : GCall) : Prop where
  ex : ∃ r, CallR X f r ∧ ∀ ρ G σ H ws vs Q, SR X.K ρ G H → VRs X.K ρ H ws vs → Out X.K XP (VR X.K) σ ρ H (g G ws) Q → r vs H Q
def mCall (g : GCall) (m : MA) : ME := fun E G => (m E G).bind fun ws G' => g G' ws
theorem he_callB {x : Str} {p : Pos} {e : Expr} {es : List Expr} {id : String} {g : GCall} {m : MA} (hc : CaG X XP (.builtin id) g) (hg : Gl X x) (hm : X.mg x = none) (hv : bootBuiltins x = some (.builtin id)) (ha : HA X XP (e :: es) m) (hn : x ≠ "__name__" := by decide) (hdb : (x == ("__debug__" : Str)) = false := by decide)
    (he : starEach (e :: es) X.env = (false, eval e X.env) :: starEach es X.env := by rfl) (hpl : (backTo pos (starEach es X.env)).any (·.1) = false := by rfl) : HE X XP (.Call (.Name x p) (e :: es) [] pos) (mCall g m) := by
  obtain ⟨r, h1, h2⟩ := hc.ex
  obtain ⟨t, a1, a2⟩ := ha.ex
  exact ⟨_, pe_callB h1 hg hm hv a1 hn hdb he hpl, fun ρ E G σ H Q er sr q => a2 ρ E G σ H _ er sr (q.bind fun ws G1 ρ1 H1 vs e1 s1 q1 k1 => h2 ρ1 G1 σ H1 ws vs Q s1 q1 k1)⟩
theorem he_callTy {x : Str} {p : Pos} {e : Expr} {es : List Expr} {T : String} {g : GCall} {m : MA} (hc : CaG X XP (.type T) g) (hg : Gl X x) (hm : X.mg x = none) (hv : bootBuiltins x = some (.type T)) (ha : HA X XP (e :: es) m) (hn : x ≠ "__name__" := by decide) (hdb : (x == ("__debug__" : Str)) = false := by decide)
    (he : starEach (e :: es) X.env = (false, eval e X.env) :: starEach es X.env := by rfl) (hpl : (backTo pos (starEach es X.env)).any (·.1) = false := by rfl) : HE X XP (.Call (.Name x p) (e :: es) [] pos) (mCall g m) := by
  obtain ⟨r, h1, h2⟩ := hc.ex
  obtain ⟨t, a1, a2⟩ := ha.ex
  exact ⟨_, pe_callTy h1 hg hm hv a1 hn hdb he hpl, fun ρ E G σ H Q er sr q => a2 ρ E G σ H _ er sr (q.bind fun ws G1 ρ1 H1 vs e1 s1 q1 k1 => h2 ρ1 G1 σ H1 ws vs Q s1 q1 k1)⟩
end
end PL
/- part PLc -/
set_option maxHeartbeats 4000000
namespace PL
open PySem PySem.Spec PyProof.Rows L2
section
variable {X : Cx} {XP : Wish} {pos : Pos}

/-! ### what a reference holds -/
theorem cell_lst {K : Fg} {ρ : List Addr} {G : Cells} {H : Hp} {n : Nat} {a : Addr} {ws : List W} (s : SR K ρ G H) (h : ρ[n]? = some a) (e : G[n]? = some (.lst ws)) : ∃ vs, H a = some (.lst vs) ∧ VRs K ρ H ws vs := s.cell n _ a e h
theorem cell_dct {K : Fg} {ρ : List Addr} {G : Cells} {H : Hp} {n : Nat} {a : Addr} {kvs : List (Key × W)} (s : SR K ρ G H) (h : ρ[n]? = some a) (e : G[n]? = some (.dct kvs)) : ∃ q, H a = some (.dK q) ∧ KVR K ρ H kvs q := s.cell n _ a e h
/-- a list that is read -/
def rdL (G : Cells) (n : Nat) : Option (List W) := match G[n]? with
  | some (.lst ws) => some ws
  | some (.rol ws) => some ws
  | _ => none
theorem rdL_ok {K : Fg} {ρ : List Addr} {G : Cells} {H : Hp} {n : Nat} {a : Addr} {ws : List W} (s : SR K ρ G H) (h : ρ[n]? = some a) (e : rdL G n = some ws) : ∃ vs, SqL K H a vs ∧ VRs K ρ H ws vs := by
  unfold rdL at e
  split at e
  · rename_i hc; cases e
    obtain ⟨vs, h1, h2⟩ := s.cell n _ a hc h
    exact ⟨vs, .of h1, h2⟩
  · rename_i hc; cases e
    obtain ⟨vs, h1, h2⟩ := s.cell n _ a hc h
    refine ⟨vs, ?_, h2⟩
    rcases h1 with ⟨o, h1⟩ | h1
    · exact .inl (.inr ⟨o, h1⟩)
    · exact .inr h1
  · cases e
/-- what may be read item by item: a list, a tuple -/
def rdS (G : Cells) : W → Option (List W)
  | .tup ws => some ws
  | .ref n => rdL G n
  | _ => none
theorem rdS_ok {K : Fg} {ρ : List Addr} {G : Cells} {H : Hp} {w : W} {v : V} {ws : List W} (s : SR K ρ G H) (r : VR K ρ H w v) (e : rdS G w = some ws) : ∃ a vs, v = .ref a ∧ (SqL K H a vs ∨ SqT K H a vs) ∧ VRs K ρ H ws vs := by
  cases r with
  | tup h1 h2 => cases e; exact ⟨_, _, rfl, .inr h1, h2⟩
  | ref h1 => obtain ⟨vs, q1, q2⟩ := rdL_ok s h1 e; exact ⟨_, vs, rfl, .inl q1, q2⟩
  | _ => cases e

/-! ### arithmetic -/
def addW : GOp := fun G x y => match x, y with
  | .int i, .int j => .ok (.int (i + j)) G
  | .int i, .bl k => .ok (.int (i + b2i k)) G
  | .str i, .str j => if i.length + j.length ≤ sizeLine then .ok (.str (i ++ j)) G else .no
  | .tup xs, .tup ys => if xs.length + ys.length ≤ sizeLine then .ok (.tup (xs ++ ys)) G else .no
  | .ref n, .ref m => match G[n]?, G[m]? with
    | some (.lst xs), some (.lst ys) => if xs.length + ys.length ≤ sizeLine then .ok (.ref G.length) (G ++ [.lst (xs ++ ys)]) else .no
    | _, _ => .no
  | _, _ => .no
theorem og_add : OpG X XP (binaryOp .Add) addW := by
  refine ⟨_, op_add.or (op_add_ib.or (op_add_str.or (op_catA.or op_cat))), fun ρ G σ H x y v u Q s rx ry h => ?_⟩
  unfold addW at h
  split at h
  · cases rx; cases ry
    exact .inl ⟨_, _, rfl, rfl, h.ok s (.int _)⟩
  · cases rx; cases ry
    exact .inr (.inl ⟨_, _, rfl, rfl, h.ok s (.int _)⟩)
  · cases rx; cases ry
    split at h
    · rename_i hl; exact .inr (.inr (.inl ⟨_, _, rfl, rfl, hl, h.ok s (.str _)⟩))
    · exact h.elim
  · cases rx with
    | tup a1 a2 =>
      cases ry with
      | tup b1 b2 =>
        split at h
        · rename_i hl
          refine .inr (.inr (.inr (.inl ⟨_, _, _, _, rfl, rfl, a1, b1, by rw [← a2.length, ← b2.length]; exact hl, fun e => ?_, fun _ e => ?_, fun _ _ p hp => out_tup h s (a2.append b2) hp⟩)))
          · subst e; cases a2; exact h.ok s (.tup b1 b2)
          · subst e; cases b2; exact h.ok s (.tup a1 (by rw [List.append_nil]; exact a2))
        · exact h.elim
  · cases rx with
    | ref a1 =>
      cases ry with
      | ref b1 =>
        split at h
        · rename_i xs ys e1 e2
          split at h
          · rename_i hl
            obtain ⟨vs, q1, q2⟩ := cell_lst s a1 e1
            obtain ⟨us, k1, k2⟩ := cell_lst s b1 e2
            exact .inr (.inr (.inr (.inr ⟨_, _, _, _, rfl, rfl, q1, k1, by rw [← q2.length, ← k2.length]; exact hl, fun p hp => out_lst h s (q2.append k2) hp⟩)))
          · exact h.elim
        · exact h.elim
  · exact h.elim
def subW : GOp := fun G x y => match x, y with
  | .int i, .int j => .ok (.int (i - j)) G
  | _, _ => .no
theorem og_sub : OpG X XP (binaryOp .Sub) subW := by
  refine ⟨_, op_sub, fun ρ G σ H x y v u Q s rx ry h => ?_⟩
  unfold subW at h
  split at h
  · cases rx; cases ry; exact ⟨_, _, rfl, rfl, h.ok s (.int _)⟩
  · exact h.elim
def mulOk (i j : Int) : Bool := (decide (-(2 ^ 64) < i) && decide (i < 2 ^ 64)) || (decide (-(2 ^ 64) < j) && decide (j < 2 ^ 64))
theorem mulOk_c {i j : Int} (h : mulOk i j = true) : CMul i j := by
  unfold mulOk at h
  simp only [Bool.or_eq_true, Bool.and_eq_true, decide_eq_true_eq] at h
  exact h
/-- t * 1 -/
theorem tuple_mul_one (l : Addr) (items : Array Value) (n : Nat) (dd : Option Addr) (sl : Array (Option Value)) (x : Int) (u : Tok) (c0 : (decide (x < -(2 ^ 63)) || decide (x ≥ 2 ^ 63)) = false) (c1 : (items.isEmpty || x == 1) = true) :
    Meets (Builtin.«tuple.__mul__» ⟨[.ref l, .int x u], []⟩) (fun _ R s => s.heap.get? l = some { cls := .type "tuple", dict := dd, data := .seq items n, slots := sl } ∧ R (.ok (.ret (Value.ref l))) s) :=
  .of_wp fun prog w A R s h => by
    obtain ⟨hp, g, d, tk, os⟩ := s
    obtain ⟨hl, h⟩ := h
    have f1 := AutoSeq1.idx_int
    wp_walk using wpAny_loadPart' hl
    all_goals repeat (first
      | (refine wpAny_ite_false (decide_eq_false (by rw [c0]; exact Bool.false_ne_true)) ?_; wp_walk using wpAny_loadPart' hl)
      | (refine wpAny_ite_true (decide_eq_true c1) ?_; wp_walk using wpAny_loadPart' hl))
    exact ⟨_, rfl, h⟩
def rRep1 (K : Fg) : R2 := fun x y H Q => ∃ l k xs, x = .ref l ∧ y = .int k ∧ SqT K H l xs ∧ (xs = [] ∨ k = 1) ∧ -(2 ^ 62) ≤ k ∧ k ≤ 2 ^ 62 ∧ Q (.ref l) H
theorem op_rep1 : OpR X (binaryOp .Mult) (rRep1 X.K) := by
  intro pins s σ H x y v u Q I rx ry h
  obtain ⟨l, k, xs, rfl, rfl, hT, hk, k1, k2, q⟩ := h
  cases rx
  obtain ⟨t, rfl⟩ := ry
  obtain ⟨its, r, ⟨⟨cls, dd, data, sl⟩, ho, hc, n, hd⟩, hs⟩ := I.tuple hT
  simp only at hc hd
  subst hc hd
  have c0 : (decide (k < -(2 ^ 63)) || decide (k ≥ 2 ^ 63)) = false := by
    rw [decide_eq_false (by omega), decide_eq_false (by omega)] <;> rfl
  have c1 : (its.toArray.isEmpty || k == 1) = true := by
    rcases hk with e | e
    · subst e; cases r; rfl
    · subst e; simp
  exact wpAny_binaryOp_repeat_ref (T := "tuple") (U := "int") (by decide) ⟨_, ho, rfl⟩ (fun s' => typeIs_int s' k t) noFill_tuple_mul F.fills_int_mul F.slot_int_rmul repeat_tuple F.slot_int_index.lookup
    (call_meets F.slot_int_rmul (typeIs_int s k t) F.entry_int_rmul (F.args_int_rmul_2 _ _) (int_rmul_tuple k t l its.toArray n dd sl)
      ⟨ho, rfl, ⟨_, ho, rfl⟩, call_meets F.slot_tuple_mul ⟨_, ho, rfl⟩ F.entry_tuple_mul (F.args_tuple_mul_2 _ _) (tuple_mul_one l its.toArray n dd sl k t c0 c1) ⟨ho, .ref l, H, I, rfl, q⟩⟩)
def mulW : GOp := fun G x y => match x, y with
  | .int i, .int j => if mulOk i j = true then .ok (.int (i * j)) G else .no
  | .tup xs, .int k =>
    if (xs.isEmpty || k == 1) && decide (-(2 ^ 62) ≤ k) && decide (k ≤ 2 ^ 62) then .ok (.tup xs) G
    else if !xs.isEmpty && decide (2 ≤ k) && decide (k ≤ 1000) && decide (xs.length ≤ 1000) then .ok (.tup (List.replicate k.toNat xs).flatten) G
    else .no
  | .ref n, .int k => match G[n]? with
    | some (.lst xs) => if decide (-(2 ^ 63) ≤ k) && decide (k < 2 ^ 63) && decide (xs.length * k.toNat ≤ sizeLine) then .ok (.ref G.length) (G ++ [.lst (List.replicate k.toNat xs).flatten]) else .no
    | _ => .no
  | _, _ => .no
theorem og_mul : OpG X XP (binaryOp .Mult) mulW := by
  refine ⟨_, op_mul.or (op_rep1.or (op_repT.or op_rep)), fun ρ G σ H x y v u Q s rx ry h => ?_⟩
  unfold mulW at h
  split at h
  · cases rx; cases ry
    split at h
    · rename_i hm; exact .inl ⟨_, _, rfl, rfl, mulOk_c hm, h.ok s (.int _)⟩
    · exact h.elim
  · cases rx with
    | tup a1 a2 =>
      cases ry
      split at h
      · rename_i hc
        simp only [Bool.and_eq_true, Bool.or_eq_true, decide_eq_true_eq, List.isEmpty_iff, beq_iff_eq] at hc
        refine .inr (.inl ⟨_, _, _, rfl, rfl, a1, ?_, hc.1.2, hc.2, h.ok s (.tup a1 a2)⟩)
        rcases hc.1.1 with e | e
        · subst e; cases a2; exact .inl rfl
        · exact .inr e
      · split at h
        · rename_i hc
          simp only [Bool.and_eq_true, Bool.not_eq_true', decide_eq_true_eq] at hc
          have hl := a2.length
          refine .inr (.inr (.inl ⟨_, _, _, rfl, rfl, a1, fun e => ?_, hc.1.1.2, hc.1.2, by omega, fun p hp => out_tup h s (a2.rep _) hp⟩))
          subst e; cases a2; exact absurd hc.1.1.1 (by decide)
        · exact h.elim
  · cases rx with
    | ref a1 =>
      cases ry
      split at h
      · rename_i xs e1
        split at h
        · rename_i hc
          simp only [Bool.and_eq_true, decide_eq_true_eq] at hc
          obtain ⟨vs, q1, q2⟩ := cell_lst s a1 e1
          exact .inr (.inr (.inr ⟨_, _, _, rfl, rfl, q1, hc.1.1, hc.1.2, by rw [← q2.length]; exact hc.2, fun p hp => out_lst h s (q2.rep _) hp⟩))
        · exact h.elim
      · exact h.elim
  · exact h.elim
def modW : GOp := fun G x y => match x, y with
  | .int i, .int j => if 0 < j then .ok (.int (i % j)) G else .no
  | _, _ => .no
theorem og_mod : OpG X XP (binaryOp .Mod) modW := by
  refine ⟨_, op_mod, fun ρ G σ H x y v u Q s rx ry h => ?_⟩
  unfold modW at h
  split at h
  · cases rx; cases ry
    split at h
    · rename_i hj; exact ⟨_, _, rfl, rfl, hj, h.ok s (.int _)⟩
    · exact h.elim
  · exact h.elim
def fdivW : GOp := fun G x y => match x, y with
  | .int i, .int j => if 0 < j ∧ j < 1073741824 then .ok (.int (i / j)) G else .no
  | _, _ => .no
theorem og_fdiv : OpG X XP (binaryOp .FloorDiv) fdivW := by
  refine ⟨_, op_fdiv, fun ρ G σ H x y v u Q s rx ry h => ?_⟩
  unfold fdivW at h
  split at h
  · cases rx; cases ry
    split at h
    · rename_i hj; exact ⟨_, _, rfl, rfl, hj, h.ok s (.int _)⟩
    · exact h.elim
  · exact h.elim
def powW : GOp := fun G x y => match x, y with
  | .int i, .int j => if 0 ≤ j ∧ j ≤ 1000000 ∧ i.natAbs < 2 ^ 64 then .ok (.int (i ^ j.toNat)) G else .no
  | _, _ => .no
theorem og_pow : OpG X XP (binaryOp .Pow) powW := by
  refine ⟨_, op_pow, fun ρ G σ H x y v u Q s rx ry h => ?_⟩
  unfold powW at h
  split at h
  · cases rx; cases ry
    split at h
    · rename_i hj; exact ⟨_, _, rfl, rfl, hj, h.ok s (.int _)⟩
    · exact h.elim
  · exact h.elim
/-- comparisons of ints -/
def cmpI (p : Int → Int → Bool) : GOp := fun G x y => match x, y with
  | .int i, .int j => .ok (.bl (p i j)) G
  | _, _ => .no
theorem og_cmpI {f : Value → Value → Sem Value} {p : Int → Int → Bool} (h0 : OpR X f (rI0 fun i j => .bl (p i j))) : OpG X XP f (cmpI p) := by
  refine ⟨_, h0, fun ρ G σ H x y v u Q s rx ry h => ?_⟩
  unfold cmpI at h
  split at h
  · cases rx; cases ry; exact ⟨_, _, rfl, rfl, h.ok s (.bl _)⟩
  · exact h.elim
abbrev ltW := cmpI fun i j => decide (i < j)
abbrev leW := cmpI fun i j => decide (i ≤ j)
abbrev gtW := cmpI fun i j => decide (j < i)
abbrev geW := cmpI fun i j => decide (j ≤ i)
theorem og_lt : OpG X XP (compareOp .Lt) ltW := og_cmpI op_lt
theorem og_le : OpG X XP (compareOp .LtE) leW := og_cmpI op_le
theorem og_gt : OpG X XP (compareOp .Gt) gtW := og_cmpI op_gt
theorem og_ge : OpG X XP (compareOp .GtE) geW := og_cmpI op_ge
/-- is None -/
def W.isNone : W → Bool
  | .non => true
  | _ => false
def isW (neg : Bool) : GOp := fun G x y => match y with
  | .non => .ok (.bl (if neg then !x.isNone else x.isNone)) G
  | _ => .no
theorem isNone_v {K : Fg} {ρ : List Addr} {H : Hp} {x : W} {v : V} (r : VR K ρ H x v) : decide (v = .non) = x.isNone := by
  cases r <;> simp [W.isNone]
theorem og_is : OpG X XP (compareOp .Is) (isW false) := by
  refine ⟨_, op_isN, fun ρ G σ H x y v u Q s rx ry h => ?_⟩
  unfold isW at h
  split at h
  · cases ry
    refine ⟨rfl, ?_⟩
    rw [isNone_v rx]
    exact h.ok s (.bl _)
  · exact h.elim
theorem og_isnot : OpG X XP (compareOp .IsNot) (isW true) := by
  refine ⟨_, op_notN, fun ρ G σ H x y v u Q s rx ry h => ?_⟩
  unfold isW at h
  split at h
  · cases ry
    refine ⟨rfl, ?_⟩
    rw [isNone_v rx]
    exact h.ok s (.bl _)
  · exact h.elim

end
end PL
/- part PLd -/
set_option maxHeartbeats 4000000
namespace PL
open PySem PySem.Spec PyProof.Rows L2
section
variable {X : Cx} {XP : Wish} {pos : Pos}

/-! ### dicts -/
def valW (kvs : List (Key × W)) (k : Key) : Option W := (kvs.find? fun kv => decide (kv.1 = k)).map (·.2)
def putW (kvs : List (Key × W)) (k : Key) (v : W) : List (Key × W) :=
  if (kvs.any fun kv => decide (kv.1 = k)) = true then kvs.map (fun kv => if kv.1 = k then (kv.1, v) else kv) else kvs ++ [(k, v)]
def keyW : W → Option Key
  | .int i => some (.inl i)
  | .str x => some (.inr x)
  | _ => none
theorem keyW_ok {K : Fg} {ρ : List Addr} {H : Hp} {w : W} {v : V} {k : Key} (r : VR K ρ H w v) (e : keyW w = some k) : v = kV k := by
  cases r <;> first | (cases e; done) | (cases e; rfl)
section
variable {K : Fg} {ρ : List Addr} {H : Hp}
theorem valW_pos {k : Key} {w : W} {r : List (Key × W)} : valW ((k, w) :: r) k = some w := by simp [valW, List.find?_cons]
theorem valW_neg {k k' : Key} {w : W} {r : List (Key × W)} (e : ¬ k' = k) : valW ((k', w) :: r) k = valW r k := by simp [valW, List.find?_cons, e]
theorem KVR.val {k : Key} : ∀ {r : List (Key × W)} {q : List (Key × V)} {w : W}, KVR K ρ H r q → valW r k = some w → ∃ v, valV q k = some v ∧ VR K ρ H w v
  | _, _, _, .nil, h => by cases h
  | _, _, w, .cons (k := k') (w := w0) (v := v0) h t, e => by
    by_cases ek : k' = k
    · subst ek
      rw [valW_pos] at e
      cases e
      exact ⟨v0, valV_pos (p := (k', v0)) rfl, h⟩
    · rw [valW_neg ek] at e
      obtain ⟨v, e1, e2⟩ := KVR.val t e
      exact ⟨v, by rw [valV_neg (p := (k', v0)) ek]; exact e1, e2⟩
theorem KVR.val_none {k : Key} : ∀ {r : List (Key × W)} {q : List (Key × V)}, KVR K ρ H r q → valW r k = none → valV q k = none
  | _, _, .nil, h => rfl
  | _, _, .cons (k := k') (w := w0) (v := v0) h t, e => by
    by_cases ek : k' = k
    · subst ek
      rw [valW_pos] at e
      cases e
    · rw [valW_neg ek] at e
      rw [valV_neg (p := (k', v0)) ek]; exact KVR.val_none t e
theorem KVR.any {k : Key} : ∀ {r : List (Key × W)} {q : List (Key × V)}, KVR K ρ H r q → (r.any fun kv => decide (kv.1 = k)) = (q.any fun kv => decide (kv.1 = k))
  | _, _, .nil => rfl
  | _, _, .cons h t => by simp only [List.any_cons, KVR.any t]
theorem KVR.map {k : Key} {w : W} {v : V} (hv : VR K ρ H w v) : ∀ {r : List (Key × W)} {q : List (Key × V)}, KVR K ρ H r q → KVR K ρ H (r.map (fun kv => if kv.1 = k then (kv.1, w) else kv)) (q.map (fun kv => if kv.1 = k then (kv.1, v) else kv))
  | _, _, .nil => .nil
  | _, _, .cons (k := k') h t => by
    rw [List.map_cons, List.map_cons]
    by_cases ek : k' = k
    · simp only [ek, if_true]; exact .cons hv (by simpa only [ek] using KVR.map hv t)
    · simp only [ek, if_false]; exact .cons h (KVR.map hv t)
theorem KVR.app : ∀ {r r' : List (Key × W)} {q q' : List (Key × V)}, KVR K ρ H r q → KVR K ρ H r' q' → KVR K ρ H (r ++ r') (q ++ q')
  | _, _, _, _, .nil, s => s
  | _, _, _, _, .cons h t, s => .cons h (KVR.app t s)
theorem KVR.put {k : Key} {w : W} {v : V} {r : List (Key × W)} {q : List (Key × V)} (h : KVR K ρ H r q) (hv : VR K ρ H w v) : KVR K ρ H (putW r k w) (putK q k v) := by
  unfold putW putK
  rw [h.any (k := k)]
  split
  · exact h.map hv
  · exact h.app (.cons hv .nil)
theorem KVR.length : ∀ {r : List (Key × W)} {q : List (Key × V)}, KVR K ρ H r q → r.length = q.length
  | _, _, .nil => rfl
  | _, _, .cons _ t => by rw [List.length_cons, List.length_cons, t.length]
end

/-! ### subscripts -/
theorem VRs.atI {K : Fg} {ρ : List Addr} {H : Hp} {ws : List W} {vs : List V} {i : Int} {w : W} (h : VRs K ρ H ws vs) (e : L2.atI ws i = some w) : ∃ v, L2.atI vs i = some v ∧ VR K ρ H w v := by
  unfold L2.atI at e ⊢
  rw [← h.length]
  cases q : ixN ws.length i with
  | none => rw [q] at e; cases e
  | some j =>
    rw [q] at e
    obtain ⟨v, e1, e2⟩ := h.get (i := j) e
    exact ⟨v, e1, e2⟩
def rIxD : R2 := fun x y H Q => ∃ a v, x = .ref a ∧ DGet H a y (some v) ∧ Q v H
theorem ix_dict (hu : X.A.units + 1 < cLine) : IxR X rIxD := by
  intro value slice pins s σ H x y v u Q I rx ry h hs
  obtain ⟨a, z, rfl, g, q⟩ := h
  cases rx
  exact tail_any (dict_typeIs I g) PySem.F.slot_dict_getitem.lookup (d_getItem hu I g ry fun w' s3 I3 rw' => ⟨z, H, I3, rw', q⟩) hs
def getW : GOp := fun G x y => match x, y with
  | .tup ws, .int i => match L2.atI ws i with | some w => .ok w G | none => .no
  | .str z, .int i => if z.length ≤ sizeLine then (match L2.atI z.cps.toList i with | some c => .ok (.str ⟨#[c]⟩) G | none => .no) else .no
  | .ref n, k => match G[n]? with
    | some (.dct kvs) => (match keyW k with | some k => (match valW kvs k with | some w => .ok w G | none => .no) | none => .no)
    | some (.lst ws) => (match k with | .int i => (match L2.atI ws i with | some w => .ok w G | none => .no) | _ => .no)
    | some (.rol ws) => (match k with | .int i => (match L2.atI ws i with | some w => .ok w G | none => .no) | _ => .no)
    | none => .no
  | _, _ => .no
structure IxG (X : Cx) (XP : Wish) (g : GOp) : Prop where
  ex : ∃ r, IxR X r ∧ ∀ ρ G σ H x y v u Q, SR X.K ρ G H → VR X.K ρ H x v → VR X.K ρ H y u → Out X.K XP (VR X.K) σ ρ H (g G x y) Q → r v u H Q
theorem ig_get (hu : X.A.units + 1 < cLine) : IxG X XP getW := by
  refine ⟨_, ix_seq.or (ix_dict hu), fun ρ G σ H x y v u Q s rx ry h => ?_⟩
  unfold getW at h
  split at h
  · cases rx with
    | tup a1 a2 =>
      cases ry
      split at h
      · rename_i w hw
        obtain ⟨z, e1, e2⟩ := a2.atI hw
        exact .inl (.inr (.inl ⟨_, _, _, z, rfl, rfl, a1, e1, h.ok s e2⟩))
      · exact h.elim
  · cases rx; cases ry
    split at h
    · rename_i hl
      split at h
      · rename_i c hc
        exact .inl (.inr (.inr ⟨_, _, c, rfl, rfl, hl, hc, h.ok s (.str _)⟩))
      · exact h.elim
    · exact h.elim
  · cases rx with
    | ref a1 =>
      split at h
      · rename_i kvs hk
        obtain ⟨q, e1, e2⟩ := cell_dct s a1 hk
        split at h
        · rename_i k ek
          have := keyW_ok ry ek
          subst this
          split at h
          · rename_i w hw
            obtain ⟨z, f1, f2⟩ := e2.val hw
            exact .inr ⟨_, z, rfl, .inl ⟨q, k, .inl e1, rfl, f1.symm⟩, h.ok s f2⟩
          · exact h.elim
        · exact h.elim
      · rename_i ws hk
        obtain ⟨q, e1, e2⟩ := rdL_ok s a1 (show rdL G _ = some ws by unfold rdL; rw [hk])
        split at h
        · cases ry
          split at h
          · rename_i w hw
            obtain ⟨z, f1, f2⟩ := e2.atI hw
            exact .inl (.inl ⟨_, _, _, z, rfl, rfl, e1, f1, h.ok s f2⟩)
          · exact h.elim
        · exact h.elim
      · rename_i ws hk
        obtain ⟨q, e1, e2⟩ := rdL_ok s a1 (show rdL G _ = some ws by unfold rdL; rw [hk])
        split at h
        · cases ry
          split at h
          · rename_i w hw
            obtain ⟨z, f1, f2⟩ := e2.atI hw
            exact .inl (.inl ⟨_, _, _, z, rfl, rfl, e1, f1, h.ok s f2⟩)
          · exact h.elim
        · exact h.elim
      · exact h.elim
  · exact h.elim
theorem he_ix {a b : Expr} {ma mb : ME} (hu : X.A.units + 1 < cLine) (ha : HE X XP a ma) (hb : HE X XP b mb) (hs : PlainIx b) : HE X XP (.Subscript a b pos) (mBin getW ma mb) := by
  obtain ⟨r, h1, h2⟩ := (ig_get (X := X) (XP := XP) hu).ex
  obtain ⟨ta, a1, a2⟩ := ha.ex
  obtain ⟨tb, b1, b2⟩ := hb.ex
  exact ⟨_, pe_ix h1 a1 b1 hs, bin_run a2 b2 h2⟩

/-! ### slices -/
def cutW (xs : List W) (lo hi : Option Int) : List W := (xs.drop (HT.sIx xs.length 0 lo)).take (HT.sIx xs.length xs.length hi - HT.sIx xs.length 0 lo)
theorem VRs.cut {K : Fg} {ρ : List Addr} {H : Hp} {ws : List W} {vs : List V} {lo hi : Option Int} (h : VRs K ρ H ws vs) : VRs K ρ H (cutW ws lo hi) (cutV vs lo hi) := by
  unfold cutW cutV
  rw [h.length]
  exact (h.drop _).take _
abbrev MO := PEnv → Cells → Rs (Option Int)
def OR : List Addr → Hp → Option Int → Option Int → Prop := fun _ _ a b => a = b
structure HO' (X : Cx) (XP : Wish) (e : Option Expr) (m : MO) : Prop where
  ex : ∃ t, PO X e t ∧ ∀ ρ E G σ H Q, ER X.K ρ H E σ → SR X.K ρ G H → Out X.K XP OR σ ρ H (m E G) Q → t σ H Q
def mNoPart : MO := fun _ G => .ok none G
def mPart (m : ME) : MO := fun E G => (m E G).bind fun w G' => match w with | .int i => .ok (some i) G' | _ => .no
theorem ho_none : HO' X XP none mNoPart := ⟨_, po_none, fun ρ E G σ H Q er sr q => q.ok sr rfl⟩
theorem ho_some {e : Expr} {m : ME} (h : HE X XP e m) : HO' X XP (some e) (mPart m) := by
  obtain ⟨t, h1, h2⟩ := h.ex
  refine ⟨_, po_some h1, fun ρ E G σ H Q er sr q => h2 ρ E G σ H _ er sr (q.bind fun w G1 ρ1 H1 v e1 s1 r1 k1 => ?_)⟩
  cases r1 <;> first | exact k1.elim | exact ⟨_, rfl, k1.ok s1 rfl⟩
def cutOp (G : Cells) (x : W) (lo hi : Option Int) : Rs W := match x with
  | .tup ws => .ok (.tup (cutW ws lo hi)) G
  | .str z => if z.length ≤ sizeLine then .ok (.str (cutS z lo hi)) G else .no
  | .ref n => match rdL G n with
    | some ws => .ok (.ref G.length) (G ++ [.lst (cutW ws lo hi)])
    | none => .no
  | _ => .no
def mCut (ma : ME) (ml mh : MO) : ME := fun E G => (ma E G).bind fun x G1 => (ml E G1).bind fun lo G2 => (mh E G2).bind fun hi G3 => cutOp G3 x lo hi
theorem cut_whole (ws : List W) (lo hi : Option Int) (h : HT.sIx ws.length 0 lo = 0 ∧ HT.sIx ws.length ws.length hi = ws.length) : cutW ws lo hi = ws := by
  unfold cutW
  rw [h.1, h.2]; simp
theorem he_cut {a : Expr} {lo hi : Option Expr} {ma : ME} {ml mh : MO} {p2 : Pos} (ha : HE X XP a ma) (hl : HO' X XP lo ml) (hh : HO' X XP hi mh) : HE X XP (.Subscript a (.Slice lo hi none p2) pos) (mCut ma ml mh) := by
  obtain ⟨ta, a1, a2⟩ := ha.ex
  obtain ⟨tl, l1, l2⟩ := hl.ex
  obtain ⟨th, g1, g2⟩ := hh.ex
  refine ⟨_, pe_slice (sl_list.or (sl_tupA.or sl_str)) a1 l1 g1, fun ρ E G σ H Q er sr q => a2 ρ E G σ H _ er sr (q.bind fun x G1 ρ1 H1 v e1 s1 r1 k1 => ?_)⟩
  refine l2 ρ1 E G1 σ H1 _ (er.mono e1) s1 (k1.bind fun lo G2 ρ2 H2 lo' e2 s2 r2 k2 => ?_)
  refine g2 ρ2 E G2 σ H2 _ (er.mono (e1.trans e2)) s2 (k2.bind fun hi G3 ρ3 H3 hi' e3 s3 r3 k3 => ?_)
  cases r2; cases r3
  have r := r1.mono (e2.trans e3)
  unfold cutOp at k3
  split at k3
  · cases r with
    | tup b1 b2 =>
      refine .inr (.inl ⟨_, _, rfl, b1, fun hw => ?_, fun hw p hp => out_tup k3 s3 b2.cut hp⟩)
      rw [← b2.length] at hw
      rw [cut_whole _ _ _ hw] at k3
      exact k3.ok s3 (.tup b1 b2)
  · cases r
    split at k3
    · rename_i hz; exact .inr (.inr ⟨_, rfl, hz, k3.ok s3 (.str _)⟩)
    · exact k3.elim
  · cases r with
    | ref b1 =>
      split at k3
      · rename_i ws hw
        obtain ⟨vs, q1, q2⟩ := rdL_ok s3 b1 hw
        exact .inl ⟨_, _, rfl, q1, fun p hp => out_lst k3 s3 q2.cut hp⟩
      · exact k3.elim
  · exact k3.elim

end
end PL
/- part PLe -/
set_option maxHeartbeats 4000000
namespace PL
open PySem PySem.Spec PyProof.Rows L2
/-! ### enumerate of a tuple -/
theorem enum_new1 {v : Value} {ob : Obj} {HH : Heap → Prop} (B : Begins v ob HH) :
    Meets (Builtin.«enumerate.__new__» ⟨[.type "enumerate", v], []⟩) (fun _ R st => HH st.heap ∧
      R (.ok (.ret (.ref (st.heap.push ob).objs.size))) { st with heap := (st.heap.push ob).push { cls := .type "enumerate", data := .fields #[.none, .bool false, .ref st.heap.objs.size, rawInt 0, .none, .none] } }) :=
  .of_wp fun prog w A R st hst => by
    obtain ⟨hp1, gn, dr, tks, osx⟩ := st
    obtain ⟨hb, hr⟩ := hst
    have hsubE := sub_enumerate
    have itB : ∀ {A' : Around} {E : Value → Shared → Prop} {Q : Value → Shared → Prop}, Q (.ref hp1.objs.size) ⟨hp1.push ob, gn, dr, tks, osx⟩ → wpAny (model prog w) A' (pyIter v) Q E ⟨hp1, gn, dr, tks, osx⟩ :=
      fun qq => B.iter prog w _ _ ⟨hp1, gn, dr, tks, osx⟩ _ hb qq
    wp_walk using itB
    refine wpAny_stack_any fun stk => wpAny_pure ?_
    split
    · rename_i cc _ _ _ _ _
      cases (cc == Value.type "enumerate") <;> (wp_walk using itB; exact ⟨_, rfl, hr⟩)
    · (wp_walk using itB; exact ⟨_, rfl, hr⟩)
section
variable {prog : Program} {w : World} {A : Around} {E : Value → Shared → Prop} {s : Shared}
theorem call_enum1 {v : Value} {ob : Obj} {HH : Heap → Prop} {Q : Value → Shared → Prop} (B : Begins v ob HH) (hb : HH s.heap)
    (h : ∀ h', IsEnum h' (s.heap.objs.size + 1) s.heap.objs.size 0 .none → h'.get? s.heap.objs.size = some ob → (∀ b o, s.heap.get? b = some o → h'.get? b = some o) → Q (.ref (s.heap.objs.size + 1)) { s with heap := h' }) :
    wpAny (model prog w) A (call (.type "enumerate") [v]) Q E s := by
  refine callType_new F.called_enumerate (by decide) (F.typeCall_enumerate_1 _) (F.newCall_enumerate_1 _) (fun obj => F.args_object_init_2 obj _) F.entry_enumerate_new (enum_new1 B) ⟨hb, ?_⟩
  have sz1 : (s.heap.push ob).objs.size = s.heap.objs.size + 1 := Heap.size_push ..
  show _ ∧ _
  rw [sz1]
  have isE : IsEnum ((s.heap.push ob).push { cls := .type "enumerate", data := .fields #[.none, .bool false, .ref s.heap.objs.size, rawInt 0, .none, .none] }) (s.heap.objs.size + 1) s.heap.objs.size 0 .none := by
    have q := Heap.get?_push_size (s.heap.push ob) (o := { cls := .type "enumerate", data := .fields #[.none, .bool false, .ref s.heap.objs.size, rawInt 0, .none, .none] }) rfl
    rw [sz1] at q
    exact q
  exact ⟨⟨_, isE, rfl⟩, h _ isE (Heap.get?_push_of_some _ (Heap.get?_push_size _ B.free)) fun b o z => Heap.get?_push_of_some _ (Heap.get?_push_of_some _ z)⟩
end
theorem pyNext_enumT_end {prog : Program} {w : World} {A : Around} {E : Value → Shared → Prop} {s : Shared} {e it l : Addr} {i : Nat} {k : Int} {items : Array Value} {old : Value} {Q : Option Value → Shared → Prop} (hh : A.handled = none)
    (he : IsEnum s.heap e it k old) (hit : s.heap.IsTupleIter it l i) (hl : s.heap.IsTuple l items) (hx : items[i]? = none)
    (hQ : ∀ h', Heap.ExtBut it s.heap h' → Q none { s with heap := h' }) : wpAny (model prog w) A (pyNext (.ref e)) Q E s := by
  have tyE : s.TypeIs (.ref e) "enumerate" := ⟨_, he, rfl⟩
  unfold pyNext
  refine wpAny_bind (wpAny_attempt (wpAny_callSpecial?_slot (name := Str.ofString "__next__") tyE F.slot_enumerate_next (wpAny_call_entry F.slot_enumerate_next tyE F.entry_enumerate_next ?_ (F.args_enumerate_next_1 _))))
  show wpAny _ _ (field (.ref e) 2 >>= _) _ _ _
  refine wpAny_bind (wpAny_field he rfl (x := .ref it) rfl (wpAny_bind (wpAny_nextOf_tuple_end hh hit hl hx fun h1 x1 he1 hx1 => ?_)))
  obtain ⟨ox, hox, hcx⟩ := hx1
  exact wpAny_bind (wpAny_isInstance (T := "StopIteration") (b := true) ⟨ox, hox, hcx⟩ isSubtype_stop (wpAny_pure (hQ _ he1)))
def IteT (K : Fg) (a : Addr) : It :=
  ⟨fun i H => ∃ (xs : List V) (x : V), SqT K H a xs ∧ xs[i]? = some x, fun i H v H' => ∃ T x, v = .ref T ∧ H T = none ∧ H' = upd H T (.tup [.int (i : Nat), x]) ∧ ∀ xs, SqT K H a xs → xs[i]? = some x, fun i H => ∃ xs : List V, SqT K H a xs ∧ xs.length ≤ i⟩
theorem mem_two {b e it : Addr} (h : b ∈ [e, it]) : b = e ∨ b = it := by simpa using h
theorem turn_enumT {P : Program} {w : World} {K : Fg} {elts : List Expr} {kk : Nat} {tpos : Pos} (a e it : Addr) (hat : a ≠ it) (hae : a ≠ e) :
    Turn P w K (.Tuple elts kk tpos) (IteT K a) [e, it] e (fun i h => (∃ old, IsEnum h e it ((i : Nat) : Int) old) ∧ h.IsTupleIter it a i ∧ e ≠ it) where
  mem := by simp
  obj := fun i h st b hb => by
    obtain ⟨⟨old, he⟩, ⟨o, ho, hc, hd⟩, _⟩ := st
    rcases mem_two hb with z | z
    · subst z; exact ⟨_, he, fun v q => nomatch q⟩
    · subst z; exact ⟨o, ho, fun v q => by rw [hd] at q; cases q⟩
  keep := fun i h h' st k => by
    obtain ⟨⟨old, he⟩, hi, hne⟩ := st
    exact ⟨⟨old, k e (by simp) _ he⟩, hi.at fun o q => k it (by simp) o q, hne⟩
  item := by
    intro X hP hw hK hc i pins s σ H E I hf st hg
    subst hP hw hK
    obtain ⟨⟨old, he⟩, hit, hne⟩ := st
    obtain ⟨xs, x, hq, hx⟩ := hg
    obtain ⟨its, rv, p, hz⟩ := I.tuple hq
    obtain ⟨u, hu, ru⟩ := rv.get hx
    have hel : e < s.heap.objs.size := Heap.lt_size he
    have hil : it < s.heap.objs.size := by
      obtain ⟨_, q, _⟩ := hit
      exact Heap.lt_size q
    have Dr := Draws.tuple (prog := X.prog) (w := X.w) (A := X.A.in1) (by exact I.ok.hd hc) it a hat its.toArray
    have hlt : i < its.toArray.size := by
      have := (List.getElem?_eq_some_iff.mp hu).1
      simpa using this
    refine wpAny_pyNext_enum_itemD Dr he ⟨hit, p⟩ hlt hne (by simp [hne, Ne.symm hae]) fun y h1 tk hy ho hit' hT hsz hk => ?_
    have yu : y = u := by
      have q : its[i]? = some y := by simpa using hy
      rw [hu] at q
      exact (Option.some.inj q).symm
    subst yu
    refine ⟨_, rfl, wpAny_letOwnedTupleGo_enum (s := { s with heap := h1, toks := tk + 1 }) ho fun h2 he' sb => ?_⟩
    have hT2 : h2.get? s.heap.objs.size = some { cls := .type "tuple", data := .seq #[.int i tk, y] } := (sb.2 _ (Nat.ne_of_gt hel)).trans hT
    have new : ObjOk X.prog X.w (upd H s.heap.objs.size (.tup [.int (i : Nat), x])) h2 s.heap.objs.size (.tup [.int (i : Nat), x]) :=
      ⟨by show 2 ≤ sizeLine; decide, [.int i tk, y], .cons ⟨_, rfl⟩ (.cons ru .nil), ⟨_, hT2, rfl, _, rfl⟩⟩
    have I1 : Inv X pins σ (upd H s.heap.objs.size (.tup [.int (i : Nat), x])) { s with heap := h2, toks := tk + 1 } :=
      I.turnedNew (ch := [e, it]) (fun b ob hb q => (sb.2 b (fun z => hb (by simp [z]))).trans (hk b ob (fun z => hb (by simp [z])) (fun z => hb (by simp [z])) q)) hf (Nat.le_refl _) new
    refine ⟨.ref s.heap.objs.size, _, I1, rfl, ⟨_, x, rfl, I.hok.fresh (Nat.le_refl _), rfl, fun ys hy => by rw [I.tuple_inj hy hq]; exact hx⟩, ⟨⟨y, ?_⟩, hit'.1.at fun o q => (sb.2 it (Ne.symm hne)).trans q, hne⟩, fun b hb => ?_⟩
    · rw [show ((i + 1 : Nat) : Int) = (i : Int) + 1 by omega]
      exact he'
    · have hb' : b < s.heap.objs.size := by
        rcases mem_two hb with z | z
        · subst z; exact hel
        · subst z; exact hil
      rw [upd_ne (Nat.ne_of_lt hb')]
      exact (hf b hb).1
  done := by
    intro X hP hw hK hc i pins s σ H E I hf st hg
    subst hP hw hK
    obtain ⟨⟨old, he⟩, hit, hne⟩ := st
    obtain ⟨xs, hq, hx⟩ := hg
    obtain ⟨its, rv, p, hz⟩ := I.tuple hq
    obtain ⟨f0, f1, f2, f3, f4, f5⟩ := hf it (by simp)
    have hl := rv.length
    exact pyNext_enumT_end (I.ok.hd hc) he hit p (by simp; omega) fun h1 eb => ⟨rfl, I.turned (t' := s.toks) (fun b o hb q => eb b o hb q) f0 f1 f3 f4 f5⟩
  self := fun A i s Q E st h => by
    obtain ⟨⟨_, he⟩, _⟩ := st
    exact wpAny_pyIter_enum he h
section
variable {X : Cx}
/-- enumerate(xs) of a list or a tuple -/
def iEnumA (K : Fg) (ta : TA) : TI := fun σ H R => ta σ H fun vs H1 => ∃ a, vs = [.ref a] ∧ ((∃ xs, SqL K H1 a xs ∧ R (Ite K a) H1) ∨ (∃ xs, SqT K H1 a xs ∧ R (IteT K a) H1))
theorem pi_enumA {e : Expr} {ta : TA} {p pos tpos : Pos} {elts : List Expr} {kk : Nat} (hg : Gl X "enumerate") (hm : X.mg "enumerate" = none) (ha : PA X [e] ta) (hs : starEach [e] X.env = [(false, eval e X.env)] := by rfl) :
    PI X (.Tuple elts kk tpos) (.Call (.Name "enumerate" p) [e] [] pos) (iEnumA X.K ta) := by
  refine ⟨fun pins s σ H R I h => ?_⟩
  refine Call_ (ld_blt I hg hm boot_enumerate (PyProof.Rows.callWith_type1 (thn (ha.run pos pins s σ H _ I h) fun us s1 ⟨vs, H1, I1, r1, q1⟩ => ?_) hs rfl))
  obtain ⟨a, ex, q⟩ := q1
  subst ex
  cases r1 with
  | cons r rr =>
    cases rr
    cases r
    have two : ∀ {h' : Heap} (b : Addr), b ∈ [s1.heap.objs.size + 1, s1.heap.objs.size] → FpOk X pins H1 b := fun b hb => by
      have hle : s1.heap.objs.size ≤ b := by
        rcases mem_two hb with z | z <;> (subst z; first | exact Nat.le_add_right _ _ | exact Nat.le_refl _)
      exact I1.fpOk hle (I1.hok.fresh hle)
    rcases q with ⟨xs, hq, q⟩ | ⟨xs, hq, q⟩
    · obtain ⟨its, rv, p', hz⟩ := I1.list hq
      refine call_enumerate_list p'.isList fun h' he hit hsz hk => wpAny_pyIter_enum he ?_
      exact ⟨s1.heap.objs.size + 1, [s1.heap.objs.size + 1, s1.heap.objs.size], _, _, H1, rfl, I1.kept (t' := s1.toks) hk, turn_enum a (s1.heap.objs.size + 1) s1.heap.objs.size, ⟨⟨.none, he⟩, hit, Nat.succ_ne_self _⟩, two (h' := h'), q⟩
    · obtain ⟨its, rv, p', hz⟩ := I1.tuple hq
      have lt : a < s1.heap.objs.size := p'.lt
      refine call_enum1 (begins_tuple a its.toArray) p' fun h' he hob hk => wpAny_pyIter_enum he ?_
      refine ⟨s1.heap.objs.size + 1, [s1.heap.objs.size + 1, s1.heap.objs.size], _, _, H1, rfl, I1.kept (t' := s1.toks) hk, turn_enumT a (s1.heap.objs.size + 1) s1.heap.objs.size (Nat.ne_of_lt lt) (Nat.ne_of_lt (Nat.lt_succ_of_lt lt)), ⟨⟨.none, he⟩, ?_, Nat.succ_ne_self _⟩, two (h' := h'), q⟩
      exact ⟨_, hob, rfl, rfl⟩
end
end PL
/- part PLf -/
set_option maxHeartbeats 4000000
namespace PL
open PySem PySem.Spec PyProof.Rows L2
/-! ### what is walked -/
inductive PIt where
  | lst (n : Nat)
  | tup (ws : List W)
  | rng (lo : Int) (n : Nat)
  | enL (n : Nat)
  | enT (ws : List W)
  | zipL (n m : Nat)
  | zipT (ws us : List W)
def PIt.at (G : Cells) (i : Nat) : PIt → Option (Option W)
  | .lst n => (rdL G n).map fun ws => ws[i]?
  | .tup ws => some ws[i]?
  | .rng lo n => some (if i < n then some (.int (lo + i)) else none)
  | .enL n => (rdL G n).map fun ws => ws[i]?.map fun w => .tup [.int i, w]
  | .enT ws => some (ws[i]?.map fun w => .tup [.int i, w])
  | .zipL n m => (rdL G n).bind fun ws => (rdL G m).map fun us => ws[i]?.bind fun x => us[i]?.map fun y => .tup [x, y]
  | .zipT ws us => some (ws[i]?.bind fun x => us[i]?.map fun y => .tup [x, y])
/-- how many turns -/
def PIt.len (G : Cells) : PIt → Nat
  | .lst n => ((rdL G n).getD []).length
  | .tup ws => ws.length
  | .rng _ n => n
  | .enL n => ((rdL G n).getD []).length
  | .enT ws => ws.length
  | .zipL n m => min ((rdL G n).getD []).length ((rdL G m).getD []).length
  | .zipT ws us => min ws.length us.length
def ItR (K : Fg) : List Addr → Hp → PIt → It → Prop := fun ρ H pit J => ∀ ρ' G' H', Ext K ρ H ρ' H' → SR K ρ' G' H' → ∀ i,
  (pit.at G' i = some none → J.stop i H') ∧ (∀ w, pit.at G' i = some (some w) → J.go i H' ∧ ∀ v H2, J.yld i H' v H2 → Ext K ρ' H' ρ' H2 ∧ SR K ρ' G' H2 ∧ VR K ρ' H2 w v)
abbrev MI := PEnv → Cells → Rs PIt
structure HI (X : Cx) (XP : Wish) (tg iter : Expr) (m : MI) : Prop where
  ex : ∃ wi, PI X tg iter wi ∧ ∀ ρ E G σ H R, ER X.K ρ H E σ → SR X.K ρ G H → Out X.K XP (ItR X.K) σ ρ H (m E G) R → wi σ H R
section
variable {K : Fg} {ρ : List Addr} {H : Hp}
theorem get?_none_le {α : Type} {l : List α} {i : Nat} (h : l[i]? = none) : l.length ≤ i := List.getElem?_eq_none_iff.mp h
theorem itr_list {n : Nat} {a : Addr} (hn : ρ[n]? = some a) : ItR K ρ H (.lst n) (Itl K a) := by
  intro ρ' G' H' e s i
  have hn' := e.rho _ _ hn
  simp only [PIt.at]
  cases hr : rdL G' n with
  | none => exact ⟨fun h => by simp at h, fun w h => by simp at h⟩
  | some ws =>
    obtain ⟨vs, h1, h2⟩ := rdL_ok s hn' hr
    refine ⟨fun h => ?_, fun w h => ?_⟩
    · have hx : ws[i]? = none := by simpa using h
      exact ⟨vs, h1, by rw [← h2.length]; exact get?_none_le hx⟩
    · have hx : ws[i]? = some w := by simpa using h
      obtain ⟨v, q1, q2⟩ := h2.get hx
      refine ⟨⟨vs, v, h1, q1⟩, fun v' H2 hy => ?_⟩
      obtain ⟨rfl, hy⟩ := hy
      have := hy vs h1
      rw [q1] at this; cases this
      exact ⟨.refl, s, q2⟩
theorem itr_tup {ws : List W} {vs : List V} {a : Addr} (h1 : SqT K H a vs) (h2 : VRs K ρ H ws vs) : ItR K ρ H (.tup ws) (Itt K a) := by
  intro ρ' G' H' e s i
  have h1' := e.tups _ _ h1
  have h2' := h2.mono e
  simp only [PIt.at]
  refine ⟨fun h => ?_, fun w h => ?_⟩
  · have hx : ws[i]? = none := by simpa using h
    exact ⟨vs, h1', by rw [← h2'.length]; exact get?_none_le hx⟩
  · have hx : ws[i]? = some w := by simpa using h
    obtain ⟨v, q1, q2⟩ := h2'.get hx
    refine ⟨⟨vs, v, h1', q1⟩, fun v' H2 hy => ?_⟩
    obtain ⟨rfl, hy⟩ := hy
    have := hy vs h1'
    rw [q1] at this; cases this
    exact ⟨.refl, s, q2⟩
theorem itr_rng {lo : Int} {n : Nat} : ItR K ρ H (.rng lo n) (Itr lo n) := by
  intro ρ' G' H' e s i
  simp only [PIt.at]
  refine ⟨fun h => ?_, fun w h => ?_⟩
  · by_cases hi : i < n
    · rw [if_pos hi] at h; simp at h
    · exact Nat.le_of_not_lt hi
  · by_cases hi : i < n
    · rw [if_pos hi] at h
      simp at h
      subst h
      refine ⟨hi, fun v' H2 hy => ?_⟩
      obtain ⟨rfl, rfl⟩ := hy
      exact ⟨.refl, s, .int _⟩
    · rw [if_neg hi] at h; simp at h
theorem pair_fresh {G : Cells} {T : Addr} {x y : W} {u v : V} (s : SR K ρ G H) (hT : H T = none) (hx : VR K ρ H x u) (hy : VR K ρ H y v) :
    Ext K ρ H ρ (upd H T (.tup [u, v])) ∧ SR K ρ G (upd H T (.tup [u, v])) ∧ VR K ρ (upd H T (.tup [u, v])) (.tup [x, y]) (.ref T) := by
  have e : Ext K ρ H ρ (upd H T (.tup [u, v])) := ext_upd (.inl hT) fun _ _ h => h
  exact ⟨e, s.fresh hT, .tup (.of upd_same) (.cons (hx.mono e) (.cons (hy.mono e) .nil))⟩
theorem itr_enL {n : Nat} {a : Addr} (hn : ρ[n]? = some a) : ItR K ρ H (.enL n) (Ite K a) := by
  intro ρ' G' H' e s i
  have hn' := e.rho _ _ hn
  simp only [PIt.at]
  cases hr : rdL G' n with
  | none => exact ⟨fun h => by simp at h, fun w h => by simp at h⟩
  | some ws =>
    obtain ⟨vs, h1, h2⟩ := rdL_ok s hn' hr
    cases hx : ws[i]? with
    | none => exact ⟨fun h => ⟨vs, h1, by rw [← h2.length]; exact get?_none_le hx⟩, fun w h => by simp [hx] at h⟩
    | some w0 =>
      refine ⟨fun h => by simp [hx] at h, fun w h => ?_⟩
      have : w = .tup [.int i, w0] := by simp [hx] at h; exact h.symm
      subst this
      obtain ⟨v, q1, q2⟩ := h2.get hx
      refine ⟨⟨vs, v, h1, q1⟩, fun v' H2 hy => ?_⟩
      obtain ⟨T, x, rfl, hT, rfl, hy⟩ := hy
      have := hy vs h1
      rw [q1] at this; cases this
      exact pair_fresh s hT (.int _) q2
theorem itr_enT {ws : List W} {vs : List V} {a : Addr} (h1 : SqT K H a vs) (h2 : VRs K ρ H ws vs) : ItR K ρ H (.enT ws) (IteT K a) := by
  intro ρ' G' H' e s i
  have h1' := e.tups _ _ h1
  have h2' := h2.mono e
  simp only [PIt.at]
  cases hx : ws[i]? with
  | none => exact ⟨fun h => ⟨vs, h1', by rw [← h2'.length]; exact get?_none_le hx⟩, fun w h => by simp [hx] at h⟩
  | some w0 =>
    refine ⟨fun h => by simp [hx] at h, fun w h => ?_⟩
    have : w = .tup [.int i, w0] := by simp [hx] at h; exact h.symm
    subst this
    obtain ⟨v, q1, q2⟩ := h2'.get hx
    refine ⟨⟨vs, v, h1', q1⟩, fun v' H2 hy => ?_⟩
    obtain ⟨T, x, rfl, hT, rfl, hy⟩ := hy
    have := hy vs h1'
    rw [q1] at this; cases this
    exact pair_fresh s hT (.int _) q2
theorem itr_zipL {n m : Nat} {a b : Addr} (hn : ρ[n]? = some a) (hm : ρ[m]? = some b) : ItR K ρ H (.zipL n m) (Itz K a b) := by
  intro ρ' G' H' e s i
  have hn' := e.rho _ _ hn
  have hm' := e.rho _ _ hm
  simp only [PIt.at]
  cases hr : rdL G' n with
  | none => exact ⟨fun h => by simp at h, fun w h => by simp at h⟩
  | some ws =>
    cases hr2 : rdL G' m with
    | none => exact ⟨fun h => by simp at h, fun w h => by simp at h⟩
    | some us =>
      obtain ⟨vs, h1, h2⟩ := rdL_ok s hn' hr
      obtain ⟨zs, g1, g2⟩ := rdL_ok s hm' hr2
      cases hx : ws[i]? with
      | none => exact ⟨fun h => ⟨vs, zs, h1, g1, .inl (by rw [← h2.length]; exact get?_none_le hx)⟩, fun w h => by simp [hx] at h⟩
      | some w0 =>
        cases hy : us[i]? with
        | none => exact ⟨fun h => ⟨vs, zs, h1, g1, .inr (by rw [← g2.length]; exact get?_none_le hy)⟩, fun w h => by simp [hx, hy] at h⟩
        | some u0 =>
          refine ⟨fun h => by simp [hx, hy] at h, fun w h => ?_⟩
          have : w = .tup [w0, u0] := by simp [hx, hy] at h; exact h.symm
          subst this
          obtain ⟨v, q1, q2⟩ := h2.get hx
          obtain ⟨z, k1, k2⟩ := g2.get hy
          refine ⟨⟨vs, zs, v, z, h1, g1, q1, k1⟩, fun v' H2 hh => ?_⟩
          obtain ⟨T, x, y, rfl, hT, rfl, hy1, hy2⟩ := hh
          have t1 := hy1 vs h1
          have t2 := hy2 zs g1
          rw [q1] at t1; cases t1
          rw [k1] at t2; cases t2
          exact pair_fresh s hT q2 k2
theorem itr_zipT {ws us : List W} {vs zs : List V} {a b : Addr} (h1 : SqT K H a vs) (h2 : VRs K ρ H ws vs) (g1 : SqT K H b zs) (g2 : VRs K ρ H us zs) : ItR K ρ H (.zipT ws us) (RZ.ItzT K a b) := by
  intro ρ' G' H' e s i
  have h1' := e.tups _ _ h1
  have h2' := h2.mono e
  have g1' := e.tups _ _ g1
  have g2' := g2.mono e
  simp only [PIt.at]
  cases hx : ws[i]? with
  | none => exact ⟨fun h => ⟨vs, zs, h1', g1', .inl (by rw [← h2'.length]; exact get?_none_le hx)⟩, fun w h => by simp [hx] at h⟩
  | some w0 =>
    cases hy : us[i]? with
    | none => exact ⟨fun h => ⟨vs, zs, h1', g1', .inr (by rw [← g2'.length]; exact get?_none_le hy)⟩, fun w h => by simp [hx, hy] at h⟩
    | some u0 =>
      refine ⟨fun h => by simp [hx, hy] at h, fun w h => ?_⟩
      have : w = .tup [w0, u0] := by simp [hx, hy] at h; exact h.symm
      subst this
      obtain ⟨v, q1, q2⟩ := h2'.get hx
      obtain ⟨z, k1, k2⟩ := g2'.get hy
      refine ⟨⟨vs, zs, v, z, h1', g1', q1, k1⟩, fun v' H2 hh => ?_⟩
      obtain ⟨T, x, y, rfl, hT, rfl, hy1, hy2⟩ := hh
      have t1 := hy1 vs h1'
      have t2 := hy2 zs g1'
      rw [q1] at t1; cases t1
      rw [k1] at t2; cases t2
      exact pair_fresh s hT q2 k2
end
section
variable {X : Cx} {XP : Wish} {tg : Expr} {pos : Pos}
def itSeq (w : W) (G : Cells) : Rs PIt := match w with
  | .ref n => (match rdL G n with | some _ => .ok (.lst n) G | none => .no)
  | .tup ws => .ok (.tup ws) G
  | _ => .no
def mSeq (m : ME) : MI := fun E G => (m E G).bind fun w G' => itSeq w G'
theorem pi_or {iter : Expr} {wi wi' : TI} (h : PI X tg iter wi) (h' : PI X tg iter wi') : PI X tg iter (fun σ H R => wi σ H R ∨ wi' σ H R) :=
  ⟨fun pins s σ H R I q => q.elim (h.run pins s σ H R I) (h'.run pins s σ H R I)⟩
theorem hi_seq {e : Expr} {m : ME} (h : HE X XP e m) : HI X XP tg e (mSeq m) := by
  obtain ⟨t, h1, h2⟩ := h.ex
  refine ⟨_, pi_or (pi_list h1) (pi_tup h1), fun ρ E G σ H R er sr q => ?_⟩
  unfold mSeq at q
  cases hm : m E G with
  | no => rw [hm] at q; exact q.elim
  | ex x G1 =>
    rw [hm] at q
    exact .inl (h2 ρ E G σ H _ er sr (by rw [hm]; exact q))
  | ok w G1 =>
    rw [hm] at q
    have q' : Out X.K XP (ItR X.K) σ ρ H (itSeq w G1) R := q
    unfold itSeq at q'
    split at q'
    · rename_i n
      split at q'
      · rename_i ws hr
        refine .inl (h2 ρ E G σ H _ er sr ?_)
        rw [hm]
        intro ρ1 H1 v e1 s1 r1
        cases r1 with
        | ref hn =>
          obtain ⟨vs, k1, k2⟩ := rdL_ok s1 hn hr
          exact ⟨_, rfl, ⟨vs, k1⟩, q' ρ1 H1 _ e1 s1 (itr_list hn)⟩
      · exact q'.elim
    · refine .inr (h2 ρ E G σ H _ er sr ?_)
      rw [hm]
      intro ρ1 H1 v e1 s1 r1
      cases r1 with
      | tup k1 k2 => exact ⟨_, rfl, ⟨_, k1⟩, q' ρ1 H1 _ e1 s1 (itr_tup k1 k2)⟩
    · exact q'.elim
def rngOk (i : Int) : Bool := decide (-(2 ^ 62) ≤ i) && decide (i < 2 ^ 62)
def mRng1 (m : MA) : MI := fun E G => (m E G).bind fun ws G' => match ws with
  | [.int j] => if rngOk j then .ok (.rng 0 j.toNat) G' else .no
  | _ => .no
theorem hi_range1 {a : Expr} {m : MA} {p : Pos} (hg : Gl X "range") (hm : X.mg "range" = none) (ha : HA X XP [a] m) (hs : starEach [a] X.env = [(false, eval a X.env)] := by rfl) : HI X XP tg (.Call (.Name "range" p) [a] [] pos) (mRng1 m) := by
  obtain ⟨t, h1, h2⟩ := ha.ex
  refine ⟨_, pi_range1 hg hm h1 hs, fun ρ E G σ H R er sr q => h2 ρ E G σ H _ er sr (q.bind fun ws G1 ρ1 H1 vs e1 s1 r1 k1 => ?_)⟩
  split at k1
  · split at k1
    · rename_i hj
      cases r1 with
      | cons r rr =>
        cases r; cases rr
        unfold rngOk at hj
        simp only [Bool.and_eq_true, decide_eq_true_eq] at hj
        exact ⟨_, rfl, hj.1, hj.2, k1.ok s1 itr_rng⟩
    · exact k1.elim
  · exact k1.elim
def mRng2 (m : MA) : MI := fun E G => (m E G).bind fun ws G' => match ws with
  | [.int i, .int j] => if rngOk i && rngOk j then .ok (.rng i (j - i).toNat) G' else .no
  | _ => .no
theorem hi_range2 {a b : Expr} {m : MA} {p : Pos} (hg : Gl X "range") (hm : X.mg "range" = none) (ha : HA X XP [a, b] m) (hs : starEach [a, b] X.env = [(false, eval a X.env), (false, eval b X.env)] := by rfl) (hs2 : starEach [b] X.env = [(false, eval b X.env)] := by rfl) : HI X XP tg (.Call (.Name "range" p) [a, b] [] pos) (mRng2 m) := by
  obtain ⟨t, h1, h2⟩ := ha.ex
  refine ⟨_, pi_range2 hg hm h1 hs hs2, fun ρ E G σ H R er sr q => h2 ρ E G σ H _ er sr (q.bind fun ws G1 ρ1 H1 vs e1 s1 r1 k1 => ?_)⟩
  split at k1
  · split at k1
    · rename_i hj
      cases r1 with
      | cons r rr =>
        cases rr with
        | cons r' rr =>
          cases r; cases r'; cases rr
          unfold rngOk at hj
          simp only [Bool.and_eq_true, decide_eq_true_eq] at hj
          exact ⟨_, _, rfl, ⟨hj.1.1, hj.1.2, hj.2.1, hj.2.2⟩, k1.ok s1 itr_rng⟩
    · exact k1.elim
  · exact k1.elim
def mEnum (m : MA) : MI := fun E G => (m E G).bind fun ws G' => match ws with
  | [.ref n] => (match rdL G' n with | some _ => .ok (.enL n) G' | none => .no)
  | [.tup us] => .ok (.enT us) G'
  | _ => .no
theorem hi_enum {e : Expr} {m : MA} {p tpos : Pos} {elts : List Expr} {kk : Nat} (hg : Gl X "enumerate") (hm : X.mg "enumerate" = none) (ha : HA X XP [e] m) (hs : starEach [e] X.env = [(false, eval e X.env)] := by rfl) : HI X XP (.Tuple elts kk tpos) (.Call (.Name "enumerate" p) [e] [] pos) (mEnum m) := by
  obtain ⟨t, h1, h2⟩ := ha.ex
  refine ⟨_, pi_enumA hg hm h1 hs, fun ρ E G σ H R er sr q => h2 ρ E G σ H _ er sr (q.bind fun ws G1 ρ1 H1 vs e1 s1 r1 k1 => ?_)⟩
  split at k1
  · rename_i n
    split at k1
    · rename_i us hr
      cases r1 with
      | cons r rr =>
        cases rr
        cases r with
        | ref hn =>
          obtain ⟨vs, q1, q2⟩ := rdL_ok s1 hn hr
          exact ⟨_, rfl, .inl ⟨vs, q1, k1.ok s1 (itr_enL hn)⟩⟩
    · exact k1.elim
  · cases r1 with
    | cons r rr =>
      cases rr
      cases r with
      | tup q1 q2 => exact ⟨_, rfl, .inr ⟨_, q1, k1.ok s1 (itr_enT q1 q2)⟩⟩
  · exact k1.elim
def mZip (m : MA) : MI := fun E G => (m E G).bind fun ws G' => match ws with
  | [.ref n, .ref k] => (match rdL G' n, rdL G' k with | some _, some _ => .ok (.zipL n k) G' | _, _ => .no)
  | [.tup xs, .tup ys] => .ok (.zipT xs ys) G'
  | _ => .no
theorem hi_zip {e e2 : Expr} {m : MA} {p tpos : Pos} {elts : List Expr} {kk : Nat} (hg : Gl X "zip") (hm : X.mg "zip" = none) (ha : HA X XP [e, e2] m)
    (hs : starEach [e, e2] X.env = (false, eval e X.env) :: starEach [e2] X.env := by rfl) (hpl : (backTo pos (starEach [e2] X.env)).any (·.1) = false := by rfl) : HI X XP (.Tuple elts kk tpos) (.Call (.Name "zip" p) [e, e2] [] pos) (mZip m) := by
  obtain ⟨t, h1, h2⟩ := ha.ex
  refine ⟨_, RZ.pi_zipA hg hm h1 hs hpl, fun ρ E G σ H R er sr q => h2 ρ E G σ H _ er sr (q.bind fun ws G1 ρ1 H1 vs e1 s1 r1 k1 => ?_)⟩
  split at k1
  · split at k1
    · rename_i xs ys hr hr2
      cases r1 with
      | cons r rr =>
        cases rr with
        | cons r' rr =>
          cases rr
          cases r with
          | ref hn =>
            cases r' with
            | ref hm2 =>
              obtain ⟨vs, q1, q2⟩ := rdL_ok s1 hn hr
              obtain ⟨us, g1, g2⟩ := rdL_ok s1 hm2 hr2
              exact ⟨_, _, vs, us, rfl, .inl ⟨q1, g1, k1.ok s1 (itr_zipL hn hm2)⟩⟩
    · exact k1.elim
  · cases r1 with
    | cons r rr =>
      cases rr with
      | cons r' rr =>
        cases rr
        cases r with
        | tup q1 q2 =>
          cases r' with
          | tup g1 g2 => exact ⟨_, _, _, _, rfl, .inr ⟨q1, g1, k1.ok s1 (itr_zipT q1 q2 g1 g2)⟩⟩
  · exact k1.elim
end
end PL
/- part PLg -/
set_option maxHeartbeats 4000000
namespace PL
open PySem PySem.Spec PyProof.Rows L2
section
variable {X : Cx} {XP : Wish} {pos : Pos}
/-! ### targets -/
abbrev MG := W → PEnv → Cells → Rs PEnv
/-- the slots at sl may have changed, no other -/
def GR (K : Fg) (sl : List Nat) (σ0 : St) : List Addr → Hp → PEnv → St → Prop := fun ρ H E σ => ER K ρ H E σ ∧ σ.length = σ0.length ∧ ∀ i, i ∉ sl → σ[i]? = σ0[i]?
structure HG (X : Cx) (XP : Wish) (e : Expr) (sl : List Nat) (m : MG) : Prop where
  ex : ∃ g, PG X e g ∧ ∀ ρ w E G v σ H Q, VR X.K ρ H w v → ER X.K ρ H E σ → SR X.K ρ G H → Out X.K XP (GR X.K sl σ) σ ρ H (m w E G) Q → g v σ H Q
abbrev MGs := List W → PEnv → Cells → Rs PEnv
structure HGs (X : Cx) (XP : Wish) (es : List Expr) (sl : List Nat) (m : MGs) : Prop where
  ex : ∃ g, PGs X es g ∧ ∀ ρ ws E G vs σ0 σ H Q, VRs X.K ρ H ws vs → ER X.K ρ H E σ → σ.length = σ0.length → (∀ i, i ∉ sl → σ[i]? = σ0[i]?) → SR X.K ρ G H → Out X.K XP (GR X.K sl σ0) σ0 ρ H (m ws E G) Q → g vs σ H Q
def gSet (i : Nat) : MG := fun w E G => .ok (E.set i (some w)) G
theorem set_other {σ : St} {i j : Nat} {v : Option V} (h : j ≠ i) : (σ.set i v)[j]? = σ[j]? := by rw [List.getElem?_set_ne (Ne.symm h)]
theorem hg_name {i : Nat} {x : Str} (hN : X.N.Nodup) (hi : X.N[i]? = some x) (hx : Loc X.env.scope x) (hf : X.fn x = true ∨ X.env.scope.names.lookup x = some .local := by first | exact .inl rfl | exact .inr rfl | assumption) : HG X XP (.Name x pos) [i] (gSet i) :=
  ⟨_, pg_name hN hi hx hf, fun ρ w E G v σ H Q r er sr q => q.ok sr ⟨er.set r i, List.length_set, fun j hj => set_other (by simpa using hj)⟩⟩
def gsNil : MGs := fun ws E G => match ws with | [] => .ok E G | _ => .no
def gsCons (i : Nat) (r : MGs) : MGs := fun ws E G => match ws with | w :: ws => r ws (E.set i (some w)) G | [] => .no
theorem hgs_nil {sl : List Nat} : HGs X XP [] sl gsNil := by
  refine ⟨_, pgs_nil, fun ρ ws E G vs σ0 σ H Q r er hln hk sr q => ?_⟩
  cases r with
  | nil => exact ⟨rfl, q.ok sr ⟨er, hln, hk⟩⟩
  | cons _ _ => exact q.elim
theorem hgs_cons {i : Nat} {x : Str} {p : Pos} {es : List Expr} {sl : List Nat} {m : MGs} (hN : X.N.Nodup) (hi : X.N[i]? = some x) (hx : Loc X.env.scope x) (hm : i ∈ sl) (hr : HGs X XP es sl m)
    (hf : X.fn x = true ∨ X.env.scope.names.lookup x = some .local := by first | exact .inl rfl | exact .inr rfl | assumption) : HGs X XP (.Name x p :: es) sl (gsCons i m) := by
  obtain ⟨g, h1, h2⟩ := hr.ex
  refine ⟨_, pgs_cons (pg_name hN hi hx hf) h1, fun ρ ws E G vs σ0 σ H Q r er hln hk sr q => ?_⟩
  cases r with
  | nil => exact q.elim
  | cons r1 r2 =>
    refine ⟨_, _, rfl, ?_⟩
    exact h2 ρ _ _ G _ σ0 _ H Q r2 (er.set r1 i) (by rw [List.length_set]; exact hln) (fun j hj => by rw [set_other (show j ≠ i from fun e => hj (by rw [e]; exact hm))]; exact hk j hj) sr q
def gTupW (n : Nat) (m : MGs) : MG := fun w E G => match w with
  | .tup ws => if ws.length = n then m ws E G else .no
  | _ => .no
theorem hg_tup {es : List Expr} {kk : Nat} {n : Nat} {sl : List Nat} {m : MGs} (hc : X.calm = true) (h : HGs X XP es sl m) (hn : (assignEach es X.env).length = n := by rfl) (hst : (assignEach es X.env).findIdx? (·.1) = none := by rfl) : HG X XP (.Tuple es kk pos) sl (gTupW n m) := by
  obtain ⟨g, h1, h2⟩ := h.ex
  refine ⟨_, pg_tup hc h1 hn hst, fun ρ w E G v σ H Q r er sr q => ?_⟩
  unfold gTupW at q
  split at q
  · cases r with
    | tup a1 a2 =>
      split at q
      · rename_i hn
        exact ⟨_, _, rfl, a1, by rw [← a2.length]; exact hn, h2 ρ _ E G _ σ σ H Q a2 er rfl (fun _ _ => rfl) sr q⟩
      · exact q.elim
  · exact q.elim

/-! ### stores by place and by key -/
def putOp (n : Nat) (k : W) (w : W) (G : Cells) : Option Cells := match G[n]? with
  | some (.lst ws) => (match k with | .int i => (match ixN ws.length i with | some j => some (G.set n (.lst (ws.set j w))) | none => none) | _ => none)
  | some (.dct kvs) => (match keyW k with | some k => if kvs.length < sizeLine then some (G.set n (.dct (putW kvs k w))) else none | none => none)
  | _ => none
theorem PSet.or' {t t' : TSet} (h : PSet X t) (h' : PSet X t') : PSet X (fun o i v H Q => t o i v H Q ∨ t' o i v H Q) := fun pins s σ H o i v ov iv u Q I ro ri rv q =>
  q.elim (h pins s σ H o i v ov iv u Q I ro ri rv) (h' pins s σ H o i v ov iv u Q I ro ri rv)
def gPut (mo mi : ME) : MG := fun w E G => (mo E G).bind fun o G1 => (mi E G1).bind fun k G2 => match o with
  | .ref n => (match putOp n k w G2 with | some G3 => .ok E G3 | none => .no)
  | _ => .no
theorem put_run {ρ : List Addr} {G G3 : Cells} {H : Hp} {n : Nat} {k w : W} {a : Addr} {kv v : V} {Q : Hp → Prop} (s : SR X.K ρ G H) (hn : ρ[n]? = some a) (rk : VR X.K ρ H k kv) (rw' : VR X.K ρ H w v) (e : putOp n k w G = some G3)
    (q : ∀ H', Ext X.K ρ H ρ H' → SR X.K ρ G3 H' → Q H') : rSetL (.ref a) kv v H Q ∨ rSetD (.ref a) kv v H Q := by
  unfold putOp at e
  split at e
  · rename_i ws hc
    split at e
    · rename_i i
      split at e
      · rename_i j hj
        cases e
        cases rk
        obtain ⟨vs, h1, h2⟩ := cell_lst s hn hc
        have ex : Ext X.K ρ H ρ (upd H a (.lst (vs.set j v))) := s.ext_write hc hn rfl
        exact .inl ⟨a, vs, i, j, rfl, rfl, h1, by rw [← h2.length]; exact hj, q _ ex (s.write hc hn rfl rfl ⟨_, upd_same, VRs.set (rw'.mono ex) j (h2.mono ex)⟩)⟩
      · cases e
    · cases e
  · rename_i kvs hc
    split at e
    · rename_i k0 hk
      split at e
      · rename_i hl
        cases e
        have := keyW_ok rk hk
        subst this
        obtain ⟨vs, h1, h2⟩ := cell_dct s hn hc
        have ex : Ext X.K ρ H ρ (upd H a (.dK (putK vs k0 v))) := s.ext_write hc hn rfl
        exact .inr ⟨a, _, rfl, .k h1 (by rw [← h2.length]; exact hl), q _ ex (s.write hc hn rfl rfl ⟨_, upd_same, KVR.put (h2.mono ex) (rw'.mono ex)⟩)⟩
      · cases e
    · cases e
  · cases e
theorem hg_put {o i : Expr} {mo mi : ME} {p : Pos} (hu : X.A.units + 1 < cLine) (ho : HE X XP o mo) (hi : HE X XP i mi) (hpg : ∀ {to ti : TE} {t : TSet}, PE X o to → PE X i ti → PSet X t → PG X (.Subscript o i p) (gSub to ti t)) : HG X XP (.Subscript o i p) [] (gPut mo mi) := by
  obtain ⟨t1, a1, a2⟩ := ho.ex
  obtain ⟨t2, b1, b2⟩ := hi.ex
  refine ⟨_, hpg a1 b1 (PSet.or' set_list (set_dict hu)), fun ρ w E G v σ H Q r er sr q => ?_⟩
  refine a2 ρ E G σ H _ er sr (q.bind fun x G1 ρ1 H1 xv e1 s1 r1 k1 => ?_)
  refine b2 ρ1 E G1 σ H1 _ (er.mono e1) s1 (k1.bind fun y G2 ρ2 H2 yv e2 s2 r2 k2 => ?_)
  have r1' := r1.mono e2
  cases r1' with
  | @ref n a hn =>
    have k3 : Out X.K XP (GR X.K [] σ) σ ρ2 H2 (match putOp n y w G2 with | some G3 => Rs.ok E G3 | none => Rs.no) Q := k2
    cases hp : putOp n y w G2 with
    | some G3 =>
      rw [hp] at k3
      exact put_run s2 hn r2 (r.mono (e1.trans e2)) hp fun H' ex s3 => k3 ρ2 H' σ ex s3 ⟨er.mono ((e1.trans e2).trans ex), rfl, fun _ _ => rfl⟩
    | none => rw [hp] at k3; exact k3.elim
  | _ => exact k2.elim

/-! ### statements -/
def seqS (r : So) (k : PEnv → Cells → So) : So := match r with
  | .nx E G => k E G
  | r => r
def sNext : MS := fun E G => .nx E G
def sSeq (a b : MS) : MS := fun E G => seqS (a E G) b
theorem hb_nil : HB X XP [] sNext := ⟨_, pss_nil, fun ρ E G σ H D er sr q => q ρ H σ .refl sr er⟩
theorem hb_cons {st : Stmt} {rest : List Stmt} {a b : MS} (h1 : HS X XP st a) (h2 : HB X XP rest b) : HB X XP (st :: rest) (sSeq a b) := by
  obtain ⟨t, a1, a2⟩ := h1.ex
  obtain ⟨u, b1, b2⟩ := h2.ex
  refine ⟨_, pss_cons a1 b1, fun ρ E G σ H D er sr q => ?_⟩
  refine a2 ρ E G σ H _ er sr ?_
  unfold sSeq at q
  cases hr : a E G with
  | nx E1 G1 =>
    rw [hr] at q
    intro ρ1 H1 σ1 e1 s1 r1
    exact b2 ρ1 E1 G1 σ1 H1 D r1 s1 (OutS.mono q e1)
  | rt w G1 => rw [hr] at q; exact q
  | bk E1 G1 => rw [hr] at q; exact q
  | ct E1 G1 => rw [hr] at q; exact q
  | ex e E1 G1 => rw [hr] at q; exact q
  | no => rw [hr] at q; exact q
theorem hb_one {st : Stmt} {a : MS} (h1 : HS X XP st a) : HB X XP [st] a := by
  obtain ⟨t, a1, a2⟩ := h1.ex
  exact ⟨_, pss_one a1, a2⟩
theorem hs_pass : HS X XP (.Pass pos) sNext := ⟨_, ps_pass, fun ρ E G σ H D er sr q => q ρ H σ .refl sr er⟩
theorem hs_doc {x j pos'} : HS X XP (.Expr (.Constant (.str x) j pos) pos') sNext := ⟨_, ps_doc, fun ρ E G σ H D er sr q => q ρ H σ .refl sr er⟩
def sBreak : MS := fun E G => .bk E G
def sCont : MS := fun E G => .ct E G
theorem hs_break : HS X XP (.Break pos) sBreak := ⟨_, ps_break, fun ρ E G σ H D er sr q => q ρ H σ .refl sr er⟩
theorem hs_cont : HS X XP (.Continue pos) sCont := ⟨_, ps_continue, fun ρ E G σ H D er sr q => q ρ H σ .refl sr er⟩
/-- an expression's outcome within a statement -/
def liftS {α : Type} (r : Rs α) (E : PEnv) (k : α → Cells → So) : So := match r with
  | .ok a G => k a G
  | .ex e G => .ex e E G
  | .no => .no
theorem OutS.lift {α β : Type} {Rel : List Addr → Hp → α → β → Prop} {σ : St} {ρ : List Addr} {H : Hp} {r : Rs α} {E : PEnv} {k : α → Cells → So} {D : Ends} {Q : β → Hp → Prop} (er : ER X.K ρ H E σ)
    (h : OutS X.K XP ρ H (liftS r E k) D) (f : ∀ w G ρ1 H1 v, Ext X.K ρ H ρ1 H1 → SR X.K ρ1 G H1 → Rel ρ1 H1 w v → OutS X.K XP ρ1 H1 (k w G) D → Q v H1) : Out X.K XP Rel σ ρ H r Q := by
  cases r with
  | ok w G => exact fun ρ1 H1 v e s q => f w G ρ1 H1 v e s q (OutS.mono h e)
  | ex x G => exact fun ρ1 H1 e s => h ρ1 H1 σ e s (er.mono e)
  | no => exact h
def sExpr (m : ME) : MS := fun E G => liftS (m E G) E fun _ G' => .nx E G'
theorem hs_expr {e : Expr} {m : ME} (h : HE X XP e m) (hs : swapsWith e none pos.line X.env = pure false := by rfl) : HS X XP (.Expr e pos) (sExpr m) := by
  obtain ⟨t, a1, a2⟩ := h.ex
  exact ⟨_, ps_expr a1 hs, fun ρ E G σ H D er sr q => a2 ρ E G σ H _ er sr (OutS.lift er q fun w G1 ρ1 H1 v e1 s1 r1 k1 => k1 ρ1 H1 σ .refl s1 (er.mono e1))⟩
def sRet (m : ME) : MS := fun E G => liftS (m E G) E fun w G' => .rt w G'
theorem hs_ret {e : Expr} {m : ME} (h : HE X XP e m) : HS X XP (.Return (some e) pos) (sRet m) := by
  obtain ⟨t, a1, a2⟩ := h.ex
  exact ⟨_, ps_ret a1, fun ρ E G σ H D er sr q => a2 ρ E G σ H _ er sr (OutS.lift er q fun w G1 ρ1 H1 v e1 s1 r1 k1 => k1 ρ1 H1 v .refl s1 r1)⟩
def sRetN : MS := fun _ G => .rt .non G
theorem hs_retN : HS X XP (.Return none pos) sRetN := ⟨_, ps_retN, fun ρ E G σ H D er sr q => q ρ H _ .refl sr .non⟩
def sIf (c : MT) (a b : MS) : MS := fun E G => liftS (c E G) E fun k G' => if k = true then a E G' else b E G'
theorem hs_if {c : Expr} {as bs : List Stmt} {mc : MT} {a b : MS} (hc : HT X XP c mc) (ha : HB X XP as a) (hb : HB X XP bs b) : HS X XP (.If c as bs pos) (sIf mc a b) := by
  obtain ⟨tc, c1, c2⟩ := hc.ex
  obtain ⟨ta, a1, a2⟩ := ha.ex
  obtain ⟨tb, b1, b2⟩ := hb.ex
  refine ⟨_, ps_if c1 a1 b1, fun ρ E G σ H D er sr q => c2 ρ E G σ H _ er sr (OutS.lift er q fun w G1 ρ1 H1 v e1 s1 r1 k1 => ?_)⟩
  cases r1
  cases w with
  | true => rw [if_pos rfl]; exact a2 ρ1 E G1 σ H1 D (er.mono e1) s1 (by simpa using k1)
  | false => rw [if_neg Bool.false_ne_true]; exact b2 ρ1 E G1 σ H1 D (er.mono e1) s1 (by simpa using k1)
def sAsg (m : ME) (g : MG) : MS := fun E G => liftS (m E G) E fun w G1 => liftS (g w E G1) E fun E' G2 => .nx E' G2
theorem asg_run {te : TE} {tg : TG} {m : ME} {g : MG} {sl : List Nat}
    (a2 : ∀ ρ E G σ H Q, ER X.K ρ H E σ → SR X.K ρ G H → Out X.K XP (VR X.K) σ ρ H (m E G) Q → te σ H Q)
    (b2 : ∀ ρ w E G v σ H Q, VR X.K ρ H w v → ER X.K ρ H E σ → SR X.K ρ G H → Out X.K XP (GR X.K sl σ) σ ρ H (g w E G) Q → tg v σ H Q) :
    ∀ ρ E G σ H D, ER X.K ρ H E σ → SR X.K ρ G H → OutS X.K XP ρ H (sAsg m g E G) D → tAsg te tg D σ H := fun ρ E G σ H D er sr q =>
  a2 ρ E G σ H _ er sr (OutS.lift er q fun w G1 ρ1 H1 v e1 s1 r1 k1 =>
    b2 ρ1 w E G1 v σ H1 _ r1 (er.mono e1) s1 (OutS.lift (er.mono e1) k1 fun E' G2 ρ2 H2 σ2 e2 s2 r2 k2 => k2 ρ2 H2 σ2 .refl s2 r2.1))
theorem hs_asg {tg e : Expr} {m : ME} {g : MG} {sl : List Nat} (he : HE X XP e m) (hg : HG X XP tg sl g) (hs : swapsWithSole [tg] e pos.line X.env = pure false := by rfl) (hw : swappedStores [tg] e X.env = pure none := by rfl)
    (h1 : (assignEach [tg] X.env).map (·.2) = [assign tg X.env] := by rfl) : HS X XP (.Assign [tg] e pos) (sAsg m g) := by
  obtain ⟨te, a1, a2⟩ := he.ex
  obtain ⟨g, b1, b2⟩ := hg.ex
  exact ⟨_, ps_asg a1 b1 hs hw h1, asg_run a2 b2⟩
theorem hs_set {i : Nat} {x : Str} {e : Expr} {m : ME} {pos' : Pos} (hN : X.N.Nodup) (hi : X.N[i]? = some x) (hx : Loc X.env.scope x) (he : HE X XP e m) (hs : swapsWith e (some (.Name x pos')) pos.line X.env = pure false := by rfl)
    (hf : X.fn x = true ∨ X.env.scope.names.lookup x = some .local := by first | exact .inl rfl | exact .inr rfl | assumption) : HS X XP (.Assign [.Name x pos'] e pos) (sAsg m (gSet i)) := by
  obtain ⟨te, a1, a2⟩ := he.ex
  exact ⟨_, ps_set hN hi hx a1 hs hf, asg_run (sl := [i]) a2 fun ρ w E G v σ H Q r er sr q => q.ok sr ⟨er.set r i, List.length_set, fun j hj => set_other (by simpa using hj)⟩⟩

/-! ### for -/
def forL (pit : PIt) (g : MG) (b : MS) : Nat → Nat → PEnv → Cells → So
  | fuel, i, E, G => match pit.at G i with
    | none => .no
    | some none => .nx E G
    | some (some w) => match fuel with
      | 0 => .no
      | k + 1 => liftS (g w E G) E fun E1 G1 => match b E1 G1 with
        | .nx E2 G2 => forL pit g b k (i + 1) E2 G2
        | .ct E2 G2 => forL pit g b k (i + 1) E2 G2
        | .bk E2 G2 => .nx E2 G2
        | r => r
def sFor (mi : MI) (g : MG) (b : MS) : MS := fun E G => liftS (mi E G) E fun pit G1 => forL pit g b (pit.len G1) 0 E G1
theorem hs_for {tg iter : Expr} {body : List Stmt} {mi : MI} {g : MG} {b : MS} {sl : List Nat} (hp : PassesOwn (model X.prog X.w) X.A X.env X.xe) (hc : X.calm = true) (hi : HI X XP tg iter mi) (hg : HG X XP tg sl g) (hb : HB X XP body b)
    (hs : ∀ x, foldedSetIterable iter X.env x = pure x := by intro _; rfl) : HS X XP (.For tg iter body [] pos) (sFor mi g b) := by
  obtain ⟨wi, i1, i2⟩ := hi.ex
  obtain ⟨tg', g1, g2⟩ := hg.ex
  obtain ⟨tb, b1, b2⟩ := hb.ex
  refine ⟨_, ps_for hp hc i1 g1 b1 hs, fun ρ E G σ H D er sr q => i2 ρ E G σ H _ er sr (OutS.lift er q fun pit G1 ρ1 H1 J e1 s1 r1 k1 => ?_)⟩
  refine ⟨fun i m σ' H' => ∃ ρ' E' G', Ext X.K ρ1 H1 ρ' H' ∧ ER X.K ρ' H' E' σ' ∧ SR X.K ρ' G' H' ∧ OutS X.K XP ρ' H' (forL pit g b m i E' G') D, ⟨_, ρ1, E, G1, .refl, er.mono e1, s1, k1⟩, ?_⟩
  rintro i m σ' H' ⟨ρ', E', G', ex, er', s', o⟩
  obtain ⟨hstop, hgo⟩ := r1 ρ' G' H' ex s' i
  unfold forL at o
  split at o
  · exact o.elim
  · rename_i ha
    exact .inl ⟨hstop ha, o ρ' H' σ' .refl s' er'⟩
  · rename_i w ha
    obtain ⟨go, hy⟩ := hgo w ha
    split at o
    · exact o.elim
    · rename_i k
      refine .inr ⟨go, fun σ2 H2 => ∃ ρ2 E2 G2, Ext X.K ρ1 H1 ρ2 H2 ∧ ER X.K ρ2 H2 E2 σ2 ∧ SR X.K ρ2 G2 H2 ∧ OutS X.K XP ρ2 H2 (forL pit g b k (i + 1) E2 G2) D, fun σ2 H2 h => ⟨k, Nat.lt_succ_self _, h⟩, fun x H2 y => ?_⟩
      obtain ⟨y1, y2, y3⟩ := hy x H2 y
      refine g2 ρ' w E' G' x σ' H2 _ y3 (er'.mono y1) y2 (OutS.lift (er'.mono y1) (OutS.mono o y1) fun E3 G3 ρ3 H3 σ3 e3 s3 r3 k3 => ?_)
      refine b2 ρ3 E3 G3 σ3 H3 _ r3.1 s3 ?_
      have ext := ex.trans (y1.trans e3)
      cases hr : b E3 G3 with
      | nx E4 G4 => rw [hr] at k3; exact fun ρ4 H4 σ4 e4 s4 r4 => ⟨ρ4, E4, G4, ext.trans e4, r4, s4, OutS.mono k3 e4⟩
      | ct E4 G4 => rw [hr] at k3; exact fun ρ4 H4 σ4 e4 s4 r4 => ⟨ρ4, E4, G4, ext.trans e4, r4, s4, OutS.mono k3 e4⟩
      | bk E4 G4 => rw [hr] at k3; exact k3
      | rt w4 G4 => rw [hr] at k3; exact k3
      | ex x4 E4 G4 => rw [hr] at k3; exact k3
      | no => rw [hr] at k3; exact k3
end
end PL
/- part PLh -/
set_option maxHeartbeats 4000000
namespace PL
open PySem PySem.Spec PyProof.Rows L2
/-! ### one reading for all contexts -/
section
variable {X : Cx} {XP : Wish} {pos : Pos}
def rdE (K : Fg) (XP : Wish) (m : ME) : TE := fun σ H Q => ∃ ρ E G, ER K ρ H E σ ∧ SR K ρ G H ∧ Out K XP (VR K) σ ρ H (m E G) Q
def rdT (K : Fg) (XP : Wish) (m : MT) : TT := fun σ H Q => ∃ ρ E G, ER K ρ H E σ ∧ SR K ρ G H ∧ Out K XP BR σ ρ H (m E G) Q
def rdG (K : Fg) (XP : Wish) (sl : List Nat) (m : MG) : TG := fun v σ H Q => ∃ ρ w E G, VR K ρ H w v ∧ ER K ρ H E σ ∧ SR K ρ G H ∧ Out K XP (GR K sl σ) σ ρ H (m w E G) Q
theorem HE.rd {e : Expr} {m : ME} (h : HE X XP e m) : PE X e (rdE X.K XP m) := by
  obtain ⟨t, h1, h2⟩ := h.ex
  exact ⟨fun pins s σ H Q I ⟨ρ, E, G, er, sr, q⟩ => h1.run pins s σ H Q I (h2 ρ E G σ H Q er sr q)⟩
theorem HT.rd {e : Expr} {m : MT} (h : HT X XP e m) : PT X e (rdT X.K XP m) := by
  obtain ⟨t, h1, h2⟩ := h.ex
  exact ⟨fun pins s σ H Q I ⟨ρ, E, G, er, sr, q⟩ => h1.run pins s σ H Q I (h2 ρ E G σ H Q er sr q)⟩
theorem HG.rd {e : Expr} {sl : List Nat} {m : MG} (h : HG X XP e sl m) : PG X e (rdG X.K XP sl m) := by
  obtain ⟨t, h1, h2⟩ := h.ex
  exact ⟨fun pins s σ H v u Q I r ⟨ρ, w, E, G, vr, er, sr, q⟩ => h1.run pins s σ H v u Q I r (h2 ρ w E G v σ H Q vr er sr q)⟩

/-! ### list comprehensions -/
def wipeE (E : PEnv) : List Nat → PEnv
  | [] => E
  | v :: vs => (wipeE E vs).set v none
theorem ER.wipe {K : Fg} {ρ : List Addr} {H : Hp} {E : PEnv} {σ : St} (h : ER K ρ H E σ) : ∀ vs : List Nat, ER K ρ H (wipeE E vs) (L2.wipe σ vs)
  | [] => h
  | v :: vs => ER.unset v Option.none (ER.wipe h vs)
theorem wipe_at {σ : St} {j : Nat} : ∀ {vs : List Nat}, (L2.wipe σ vs)[j]? = if j ∈ vs then (if j < σ.length then some none else none) else σ[j]?
  | [] => by simp [L2.wipe]
  | v :: vs => by
    unfold L2.wipe
    by_cases e : v = j
    · subst e
      rw [List.getElem?_set]
      simp [L2.wipe_length]
    · rw [List.getElem?_set_ne e, wipe_at]
      have : (j ∈ v :: vs) ↔ j ∈ vs := by simp [List.mem_cons, Ne.symm e]
      simp only [this]
theorem wipe_again {σ σ2 : St} {vs sl : List Nat} (hl : σ2.length = σ.length) (hk : ∀ i, i ∉ sl → σ2[i]? = (L2.wipe σ vs)[i]?) (hs : ∀ i ∈ sl, i ∈ vs) : L2.wipe σ2 vs = L2.wipe σ vs := by
  refine List.ext_getElem? fun j => ?_
  rw [wipe_at, wipe_at]
  by_cases hj : j ∈ vs
  · rw [if_pos hj, if_pos hj, hl]
  · rw [if_neg hj, if_neg hj, hk j fun h => hj (hs j h), wipe_at, if_neg hj]
abbrev noX : Wish := fun _ _ _ _ => False
structure HTs (X : Cx) (XP : Wish) (ifs : List Expr) (m : MT) : Prop where
  ex : ∃ t, PTs X ifs t ∧ ∀ ρ E G σ H Q, ER X.K ρ H E σ → SR X.K ρ G H → Out X.K XP BR σ ρ H (m E G) Q → t σ H Q
def mYes : MT := fun _ G => .ok true G
theorem hts_nil : HTs X XP [] mYes := ⟨_, pts_nil, fun ρ E G σ H Q er sr q => q.ok sr rfl⟩
theorem hts_one {e : Expr} {m : MT} (h : HT X XP e m) : HTs X XP [e] m := by
  obtain ⟨t, h1, h2⟩ := h.ex
  exact ⟨t, pts_one h1, h2⟩
theorem HTs.rd {e : List Expr} {m : MT} (h : HTs X XP e m) : PTs X e (rdT X.K XP m) := by
  obtain ⟨t, h1, h2⟩ := h.ex
  exact ⟨fun pins s σ H Q I ⟨ρ, E, G, er, sr, q⟩ => h1.run pins s σ H Q I (h2 ρ E G σ H Q er sr q)⟩
/-- the list at the cell n is filled -/
def lcL (pit : PIt) (g : MG) (t : MT) (m : ME) (n : Nat) (E : PEnv) : Nat → Nat → Cells → Option Cells
  | fuel, i, G => match pit.at G i with
    | none => none
    | some none => some G
    | some (some w) => match fuel with
      | 0 => none
      | k + 1 => match g w E G with
        | .ok E1 G1 => (match t E1 G1 with
          | .ok true G2 => (match m E1 G2 with
            | .ok y G3 => (match G3[n]? with
              | some (.lst acc) => if acc.length < sizeLine then lcL pit g t m n E k (i + 1) (G3.set n (.lst (acc ++ [y]))) else none
              | _ => none)
            | _ => none)
          | .ok false G2 => lcL pit g t m n E k (i + 1) G2
          | _ => none)
        | _ => none
def mLc (mi : MI) (g : MG) (t : MT) (m : ME) (vs : List Nat) : ME := fun E G => (mi E G).bind fun pit G1 =>
  match lcL pit g t m G1.length (wipeE E vs) (pit.len G1) 0 (G1 ++ [.lst []]) with
  | some G2 => .ok (.ref G1.length) G2
  | none => .no
theorem lc_run {wi : TI} {mi : MI} {g : MG} {t : MT} {m : ME} {vs sl : List Nat} (hsl : ∀ i ∈ sl, i ∈ vs)
    (i2 : ∀ ρ E G σ H R, ER X.K ρ H E σ → SR X.K ρ G H → Out X.K XP (ItR X.K) σ ρ H (mi E G) R → wi σ H R) :
    ∀ ρ E G σ H Q, ER X.K ρ H E σ → SR X.K ρ G H → Out X.K XP (VR X.K) σ ρ H (mLc mi g t m vs E G) Q → tLc wi (rdG X.K noX sl g) (rdT X.K noX t) (rdE X.K noX m) vs σ H Q := by
  intro ρ E G σ H Q er sr q
  refine i2 ρ E G σ H _ er sr (q.bind fun pit G1 ρ1 H1 J e1 s1 r1 k1 => ?_)
  intro D hD
  have hcell : CR X.K (ρ1 ++ [D]) (upd H1 D (.lst [])) (.lst []) D := ⟨[], upd_same, .nil⟩
  have sA := s1.alloc hD hcell
  have eA : Ext X.K ρ1 H1 (ρ1 ++ [D]) (upd H1 D (.lst [])) := ext_alloc hD
  have hn : (ρ1 ++ [D])[G1.length]? = some D := by rw [← s1.len]; exact last_get _ _
  refine ⟨fun i k H' => ∃ ρ' G', Ext X.K (ρ1 ++ [D]) (upd H1 D (.lst [])) ρ' H' ∧ SR X.K ρ' G' H' ∧ ∃ G2, lcL pit g t m G1.length (wipeE E vs) k i G' = some G2 ∧ Out X.K XP (VR X.K) σ ρ' H' (.ok (.ref G1.length) G2) Q, ?_, ?_⟩
  · cases hr : lcL pit g t m G1.length (wipeE E vs) (pit.len G1) 0 (G1 ++ [.lst []]) with
    | none => rw [hr] at k1; exact k1.elim
    | some G2 => rw [hr] at k1; exact ⟨_, ρ1 ++ [D], G1 ++ [.lst []], .refl, sA, G2, hr, Out.mono k1 eA⟩
  · rintro i k H' ⟨ρ', G', ex, s', G2, hl, o⟩
    obtain ⟨hstop, hgo⟩ := r1 ρ' G' H' (eA.trans ex) s' i
    have hn' := ex.rho _ _ hn
    unfold lcL at hl
    split at hl
    · cases hl
    · rename_i ha
      cases hl
      exact .inl ⟨hstop ha, o.ok s' (.ref hn')⟩
    · rename_i w ha
      obtain ⟨go, hy⟩ := hgo w ha
      split at hl
      · cases hl
      · rename_i k0
        refine .inr ⟨go, fun H2 => ∃ ρ2 G3, Ext X.K (ρ1 ++ [D]) (upd H1 D (.lst [])) ρ2 H2 ∧ SR X.K ρ2 G3 H2 ∧ ∃ G2, lcL pit g t m G1.length (wipeE E vs) k0 (i + 1) G3 = some G2 ∧ Out X.K XP (VR X.K) σ ρ2 H2 (.ok (.ref G1.length) G2) Q, fun H2 h => ⟨k0, Nat.lt_succ_self _, h⟩, fun x H2 y => ?_⟩
        obtain ⟨y1, y2, y3⟩ := hy x H2 y
        have erw : ER X.K ρ' H2 (wipeE E vs) (L2.wipe σ vs) := ((er.mono (e1.trans (eA.trans (ex.trans y1)))).wipe vs)
        refine ⟨ρ', w, wipeE E vs, G', y3, erw, y2, ?_⟩
        split at hl
        · rename_i E1 G3 hg
          rw [hg]
          intro ρ3 H3 σ3 e3 s3 r3
          refine ⟨wipe_again ?_ r3.2.2 hsl, ρ3, E1, G3, r3.1, s3, ?_⟩
          · rw [r3.2.1, L2.wipe_length]
          · split at hl
            · rename_i G4 ht
              rw [ht]
              intro ρ4 H4 b e4 s4 hb
              cases hb
              rw [if_pos rfl]
              refine ⟨ρ4, E1, G4, r3.1.mono e4, s4, ?_⟩
              split at hl
              · rename_i yw G5 hm
                rw [hm]
                intro ρ5 H5 v e5 s5 r5
                have ext5 : Ext X.K ρ' H' ρ5 H5 := y1.trans (e3.trans (e4.trans e5))
                have hn5 := ext5.rho _ _ hn'
                split at hl
                · rename_i acc hc
                  split at hl
                  · rename_i hz
                    obtain ⟨us, q1, q2⟩ := cell_lst s5 hn5 hc
                    have exw : Ext X.K ρ5 H5 ρ5 (upd H5 D (.lst (us ++ [v]))) := s5.ext_write hc hn5 rfl
                    refine ⟨us, q1, by rw [← q2.length]; exact hz, ρ5, _, (ex.trans ext5).trans exw, s5.write (c' := .lst (acc ++ [yw])) hc hn5 rfl rfl ⟨us ++ [v], upd_same, (q2.mono exw).append (.cons (r5.mono exw) .nil)⟩, G2, hl, Out.mono o (ext5.trans exw)⟩
                  · cases hl
                · cases hl
              · cases hl
            · rename_i G4 ht
              rw [ht]
              intro ρ4 H4 b e4 s4 hb
              cases hb
              rw [if_neg Bool.false_ne_true]
              have ext4 : Ext X.K ρ' H' ρ4 H4 := y1.trans (e3.trans e4)
              exact ⟨ρ4, G4, ex.trans ext4, s4, G2, hl, Out.mono o ext4⟩
            · cases hl
        · cases hl
end
end PL
/- part PLi -/
set_option maxHeartbeats 4000000
namespace PL
open PySem PySem.Spec PyProof.Rows L2
/-! ### contexts -/
structure RoomG (k : Nat) (A : Around) : Prop where
  room : Room k A
  grd : A.guards = some []
theorem RoomG.mono {j k : Nat} {A : Around} (r : RoomG k A) (h : j ≤ k) : RoomG j A := ⟨r.room.mono h, r.grd⟩
/-- how an exception lies -/
def xr (mg : Str → Option Value) (K : Fg) (e : Exn) (ρ : List Addr) (H : Hp) (cls : Value) (d : Option Addr) : Prop :=
  mg e.cls = some cls ∧ match e.arg with
    | none => True
    | some (f, w) => ∃ dd v, d = some dd ∧ H dd = some (.xd [(f, v)]) ∧ VR K ρ H w v
/-- the table of modules stands in the base -/
def SysD (h : Heap) : Prop := ∃ o es n, h.get? sysModules = some o ∧ o.data = .dict es n
structure GC (X : Cx) (XP : Wish) (k : Nat) : Prop where
  sys : SysD X.base
  room : RoomG k X.A
  calm : X.calm = true
  nd : X.N.Nodup
  po : PassesOwn (model X.prog X.w) X.A X.env X.xe
  tk : ∃ W : WX, Takes X W ∧ ∀ e σ ρ H cls d, XP e σ ρ H → xr X.mg X.K e ρ H cls d → W cls d σ H
section
variable {X : Cx} {XP : Wish} {k : Nat}
theorem GC.hu (c : GC X XP k) : X.A.units + 1 < cLine := by have := c.room.room.units; omega
theorem GC.blk (c : GC X XP k) (s : Shared) (H : Hp) (scope : Scope) (cenv : Env) (fp : List Addr) : GC (X.blk s H scope cenv fp) noX k :=
  ⟨c.sys, c.room, c.calm, c.nd, PassesOwn.never, ⟨fun _ _ _ _ => False, takes0, fun _ _ _ _ _ _ h _ => h⟩⟩
end

/-! ### what a def is worth -/
abbrev PF := List W → Cells → Rs W
def OutF (K : Fg) (mg : Str → Option Value) (ρ : List Addr) (H : Hp) (r : Rs W) (Q : VK) (E : XK) : Prop :=
  match r with
  | .ok w G => ∀ ρ' H' v, Ext K ρ H ρ' H' → SR K ρ' G H' → VR K ρ' H' w v → Q v H'
  | .ex e G => ∀ ρ' H' cls d, Ext K ρ H ρ' H' → SR K ρ' G H' → xr mg K e ρ' H' cls d → E cls d H'
  | .no => False
def spP (K : Fg) (mg : Str → Option Value) (F : PF) : Sp := fun vs H Q E => ∃ ρ G ws, VRs K ρ H ws vs ∧ SR K ρ G H ∧ OutF K mg ρ H (F ws G) Q E
structure FnG (P : Program) (w : World) (K : Fg) (mg : Str → Option Value) (base : Heap) (k : Nat) (f : Addr) (fd : FuncData) (ps : List Str) (F : PF) : Prop where
  len : ∀ ws G, ws.length ≠ ps.length → F ws G = .no
  run : ∀ (A : Around) (outer : List Env) (s : Shared) (H : Hp) (args : Args) (us : List Value) (vs : List V) (Q : VK) (E : XK), RoomG k A → Env0 P w K mg base A outer s H → BindsTo s fd args (ps.zip us) → Vals vs us → spP K mg F vs H Q E →
    codeAny (model P w) A (.call (.ref f) args) (L2.CR (L2.CX P w) outer P w H s Q E) s
theorem FnG.mono {P : Program} {w : World} {K : Fg} {mg : Str → Option Value} {base : Heap} {j k : Nat} {f : Addr} {fd : FuncData} {ps : List Str} {F : PF} (h : FnG P w K mg base j f fd ps F) (l : j ≤ k) : FnG P w K mg base k f fd ps F :=
  ⟨h.len, fun A outer s H args us vs Q E hr => h.run A outer s H args us vs Q E (hr.mono l)⟩
theorem FnG.lenV {P : Program} {w : World} {K : Fg} {mg : Str → Option Value} {base : Heap} {k : Nat} {f : Addr} {fd : FuncData} {ps : List Str} {F : PF} (h : FnG P w K mg base k f fd ps F) {vs : List V} {H : Hp} {Q : VK} {E : XK} (s : spP K mg F vs H Q E) : vs.length = ps.length := by
  obtain ⟨ρ, G, ws, r, _, o⟩ := s
  rw [← r.length]
  apply Decidable.byContradiction
  intro hne
  rw [h.len ws G hne] at o
  exact o
/-- the defaults dws are put in behind -/
theorem FnG.runC {X : Cx} {XP : Wish} {k : Nat} {f : Addr} {fd : FuncData} {ps : List Str} {F : PF} (h : FnG X.prog X.w X.K X.mg X.base k f fd ps F) (c : GC X XP k) {pins : List (Addr × Obj)} {σ : St} {s : Shared} {ρ : List Addr} {G : Cells} {H : Hp} {Q : VK}
    {args : Args} {us : List Value} {vs : List V} {ws : List W} (I : Inv X pins σ H s) (hb : us.length = ps.length → BindsTo s fd args (ps.zip us)) (r : Vals vs us) (rw' : VRs X.K ρ H ws vs) (sr : SR X.K ρ G H) (o : Out X.K XP (VR X.K) σ ρ H (F ws G) Q) :
    wpAny (model X.prog X.w) X.A (call (.ref f) args.pos args.kw) (EP X pins σ Q) X.xe s := by
  obtain ⟨W, tk, lk⟩ := c.tk
  have sp : spP X.K X.mg F vs H Q (fun cls d H' => W cls d σ H') := by
    refine ⟨ρ, G, ws, rw', sr, ?_⟩
    cases hr : F ws G with
    | ok w' G' => rw [hr] at o; exact o
    | ex e G' => rw [hr] at o; exact fun ρ' H' cls d e1 s1 x1 => lk e σ ρ' H' cls d (o ρ' H' e1 s1) x1
    | no => rw [hr] at o; exact o
  have hl : us.length = ps.length := by rw [← r.length]; exact h.lenV sp
  refine wpAny_call (codeAny_mono (h.run X.A X.stack s H args us vs Q _ c.room I.env0 (hb hl) r sp) fun res s' hq => ?_)
  cases res with
  | error e => exact passAt tk σ pins H s e s' I hq
  | ok fl =>
    cases fl with
    | ret u => exact I.after hq
    | next => exact hq.elim
    | brk => exact hq.elim
    | cont => exact hq.elim

/-! ### calls of defs -/
section
variable {X : Cx} {XP : Wish} {k : Nat} {f : Addr} {fd : FuncData} {ps : List Str} {F : PF} {x : Str} {p pos : Pos}
def mDef (F : PF) (m : MA) : ME := fun E G => (m E G).bind fun ws G' => F ws G'
/-- f(e, ..), all by place; dws the defaults that fill up -/
theorem he_call {e : Expr} {es : List Expr} {m : MA} (h : FnG X.prog X.w X.K X.mg X.base k f fd ps F) (c : GC X XP k) (hg : Gl X x) (hm : X.mg x = some (.ref f)) (hk : PySem.W.keepIn X.K (.ref f) = true) (hb : Binds X.K fd ps []) (ha : HA X XP (e :: es) m)
    (hdb : (x == ("__debug__" : Str)) = false := by decide) (he : starEach (e :: es) X.env = (false, eval e X.env) :: starEach es X.env := by rfl) (hpl : (backTo pos (starEach es X.env)).any (·.1) = false := by rfl) : HE X XP (.Call (.Name x p) (e :: es) [] pos) (mDef F m) := by
  obtain ⟨t, a1, a2⟩ := ha.ex
  refine ⟨fun σ H Q => t σ H fun vs H1 => ∃ ρ G ws, VRs X.K ρ H1 ws vs ∧ SR X.K ρ G H1 ∧ Out X.K XP (VR X.K) σ ρ H1 (F ws G) Q, ⟨fun pins s σ H Q I q => ?_⟩, fun ρ E G σ H Q er sr q => a2 ρ E G σ H _ er sr (q.bind fun ws G1 ρ1 H1 vs e1 s1 q1 k1 => ⟨ρ1, G1, ws, q1, s1, k1⟩)⟩
  refine wpAny_Call_Name_kw (ld_glob I hg hm (PySem.W.callWith_K (h₀ := X.base) I.ok.mod.kin hk (thn (a1.run pos pins s σ H _ I q) fun us s1 ⟨vs, H1, I1, r, ρ, G, ws, q1, q2, q3⟩ => ⟨I1.kIn, ?_⟩) he hpl) hdb)
  exact h.runC c (args := ⟨us, []⟩) I1 (fun hl => by have := hb s1 us I1.kIn (by rw [List.append_nil]; exact hl); rwa [List.append_nil] at this) r q1 q2 q3
theorem he_call0 (h : FnG X.prog X.w X.K X.mg X.base k f fd ps F) (c : GC X XP k) (hg : Gl X x) (hm : X.mg x = some (.ref f)) (hk : PySem.W.keepIn X.K (.ref f) = true) (hb : Binds X.K fd ps [])
    (hdb : (x == ("__debug__" : Str)) = false := by decide) : HE X XP (.Call (.Name x p) [] [] pos) (mDef F mNil) := by
  refine ⟨fun σ H Q => ∃ ρ G, SR X.K ρ G H ∧ Out X.K XP (VR X.K) σ ρ H (F [] G) Q, ⟨fun pins s σ H Q I q => ?_⟩, fun ρ E G σ H Q er sr q => ⟨ρ, G, sr, q⟩⟩
  obtain ⟨ρ, G, q2, q3⟩ := q
  refine wpAny_Call_Name_kw (ld_glob I hg hm (PySem.W.callWith_K0 I.kIn hk ?_) hdb)
  exact h.runC c (args := ⟨[], []⟩) I (fun hl => by have := hb s [] I.kIn (by rw [List.append_nil]; exact hl); rwa [List.append_nil] at this) .nil .nil q2 q3
/-- keywords' values, from the left -/
structure HK (X : Cx) (XP : Wish) (kws : List Keyword) (m : MA) : Prop where
  ex : ∃ t, PK X kws t ∧ ∀ ρ E G σ H Q, ER X.K ρ H E σ → SR X.K ρ G H → Out X.K XP (VRs X.K) σ ρ H (m E G) Q → t σ H Q
theorem hk_nil : HK X XP [] mNil := ⟨_, pk_nil, fun ρ E G σ H Q er sr q => q.ok sr .nil⟩
theorem hk_cons {nm : Option Str} {e : Expr} {kpos : Pos} {kws : List Keyword} {ma : ME} {mr : MA} (ha : HE X XP e ma) (hr : HK X XP kws mr) : HK X XP (⟨nm, e, kpos⟩ :: kws) (mCons ma mr) := by
  obtain ⟨ta, a1, a2⟩ := ha.ex
  obtain ⟨tr, r1, r2⟩ := hr.ex
  refine ⟨_, pk_cons a1 r1, fun ρ E G σ H Q er sr q => a2 ρ E G σ H _ er sr (q.bind fun w G1 ρ1 H1 v e1 s1 q1 h1 => ?_)⟩
  exact r2 ρ1 E G1 σ H1 _ (er.mono e1) s1 (h1.bind fun ws G2 ρ2 H2 vs e2 s2 q2 h2 => h2.ok s2 (.cons (q1.mono e2) q2))
/-- how a call with keywords is bound: perm tells for each parameter the place of its value in the values by place, then by keyword -/
def pick {α : Type} (perm : List Nat) (xs : List α) : List α := perm.filterMap fun i => xs[i]?
def pickW (perm : List Nat) (xs : List W) : Option (List W) := if perm.all (fun i => decide (i < xs.length)) then some (pick perm xs) else none
theorem pick_vals : ∀ {perm : List Nat} {vs : List V} {us : List Value}, Vals vs us → Vals (pick perm vs) (pick perm us)
  | [], _, _, _ => .nil
  | i :: perm, vs, us, r => by
    have ih := pick_vals (perm := perm) r
    cases h : vs[i]? with
    | none =>
      have h2 := r.none_of h
      simpa [pick, List.filterMap_cons, h, h2] using ih
    | some v =>
      obtain ⟨u, hu, ru⟩ := r.get h
      simpa [pick, List.filterMap_cons, h, hu] using Paired.cons ru ih
theorem pick_vrs {K : Fg} {ρ : List Addr} {H : Hp} : ∀ {perm : List Nat} {ws : List W} {vs : List V}, VRs K ρ H ws vs → VRs K ρ H (pick perm ws) (pick perm vs)
  | [], _, _, _ => .nil
  | i :: perm, ws, vs, r => by
    have ih := pick_vrs (perm := perm) r
    cases h : ws[i]? with
    | none =>
      have h2 := r.get_none h
      simpa [pick, List.filterMap_cons, h, h2] using ih
    | some v =>
      obtain ⟨u, hu, ru⟩ := r.get h
      simpa [pick, List.filterMap_cons, h, hu] using VRs.cons ru ih
def KwB (K : Fg) (fd : FuncData) (ps ks : List Str) (np : Nat) (perm : List Nat) : Prop :=
  ∀ (s : Shared) (us zs : List Value), K.In s.heap → us.length = np → zs.length = ks.length → BindsTo s fd ⟨us, ks.zip zs⟩ (ps.zip (pick perm (us ++ zs)))
def mDefK (F : PF) (perm : List Nat) (np nk : Nat) (m mk : MA) : ME := fun E G => (m E G).bind fun ws G1 => (mk E G1).bind fun zs G2 => if ws.length = np ∧ zs.length = nk then F (pick perm (ws ++ zs)) G2 else .no
theorem he_callK {e : Expr} {es : List Expr} {kws : List Keyword} {ks : List Str} {nk : Nat} {np : Nat} {perm : List Nat} {m mk : MA} (h : FnG X.prog X.w X.K X.mg X.base k f fd ps F) (c : GC X XP k) (hg : Gl X x) (hm : X.mg x = some (.ref f)) (hk : PySem.W.keepIn X.K (.ref f) = true)
    (hb : KwB X.K fd ps ks np perm) (ha : HA X XP (e :: es) m) (hkw : HK X XP kws mk)
    (hall : (backToKw pos (keywordEach kws X.env)).all (·.1.isSome) = true := by rfl) (hks : (backToKw pos (keywordEach kws X.env)).filterMap (·.1) = ks := by rfl)
    (hdb : (x == ("__debug__" : Str)) = false := by decide) (he : starEach (e :: es) X.env = (false, eval e X.env) :: starEach es X.env := by rfl)
    (hpl : ((backTo pos (starEach (e :: es) X.env)).any (·.1) || (backToKw pos (keywordEach kws X.env)).any (·.1.isNone)) = false := by rfl) (hnk : ks.length = nk := by rfl) : HE X XP (.Call (.Name x p) (e :: es) kws pos) (mDefK F perm np nk m mk) := by
  subst hnk
  obtain ⟨t, a1, a2⟩ := ha.ex
  obtain ⟨tk, b1, b2⟩ := hkw.ex
  refine ⟨fun σ H Q => t σ H fun vs H1 => tk σ H1 fun zs H2 => ∃ ρ G ws ys, VRs X.K ρ H2 ws vs ∧ VRs X.K ρ H2 ys zs ∧ ws.length = np ∧ ys.length = ks.length ∧ SR X.K ρ G H2 ∧ Out X.K XP (VR X.K) σ ρ H2 (F (pick perm (ws ++ ys)) G) Q, ⟨fun pins s σ H Q I q => ?_⟩, fun ρ E G σ H Q er sr q => ?_⟩
  · refine wpAny_Call_Name_kw (ld_glob I hg hm (PySem.W.callWith_KW (h₀ := X.base) I.ok.mod.kin hk hall (thn (a1.run pos pins s σ H _ I q) fun us s1 ⟨vs, H1, I1, r, q1⟩ => ?_) hpl he) hdb)
    refine thn (b1.run pos pins s1 σ H1 _ I1 q1) fun zs s2 ⟨ys, H2, I2, r2, ρ, G, ws, yw, k1, k2, l1, l2, k3, k4⟩ => ⟨I2.kIn, ?_⟩
    rw [hks]
    have hl1 : us.length = np := by rw [← r.length, ← k1.length]; exact l1
    have hl2 : zs.length = ks.length := by rw [← r2.length, ← k2.length]; exact l2
    exact h.runC c (args := ⟨us, ks.zip zs⟩) (us := pick perm (us ++ zs)) I2 (fun _ => hb s2 us zs I2.kIn hl1 hl2) (pick_vals (r.append r2)) (pick_vrs (k1.append k2)) k3 k4
  · refine a2 ρ E G σ H _ er sr (q.bind fun ws G1 ρ1 H1 vs e1 s1 q1 k1 => ?_)
    refine b2 ρ1 E G1 σ H1 _ (er.mono e1) s1 (k1.bind fun ys G2 ρ2 H2 zs e2 s2 q2 k2 => ?_)
    split at k2
    · rename_i hl; exact ⟨ρ2, G2, ws, ys, q1.mono e2, q2, hl.1, hl.2, s2, k2⟩
    · exact k2.elim
theorem he_callK0 {kws : List Keyword} {ks : List Str} {nk : Nat} {perm : List Nat} {mk : MA} (h : FnG X.prog X.w X.K X.mg X.base k f fd ps F) (c : GC X XP k) (hg : Gl X x) (hm : X.mg x = some (.ref f)) (hk : PySem.W.keepIn X.K (.ref f) = true)
    (hb : KwB X.K fd ps ks 0 perm) (hkw : HK X XP kws mk)
    (hall : (backToKw pos (keywordEach kws X.env)).all (·.1.isSome) = true := by rfl) (hks : (backToKw pos (keywordEach kws X.env)).filterMap (·.1) = ks := by rfl)
    (hdb : (x == ("__debug__" : Str)) = false := by decide)
    (hpl : ((backTo pos (starEach [] X.env)).any (·.1) || (backToKw pos (keywordEach kws X.env)).any (·.1.isNone)) = false := by rfl) (hnk : ks.length = nk := by rfl) : HE X XP (.Call (.Name x p) [] kws pos) (mDefK F perm 0 nk mNil mk) := by
  subst hnk
  obtain ⟨tk, b1, b2⟩ := hkw.ex
  refine ⟨fun σ H Q => tk σ H fun zs H2 => ∃ ρ G ys, VRs X.K ρ H2 ys zs ∧ ys.length = ks.length ∧ SR X.K ρ G H2 ∧ Out X.K XP (VR X.K) σ ρ H2 (F (pick perm ([] ++ ys)) G) Q, ⟨fun pins s σ H Q I q => ?_⟩, fun ρ E G σ H Q er sr q => ?_⟩
  · refine wpAny_Call_Name_kw (ld_glob I hg hm (PySem.W.callWith_KW0 (h₀ := X.base) I.ok.mod.kin hk hall ?_ hpl) hdb)
    refine thn (b1.run pos pins s σ H _ I q) fun zs s2 ⟨ys, H2, I2, r2, ρ, G, yw, k2, l2, k3, k4⟩ => ⟨I2.kIn, ?_⟩
    rw [hks]
    have hl2 : zs.length = ks.length := by rw [← r2.length, ← k2.length]; exact l2
    exact h.runC c (args := ⟨[], ks.zip zs⟩) (us := pick perm ([] ++ zs)) I2 (fun _ => hb s2 [] zs I2.kIn rfl hl2) (pick_vals r2) (pick_vrs k2) k3 k4
  · refine b2 ρ E G σ H _ er sr (Out.bind (k := fun zs G2 => if ([] : List W).length = 0 ∧ zs.length = ks.length then F (pick perm ([] ++ zs)) G2 else .no) q fun ys G2 ρ2 H2 zs e2 s2 q2 k2 => ?_)
    split at k2
    · rename_i hl; exact ⟨ρ2, G2, ys, q2, hl.2, s2, k2⟩
    · exact k2.elim
end

/-! ### a def by its body -/
def mFun (np nn : Nat) (b : MS) : PF := fun ws G => if ws.length = np then
    match b (ws.map some ++ List.replicate (nn - np) none) G with
    | .nx _ G' => .ok .non G'
    | .rt w G' => .ok w G'
    | .ex e _ G' => .ex e G'
    | _ => .no
  else .no
def wishOf (mg : Str → Option Value) (K : Fg) (E : XK) : Wish := fun e _ ρ H => ∀ cls d, xr mg K e ρ H cls d → E cls d H
theorem fnG_of {P : Program} {w : World} {K : Fg} {mg : Str → Option Value} {base : Heap} {k : Nat} {f : Addr} {name qual : Str} {params : Arguments} {body : List Stmt} {scope : Scope} {dV kV doc pm cdv ct oc : Value} {an od : Option Addr} {osl : Array (Option Value)} {N ps : List Str} {b : MS}
    (lk : K.lookup f = some ⟨oc, od, .func (PySem.W.fnOf name qual params body scope dV kV doc pm an cdv ct), osl⟩) (hcd : PySem.W.codeIn K cdv qual = true) (S : FnScope N ps scope) (hsys : SysD base)
    (hbody : ∀ (A : Around) (outer : List Env) (s : Shared) (H : Hp) (E : XK), GC (cxOf (L2.CX P w) P w K mg base N qual scope f cdv A outer s H E) (wishOf mg K E) k →
      HB (cxOf (L2.CX P w) P w K mg base N qual scope f cdv A outer s H E) (wishOf mg K E) body b) :
    FnG P w K mg base (k + 1) f (PySem.W.fnOf name qual params body scope dV kV doc pm an cdv ct) ps (mFun ps.length N.length b) := by
  have hlen : ∀ ws G, ws.length ≠ ps.length → mFun ps.length N.length b ws G = .no := fun ws G h => by unfold mFun; rw [if_neg h]
  refine ⟨hlen, fun A outer s H args us vs Q E hr e0 hb r hsp => ?_⟩
  obtain ⟨ρ, G, ws, rw0, sr, o⟩ := hsp
  have wl : ws.length = ps.length := by
    apply Decidable.byContradiction
    intro hne
    rw [hlen ws G hne] at o
    exact o
  have vl : vs.length = ps.length := by rw [← rw0.length]; exact wl
  have KX : K.In s.heap := e0.mod.kin.keeps fun b o e => (e0.bs b o e).1
  have lim : s.heap.NoLimit := e0.mod.nolimit.keeps fun b o e => (e0.bs b o e).1
  have pk : ∀ y ∈ ps.zip us, scope.names.lookup y.1 = some .local ∨ (scope.names.lookup y.1 = some .cell ∧ ((cellsFrom (s.heap.objs.size + 1) scope.names []).lookup y.1).isSome = true) := by
    rintro ⟨n, v⟩ hy
    rcases S.par n (List.of_mem_zip hy).1 with q | q
    · exact Or.inl q
    · exact Or.inr ⟨q, PySem.W.cellsFrom_some _ _ _ (Or.inl q)⟩
  refine codeAny_call_function hr.room.depth (KX _ _ lk) rfl S.co S.gen rfl (PySem.W.codeRec_of KX hcd) (hb _ _ _ _ (wpAny_newFunctionEnv_cells S.kind pk fun env hen s1 inC => ?_))
  subst hen
  refine ⟨lim.keeps inC.toInCall.keep, codeAny_func ?_⟩
  have gc : GC (cxOf (L2.CX P w) P w K mg base N qual scope f cdv A outer s H E) (wishOf mg K E) k :=
    ⟨hsys, ⟨hr.room.deeper _, hr.grd⟩, rfl, S.nd, passes_of rfl, ⟨_, takes_of rfl rfl rfl rfl, fun e σ ρ H cls d h x => h cls d x⟩⟩
  obtain ⟨t, ht, hq⟩ := (hbody A outer s H E gc).ex
  have I : Inv (cxOf (L2.CX P w) P w K mg base N qual scope f cdv A outer s H E) [] (L2.start N vs) H s1 := inv_start S hr.room.hd e0 vl r inC
  have er : ER K ρ H (ws.map some ++ List.replicate (N.length - ps.length) none) (L2.start N vs) := by
    unfold L2.start
    rw [vl]
    exact ER.args rw0 (ER.replicate _)
  have q : t { nx := fun _ H' => Q .non H', rt := Q } (L2.start N vs) H := by
    refine hq ρ _ G (L2.start N vs) H _ er sr ?_
    unfold mFun at o
    rw [if_pos wl] at o
    cases hres : b (ws.map some ++ List.replicate (N.length - ps.length) none) G with
    | nx E' G' => rw [hres] at o; exact fun ρ1 H1 σ1 e1 s1 r1 => o ρ1 H1 .non e1 s1 .non
    | rt w' G' => rw [hres] at o; exact o
    | ex e E' G' => rw [hres] at o; exact fun ρ1 H1 σ1 e1 s1 r1 cls d x => o ρ1 H1 cls d e1 s1 x
    | bk E' G' => rw [hres] at o; exact o.elim
    | ct E' G' => rw [hres] at o; exact o.elim
    | no => rw [hres] at o; exact o.elim
  have fin : ∀ {σ' : St} {H' : Hp} {v : V} {u : Value} {s' : Shared}, Inv (cxOf (L2.CX P w) P w K mg base N qual scope f cdv A outer s H E) [] σ' H' s' → RelV v u → Q v H' → CE outer P w H s Q u s' :=
    fun {σ' H' v u s'} J rv qv => ⟨v, H', J.os, J.bare, J.base, J.hok, rv, qv⟩
  refine wpAny_mono (ht.run [] s1 (L2.start N vs) H _ I q) (fun fl s' hs => ?_) fun e s' hs => hs
  cases fl with
  | ret u => obtain ⟨v, σ', H', J, rv, qv⟩ := hs; exact fin J rv qv
  | next => obtain ⟨σ', H', J, qv⟩ := hs; exact fin (v := V.non) (u := Value.none) J rfl qv
  | brk => obtain ⟨_, _, _, z⟩ := hs; exact False.elim z
  | cont => obtain ⟨_, _, _, z⟩ := hs; exact False.elim z
end PL
/- part PLj -/
set_option maxHeartbeats 4000000
namespace PL
open PySem PySem.Spec PyProof.Rows L2
section
variable {X : Cx} {XP : Wish} {pos : Pos}
theorem he_lc {elt tg iter : Expr} {ifs : List Expr} {scope : Scope} {own : List (Str × Nat)} {mi : MI} {g : MG} {t : MT} {m : ME} {sl : List Nat} {k : Nat} (c : GC X XP k) (hi : HI X XP tg iter mi) (ok : blkC X.N X.env.scope scope own = true)
    (hg : ∀ (s : Shared) (H : Hp) (C : Addr) (cl : List (Str × Addr)) (fp : List Addr), HG (X.blk s H scope (compEnvC scope cl C X.env) fp) noX tg sl g)
    (ht : ∀ (s : Shared) (H : Hp) (C : Addr) (cl : List (Str × Addr)) (fp : List Addr), HTs (X.blk s H scope (compEnvC scope cl C X.env) fp) noX ifs t)
    (he : ∀ (s : Shared) (H : Hp) (C : Addr) (cl : List (Str × Addr)) (fp : List Addr), HE (X.blk s H scope (compEnvC scope cl C X.env) fp) noX elt m)
    (hsl : (sl.all fun i => (own.map (·.2)).contains i) = true := by rfl) (hs : ∀ x, foldedSetIterable iter X.env x = pure x := by intro _; rfl) : HE X XP (.ListComp elt [⟨tg, iter, ifs, 0⟩] scope pos) (mLc mi g t m (own.map (·.2))) := by
  obtain ⟨wi, i1, i2⟩ := hi.ex
  have hsl' : ∀ i ∈ sl, i ∈ own.map (·.2) := fun i h => by simpa using List.all_eq_true.mp hsl i h
  exact ⟨_, pe_lc c.calm c.nd i1 (blkOk_by ok) (fun s H C cl fp => (hg s H C cl fp).rd) (fun s H C cl fp => (ht s H C cl fp).rd) (fun s H C cl fp => (he s H C cl fp).rd) hs, lc_run hsl' i2⟩
theorem hs_setLc {i : Nat} {y : Str} {py spos : Pos} {elt tg iter : Expr} {ifs : List Expr} {scope : Scope} {own : List (Str × Nat)} {mi : MI} {g : MG} {t : MT} {m : ME} {sl : List Nat} {k : Nat} (c : GC X XP k) (hy : X.N[i]? = some y) (hyl : X.env.scope.names.lookup y = some .local)
    (hsw : swapsWith (.ListComp elt [⟨tg, iter, ifs, 0⟩] scope pos) (some (.Name y py)) spos.line X.env = pure true) (hi : HI X XP tg iter mi) (ok : blkC X.N X.env.scope scope own = true)
    (hg : ∀ (s : Shared) (H : Hp) (C : Addr) (cl : List (Str × Addr)) (fp : List Addr), HG (X.blk s H scope (compEnvC scope cl C X.env) fp) noX tg sl g)
    (ht : ∀ (s : Shared) (H : Hp) (C : Addr) (cl : List (Str × Addr)) (fp : List Addr), HTs (X.blk s H scope (compEnvC scope cl C X.env) fp) noX ifs t)
    (he : ∀ (s : Shared) (H : Hp) (C : Addr) (cl : List (Str × Addr)) (fp : List Addr), HE (X.blk s H scope (compEnvC scope cl C X.env) fp) noX elt m)
    (hsl : (sl.all fun i => (own.map (·.2)).contains i) = true := by rfl) (hs : ∀ x, foldedSetIterable iter X.env x = pure x := by intro _; rfl) : HS X XP (.Assign [.Name y py] (.ListComp elt [⟨tg, iter, ifs, 0⟩] scope pos) spos) (sAsg (mLc mi g t m (own.map (·.2))) (gSet i)) := by
  obtain ⟨wi, i1, i2⟩ := hi.ex
  have hsl' : ∀ i ∈ sl, i ∈ own.map (·.2) := fun i h => by simpa using List.all_eq_true.mp hsl i h
  exact ⟨_, ps_setLc c.calm c.nd hy hyl hsw i1 (blkOk_by ok) (fun s H C cl fp => (hg s H C cl fp).rd) (fun s H C cl fp => (ht s H C cl fp).rd) (fun s H C cl fp => (he s H C cl fp).rd) hs,
    asg_run (sl := [i]) (lc_run hsl' i2) fun ρ w E G v σ H Q r er sr q => q.ok sr ⟨er.set r i, List.length_set, fun j hj => set_other (by simpa using hj)⟩⟩

/-! ### while -/
def whL (c : MT) (b : MS) : Nat → PEnv → Cells → So
  | 0, _, _ => .no
  | n + 1, E, G => liftS (c E G) E fun k G1 => if k = true then
      match b E G1 with
      | .nx E2 G2 => whL c b n E2 G2
      | .ct E2 G2 => whL c b n E2 G2
      | .bk E2 G2 => .nx E2 G2
      | r => r
    else .nx E G1
open Classical in
noncomputable def sWhile (c : MT) (b : MS) : MS := fun E G => if h : ∃ n, whL c b n E G ≠ .no then whL c b h.choose E G else .no
theorem whL_more {c : MT} {b : MS} : ∀ {n : Nat} {E : PEnv} {G : Cells}, whL c b n E G ≠ .no → ∀ m, n ≤ m → whL c b m E G = whL c b n E G
  | 0, _, _, h, _, _ => absurd rfl h
  | n + 1, E, G, h, m, hm => by
    obtain ⟨m', rfl⟩ : ∃ m', m = m' + 1 := ⟨m - 1, by omega⟩
    unfold whL at h ⊢
    unfold liftS at h ⊢
    cases hc : c E G with
    | no => rfl
    | ex e G1 => rfl
    | ok k G1 =>
      simp only [hc] at h ⊢
      cases k with
      | false => rfl
      | true =>
        simp only [if_true] at h ⊢
        cases hb : b E G1 with
        | nx E2 G2 => simp only [hb] at h ⊢; exact whL_more h m' (by omega)
        | ct E2 G2 => simp only [hb] at h ⊢; exact whL_more h m' (by omega)
        | bk E2 G2 => rfl
        | rt w2 G2 => rfl
        | ex e2 E2 G2 => rfl
        | no => rfl
theorem sWhile_of {c : MT} {b : MS} {n : Nat} {E : PEnv} {G : Cells} {r : So} (h : whL c b n E G = r) (hr : r ≠ .no) : sWhile c b E G = r := by
  have hx : ∃ n, whL c b n E G ≠ .no := ⟨n, by rw [h]; exact hr⟩
  unfold sWhile
  rw [dif_pos hx]
  rcases Nat.le_total n hx.choose with l | l
  · rw [whL_more (by rw [h]; exact hr) _ l, h]
  · rw [← whL_more hx.choose_spec _ l, h]
theorem hs_while {c : Expr} {body : List Stmt} {mc : MT} {b : MS} (hp : PassesOwn (model X.prog X.w) X.A X.env X.xe) (hc : HT X XP c mc) (hb : HB X XP body b) : HS X XP (.While c body [] pos) (sWhile mc b) := by
  obtain ⟨tc, c1, c2⟩ := hc.ex
  obtain ⟨tb, b1, b2⟩ := hb.ex
  refine ⟨_, ps_while hp c1 b1, fun ρ E G σ H D er sr q => ?_⟩
  unfold sWhile at q
  split at q
  · rename_i hx
    refine ⟨fun m σ' H' => ∃ ρ' E' G', Ext X.K ρ H ρ' H' ∧ ER X.K ρ' H' E' σ' ∧ SR X.K ρ' G' H' ∧ OutS X.K XP ρ' H' (whL mc b m E' G') D, ⟨_, ρ, E, G, .refl, er, sr, q⟩, ?_⟩
    rintro m σ' H' ⟨ρ', E', G', ex, er', s', o⟩
    cases m with
    | zero => exact o.elim
    | succ n =>
      unfold whL at o
      refine c2 ρ' E' G' σ' H' _ er' s' (OutS.lift er' o fun k G1 ρ1 H1 v e1 s1 r1 k1 => ?_)
      cases r1
      cases k with
      | false =>
        rw [if_neg Bool.false_ne_true]
        have k2 : OutS X.K XP ρ1 H1 (.nx E' G1) D := by simpa using k1
        exact k2 ρ1 H1 σ' .refl s1 (er'.mono e1)
      | true =>
        rw [if_pos rfl]
        refine ⟨fun σ2 H2 => ∃ ρ2 E2 G2, Ext X.K ρ H ρ2 H2 ∧ ER X.K ρ2 H2 E2 σ2 ∧ SR X.K ρ2 G2 H2 ∧ OutS X.K XP ρ2 H2 (whL mc b n E2 G2) D, fun σ2 H2 h => ⟨n, Nat.lt_succ_self _, h⟩, ?_⟩
        refine b2 ρ1 E' G1 σ' H1 _ (er'.mono e1) s1 ?_
        simp only [if_true] at k1
        have ext := ex.trans e1
        cases hr : b E' G1 with
        | nx E4 G4 => rw [hr] at k1; exact fun ρ4 H4 σ4 e4 s4 r4 => ⟨ρ4, E4, G4, ext.trans e4, r4, s4, OutS.mono k1 e4⟩
        | ct E4 G4 => rw [hr] at k1; exact fun ρ4 H4 σ4 e4 s4 r4 => ⟨ρ4, E4, G4, ext.trans e4, r4, s4, OutS.mono k1 e4⟩
        | bk E4 G4 => rw [hr] at k1; exact k1
        | rt w4 G4 => rw [hr] at k1; exact k1
        | ex x4 E4 G4 => rw [hr] at k1; exact k1
        | no => rw [hr] at k1; exact k1
  · exact q.elim

/-! ### dict displays -/
abbrev MPs := PEnv → Cells → Rs (List (Key × W))
structure HP (X : Cx) (XP : Wish) (pos : Pos) (keys : List (Option Expr)) (values : List Expr) (m : MPs) : Prop where
  ex : ∃ trs, PPs X pos keys values trs ∧ ∀ ρ E G σ H (Q : List (V × V) → Hp → Prop), ER X.K ρ H E σ → SR X.K ρ G H →
    Out X.K XP (fun ρ H r (q : List (V × V)) => ∃ kv, q = kv.map (fun p => (kV p.1, p.2)) ∧ KVR X.K ρ H r kv) σ ρ H (m E G) Q → tPairs trs σ H Q
def mpNil : MPs := fun _ G => .ok [] G
def mpCons (mk mv : ME) (r : MPs) : MPs := fun E G => (mk E G).bind fun x G1 => (mv E G1).bind fun y G2 => (r E G2).bind fun ps G3 => match keyW x with | some k => .ok ((k, y) :: ps) G3 | none => .no
theorem hp_nil : HP X XP pos [] [] mpNil := ⟨_, pps_nil, fun ρ E G σ H Q er sr q => q.ok sr ⟨[], rfl, .nil⟩⟩
theorem hp_cons {k v : Expr} {ks : List (Option Expr)} {vs : List Expr} {mk mv : ME} {r : MPs} (hk : HE X XP k mk) (hv : HE X XP v mv) (hr : HP X XP pos ks vs r) : HP X XP pos (some k :: ks) (v :: vs) (mpCons mk mv r) := by
  obtain ⟨tk, a1, a2⟩ := hk.ex
  obtain ⟨tv, b1, b2⟩ := hv.ex
  obtain ⟨tr, r1, r2⟩ := hr.ex
  refine ⟨_, pps_cons a1 b1 r1, fun ρ E G σ H Q er sr q => ?_⟩
  refine a2 ρ E G σ H _ er sr (q.bind fun x G1 ρ1 H1 xv e1 s1 q1 k1 => ?_)
  refine b2 ρ1 E G1 σ H1 _ (er.mono e1) s1 (k1.bind fun y G2 ρ2 H2 yv e2 s2 q2 k2 => ?_)
  refine r2 ρ2 E G2 σ H2 _ (er.mono (e1.trans e2)) s2 (k2.bind fun ps G3 ρ3 H3 pv e3 s3 q3 k3 => ?_)
  obtain ⟨kv, rfl, q4⟩ := q3
  split at k3
  · rename_i k0 hk0
    have := keyW_ok (q1.mono (e2.trans e3)) hk0
    subst this
    exact k3.ok s3 ⟨(k0, yv) :: kv, rfl, .cons (q2.mono e3) q4⟩
  · exact k3.elim
def mergeW (kvs more : List (Key × W)) : List (Key × W) := more.foldl (fun acc kv => putW acc kv.1 kv.2) kvs
theorem KVR.merge {K : Fg} {ρ : List Addr} {H : Hp} : ∀ {more : List (Key × W)} {mq : List (Key × V)} {r : List (Key × W)} {q : List (Key × V)}, KVR K ρ H more mq → KVR K ρ H r q → KVR K ρ H (mergeW r more) (mergeK q mq)
  | _, _, _, _, .nil, s => s
  | _, _, r, q, .cons (k := k) (w := w) (v := v) (r := r1) (q := q1) h t, s => by
    show KVR K ρ H (mergeW (putW r k w) r1) (mergeK (putK q k v) q1)
    exact KVR.merge t (s.put h)
def mDisp (m : MPs) : ME := fun E G => (m E (G ++ [.dct []])).bind fun ps G' => match G'[G.length]? with
  | some (.dct []) => if ps.length ≤ 15 then .ok (.ref G.length) (G'.set G.length (.dct (mergeW [] ps))) else .no
  | _ => .no
theorem he_disp {keys : List (Option Expr)} {values : List Expr} {m : MPs} (h : HP X XP pos keys values m) (hall : keys.all (·.isSome) = true := by rfl) (hl : keys.length = values.length := by rfl) (h0 : keys ≠ [] := by simp) (h15 : keys.length ≤ 15 := by decide) : HE X XP (.Dict keys values pos) (mDisp m) := by
  obtain ⟨trs, a1, a2⟩ := h.ex
  refine ⟨_, pe_disp a1 hall hl h0 h15, fun ρ E G σ H Q er sr q => ?_⟩
  intro p hp
  have hcell : PL.CR X.K (ρ ++ [p]) (upd H p (.dK [])) (.dct []) p := ⟨[], upd_same, .nil⟩
  have sA := sr.alloc hp hcell
  have eA : Ext X.K ρ H (ρ ++ [p]) (upd H p (.dK [])) := ext_alloc hp
  have hn : (ρ ++ [p])[G.length]? = some p := by rw [← sr.len]; exact last_get _ _
  refine a2 (ρ ++ [p]) E (G ++ [.dct []]) σ _ _ (er.mono eA) sA ((Out.mono q eA).bind fun ps G1 ρ1 H1 pv e1 s1 q1 k1 => ?_)
  obtain ⟨kv, rfl, q4⟩ := q1
  have hn1 := e1.rho _ _ hn
  split at k1
  · rename_i hc
    obtain ⟨z, z1, z2⟩ := cell_dct s1 hn1 hc
    cases z2
    split at k1
    · rename_i h15'
      have ex : Ext X.K ρ1 H1 ρ1 (upd H1 p (.dK (mergeK [] kv))) := s1.ext_write hc hn1 rfl
      exact ⟨z1, kv, rfl, by rw [← q4.length]; exact h15', k1 ρ1 _ _ ex (s1.write (c' := .dct (mergeW [] ps)) hc hn1 rfl rfl ⟨_, upd_same, KVR.merge (q4.mono ex) .nil⟩) (.ref hn1)⟩
    · exact k1.elim
  · exact k1.elim
/-- {} -/
def mDict0 : ME := fun _ G => .ok (.ref G.length) (G ++ [.dct []])
theorem he_dict0 : HE X XP (.Dict [] [] pos) mDict0 := by
  refine ⟨_, pe_dnewK, fun ρ E G σ H Q er sr q => ?_⟩
  intro p hp
  have hcell : PL.CR X.K (ρ ++ [p]) (upd H p (.dK [])) (.dct []) p := ⟨[], upd_same, .nil⟩
  exact q (ρ ++ [p]) _ _ (ext_alloc hp) (sr.alloc hp hcell) (.ref (by rw [← sr.len]; exact last_get _ _))

/-! ### methods of built-in types -/
structure MtG (X : Cx) (XP : Wish) (T : String) (id : String) (g : Cells → W → List W → Rs W) : Prop where
  ex : ∃ r, MtR X id r ∧ ∀ ρ G σ H w v ws vs Q, SR X.K ρ G H → VR X.K ρ H w v → VRs X.K ρ H ws vs → Out X.K XP (VR X.K) σ ρ H (g G w ws) Q → r v vs H Q
/-- the receiver's type by its value -/
def isTy (T : String) (G : Cells) : W → Bool
  | .str _ => T == "str"
  | .int _ => T == "int"
  | .ref n => match G[n]? with
    | some (.lst _) => T == "list"
    | some (.rol _) => T == "list"
    | some (.dct _) => T == "dict"
    | none => false
  | _ => false
theorem isTy_ok {K : Fg} {ρ : List Addr} {G : Cells} {H : Hp} {T : String} {w : W} {v : V} (s : SR K ρ G H) (r : VR K ρ H w v) (h : isTy T G w = true) : tyV K T v H := by
  cases r with
  | str x => show T = "str"; simpa [isTy] using h
  | int i => show T = "int"; simpa [isTy] using h
  | @ref n a hn =>
    obtain ⟨c, hc⟩ := s.at hn
    simp only [isTy, hc] at h
    have k := s.cell n c a hc hn
    cases c with
    | lst ws => obtain ⟨vs, q1, _⟩ := k; exact .inl ⟨by simpa using h, vs, .of q1⟩
    | rol ws =>
      obtain ⟨vs, q1, _⟩ := k
      refine .inl ⟨by simpa using h, vs, ?_⟩
      rcases q1 with ⟨o, q1⟩ | q1
      · exact .inl (.inr ⟨o, q1⟩)
      · exact .inr q1
    | dct kvs => obtain ⟨vs, q1, _⟩ := k; exact .inr (.inr (.inl ⟨by simpa using h, .inl ⟨vs, q1⟩⟩))
  | _ => cases h
def mMeth (T : String) (g : Cells → W → List W → Rs W) (mo : ME) (m : MA) : ME := fun E G => (mo E G).bind fun w G1 => if isTy T G1 w = true then (m E G1).bind fun ws G2 => g G2 w ws else .no
variable {T id : String} {name : Str} {o e : Expr} {es : List Expr} {apos cpos : Pos} {g : Cells → W → List W → Rs W}
theorem he_meth0 {mo : ME} (pa : PlainAttrs T) (slot : Slot T name id) (hty : typeOf (.builtin id) = pure (.type "method_descriptor")) (hm : MtG X XP T id g) (ho : HE X XP o mo)
    (hbase : attributeBase o name X.env (eval o X.env) = eval o X.env := by rfl) (hline : (apos.endLine == cpos.line) = true := by rfl) : HE X XP (.Call (.Attribute o name apos) [] [] cpos) (mMeth T g mo mNil) := by
  obtain ⟨r, h1, h2⟩ := hm.ex
  obtain ⟨t, a1, a2⟩ := ho.ex
  refine ⟨_, pe_bm0 pa slot hty h1 a1 hbase hline, fun ρ E G σ H Q er sr q => a2 ρ E G σ H _ er sr (q.bind fun w G1 ρ1 H1 v e1 s1 q1 k1 => ?_)⟩
  split at k1
  · rename_i ht; exact ⟨isTy_ok s1 q1 ht, h2 ρ1 G1 σ H1 w v [] [] Q s1 q1 .nil k1⟩
  · exact k1.elim
theorem he_meth {mo : ME} {m : MA} (pa : PlainAttrs T) (slot : Slot T name id) (hty : typeOf (.builtin id) = pure (.type "method_descriptor")) (hm : MtG X XP T id g) (ho : HE X XP o mo) (ha : HA X XP (e :: es) m)
    (hbase : attributeBase o name X.env (eval o X.env) = eval o X.env := by rfl)
    (hfew : ((backTo cpos (starEach (e :: es) X.env)).all (fun x => !x.1) && (backToKw cpos (keywordEach [] X.env)).all (fun x => x.1.isSome)
      && decide ((e :: es).length + ([] : List Keyword).length + (if ([] : List Keyword).isEmpty then 0 else 1) < 30)) = true := by rfl)
    (hline : (apos.endLine == cpos.line) = true := by rfl) (hs : starEach (e :: es) X.env = (false, eval e X.env) :: starEach es X.env := by rfl) (hplain : (backTo cpos (starEach es X.env)).any (·.1) = false := by rfl) : HE X XP (.Call (.Attribute o name apos) (e :: es) [] cpos) (mMeth T g mo m) := by
  obtain ⟨r, h1, h2⟩ := hm.ex
  obtain ⟨t, a1, a2⟩ := ho.ex
  obtain ⟨u, b1, b2⟩ := ha.ex
  refine ⟨_, pe_bm pa slot hty h1 a1 b1 hbase hfew hline hs hplain, fun ρ E G σ H Q er sr q => a2 ρ E G σ H _ er sr (q.bind fun w G1 ρ1 H1 v e1 s1 q1 k1 => ?_)⟩
  split at k1
  · rename_i ht
    exact ⟨isTy_ok s1 q1 ht, b2 ρ1 E G1 σ H1 _ (er.mono e1) s1 (k1.bind fun ws G2 ρ2 H2 vs e2 s2 q2 k2 => h2 ρ2 G2 σ H2 w v ws vs Q s2 (q1.mono e2) q2 k2)⟩
  · exact k1.elim
def appendW : Cells → W → List W → Rs W := fun G w ws => match w, ws with
  | .ref n, [y] => (match G[n]? with | some (.lst xs) => if xs.length < sizeLine then .ok .non (G.set n (.lst (xs ++ [y]))) else .no | _ => .no)
  | _, _ => .no
theorem mg_append : MtG X XP "list" "list.append" appendW := by
  refine ⟨_, mt_append, fun ρ G σ H w v ws vs Q s r rs h => ?_⟩
  unfold appendW at h
  split at h
  · cases r with
    | ref hn =>
      cases rs with
      | @cons y yv _ _ r1 r2 =>
        cases r2
        split at h
        · rename_i xs hc
          split at h
          · rename_i hz
            obtain ⟨us, q1, q2⟩ := cell_lst s hn hc
            have ex : Ext X.K ρ H ρ (upd H _ (.lst (us ++ [yv]))) := s.ext_write hc hn rfl
            exact ⟨_, us, _, rfl, rfl, q1, by rw [← q2.length]; exact hz, h ρ _ _ ex (s.write (c' := .lst (xs ++ [_])) hc hn rfl rfl ⟨_, upd_same, (q2.mono ex).append (.cons (r1.mono ex) .nil)⟩) .non⟩
          · exact h.elim
        · exact h.elim
  · exact h.elim
def popW : Cells → W → List W → Rs W := fun G w ws => match w, ws with
  | .ref n, [] => (match G[n]? with | some (.lst xs) => (match xs[xs.length - 1]? with | some y => .ok y (G.set n (.lst xs.dropLast)) | none => .no) | _ => .no)
  | .ref n, [.int i] => (match G[n]? with
    | some (.lst xs) => if -(2 ^ 63) ≤ i ∧ i < 2 ^ 63 then (match seqIndex? i xs.length with
      | some k => (match xs[k]? with | some y => .ok y (G.set n (.lst (xs.eraseIdx k))) | none => .no)
      | none => .no) else .no
    | _ => .no)
  | _, _ => .no
theorem VRs.dropLast {K : Fg} {ρ : List Addr} {H : Hp} {ws : List W} {vs : List V} (h : VRs K ρ H ws vs) : VRs K ρ H ws.dropLast vs.dropLast := by
  rw [List.dropLast_eq_take, List.dropLast_eq_take, h.length]
  exact h.take _
theorem VRs.erase {K : Fg} {ρ : List Addr} {H : Hp} {ws : List W} {vs : List V} (h : VRs K ρ H ws vs) (k : Nat) : VRs K ρ H (ws.eraseIdx k) (vs.eraseIdx k) := by
  rw [List.eraseIdx_eq_take_drop_succ, List.eraseIdx_eq_take_drop_succ]
  exact (h.take _).append (h.drop _)
theorem mg_pop : MtG X XP "list" "list.pop" popW := by
  refine ⟨_, MtR.or mt_pop mt_popAt, fun ρ G σ H w v ws vs Q s r rs h => ?_⟩
  unfold popW at h
  split at h
  · cases r with
    | ref hn =>
      cases rs
      split at h
      · rename_i xs hc
        split at h
        · rename_i y hy
          obtain ⟨us, q1, q2⟩ := cell_lst s hn hc
          obtain ⟨u, f1, f2⟩ := q2.get hy
          have ex : Ext X.K ρ H ρ (upd H _ (.lst us.dropLast)) := s.ext_write hc hn rfl
          exact .inl ⟨_, us, u, rfl, rfl, q1, by rw [← q2.length]; exact f1, h ρ _ _ ex (s.write (c' := .lst xs.dropLast) hc hn rfl rfl ⟨_, upd_same, (q2.mono ex).dropLast⟩) (f2.mono ex)⟩
        · exact h.elim
      · exact h.elim
  · cases r with
    | ref hn =>
      cases rs with
      | cons r1 r2 =>
        cases r2
        cases r1
        split at h
        · rename_i xs hc
          split at h
          · rename_i hb
            split at h
            · rename_i k hk
              split at h
              · rename_i y hy
                obtain ⟨us, q1, q2⟩ := cell_lst s hn hc
                obtain ⟨u, f1, f2⟩ := q2.get hy
                have ex : Ext X.K ρ H ρ (upd H _ (.lst (us.eraseIdx k))) := s.ext_write hc hn rfl
                exact .inr ⟨_, us, _, k, u, rfl, rfl, q1, hb.1, hb.2, by rw [← q2.length]; exact hk, f1, h ρ _ _ ex (s.write (c' := .lst (xs.eraseIdx k)) hc hn rfl rfl ⟨_, upd_same, (q2.mono ex).erase k⟩) (f2.mono ex)⟩
              · exact h.elim
            · exact h.elim
          · exact h.elim
        · exact h.elim
  · exact h.elim
end
end PL
/- part PLk -/
set_option maxHeartbeats 4000000
namespace PL
open PySem PySem.Spec PyProof.Rows L2
/-! ### data -/
def mapO {α β : Type} (f : α → Option β) : List α → Option (List β)
  | [] => some []
  | x :: xs => match f x, mapO f xs with
    | some y, some ys => some (y :: ys)
    | _, _ => none
def keyD : Key → PyData
  | .inl i => .int i
  | .inr x => .str x
def dat (G : Cells) : Nat → W → Option PyData
  | 0, _ => none
  | k + 1, w => match w with
    | .non => some .none
    | .bl b => some (.bool b)
    | .int i => some (.int i)
    | .str x => some (.str x)
    | .ty _ => none
    | .tup ws => (mapO (dat G k) ws).map .tuple
    | .ref n => match G[n]? with
      | some (.lst ws) => (mapO (dat G k) ws).map .list
      | some (.rol ws) => (mapO (dat G k) ws).map .list
      | some (.dct kvs) => (mapO (fun p => (dat G k p.2).map fun d => (keyD p.1, d)) kvs).map .dict
      | none => none
section
variable {X : Cx} {pins : List (Addr × Obj)} {σ : St} {H : Hp} {s : Shared} {ρ : List Addr} {G : Cells}
/-- what is told of a value -/
def DR (k : Nat) (h : Heap) (u : Value) (d : PyData) : Prop := ∃ as, Reads h u d as ∧ sysModules ∉ as ∧ d.depth ≤ k
def DRs (k : Nat) (h : Heap) (us : List Value) (ds : List PyData) : Prop := ∃ as, ReadsAll h us ds as ∧ sysModules ∉ as ∧ PyData.depthAll ds ≤ k
theorem mapO_cons {α β : Type} {f : α → Option β} {x : α} {xs : List α} {zs : List β} (h : mapO f (x :: xs) = some zs) : ∃ y ys, f x = some y ∧ mapO f xs = some ys ∧ zs = y :: ys := by
  unfold mapO at h
  split at h
  · rename_i y ys h1 h2; cases h; exact ⟨y, ys, h1, h2, rfl⟩
  · cases h
theorem drs_of {k : Nat} (ih : ∀ w v u d, VR X.K ρ H w v → RelV v u → dat G k w = some d → DR k s.heap u d) : ∀ (ws : List W) (vs : List V) (us : List Value) (ds : List PyData), VRs X.K ρ H ws vs → Vals vs us → mapO (dat G k) ws = some ds → DRs k s.heap us ds
  | _, _, _, _, .nil, .nil, h => by cases h; exact ⟨[], .nil, by simp, by simp [PyData.depthAll]⟩
  | _, _, _, _, .cons r rr, .cons v vv, h => by
    obtain ⟨y, ys, h1, h2, rfl⟩ := mapO_cons h
    obtain ⟨as, a1, a2, a3⟩ := ih _ _ _ _ r v h1
    obtain ⟨bs, b1, b2, b3⟩ := drs_of ih _ _ _ _ rr vv h2
    refine ⟨as ++ bs, .cons a1 b1, ?_, by simp only [PyData.depthAll]; omega⟩
    simp only [List.mem_append, not_or]
    exact ⟨a2, b2⟩
theorem key_reads {h : Heap} {k : Key} {u : Value} (hk : keyIs k u = true) : Reads h u (keyD k) [] := by
  rcases keyIs_shape hk with ⟨i, t, rfl, rfl⟩ | ⟨x, t, rfl, rfl⟩
  · exact .int i t
  · exact .str x t
theorem drk_of {P : Program} {w : World} {k : Nat} (ih : ∀ w v u d, VR X.K ρ H w v → RelV v u → dat G k w = some d → DR k s.heap u d) : ∀ (kvs : List (Key × W)) (q : List (Key × V)) (qs : List (Key × Value)) (es : List DictEntry) (ds : List (PyData × PyData)),
    KVR X.K ρ H kvs q → KV q qs → Pairs (mixKind P w) es qs → mapO (fun p => (dat G k p.2).map fun d => (keyD p.1, d)) kvs = some ds →
    ∃ as, ReadsAll s.heap (es.map (·.key)) (ds.map (·.1)) [] ∧ ReadsAll s.heap (es.map (·.val)) (ds.map (·.2)) as ∧ sysModules ∉ as ∧ PyData.depthKv ds ≤ k
  | _, _, _, _, _, .nil, .nil, .nil, h => by cases h; exact ⟨[], .nil, .nil, by simp, by simp [PyData.depthKv]⟩
  | _, _, _, _, _, .cons (k := k0) r rr, .cons v vv, .cons (e := en) e1 e2 e3, h => by
    obtain ⟨y, ys, h1, h2, rfl⟩ := mapO_cons h
    simp only [Option.map_eq_some_iff] at h1
    obtain ⟨d, h1, rfl⟩ := h1
    obtain ⟨as, a1, a2, a3⟩ := ih _ _ _ _ r v.2 h1
    obtain ⟨bs, b0, b1, b2, b3⟩ := drk_of ih _ _ _ _ _ rr vv e3 h2
    have hd : (keyD k0).depth = 0 := by cases k0 <;> simp [keyD, PyData.depth]
    have hk1 : keyIs k0 en.key = true := by have e := e1; rw [mixKind_is, ← v.1] at e; exact e
    refine ⟨as ++ bs, ?_, ?_, ?_, ?_⟩
    · exact ReadsAll.cons (as := []) (bs := []) (key_reads hk1) b0
    · rw [List.map_cons, List.map_cons, e2]
      exact ReadsAll.cons a1 b1
    · simp only [List.mem_append, not_or]
      exact ⟨a2, b2⟩
    · simp only [PyData.depthKv]
      omega

theorem dat_reads (hsys : SysD X.base) (I : Inv X pins σ H s) (sr : SR X.K ρ G H) : ∀ (k : Nat) (w : W) (v : V) (u : Value) (d : PyData), VR X.K ρ H w v → RelV v u → dat G k w = some d → DR k s.heap u d
  | 0, _, _, _, _, _, _, h => by cases h
  | k + 1, _, _, _, _, .non, r, h => by cases h; cases r; exact ⟨[], .none, by simp, by simp [PyData.depth]⟩
  | k + 1, _, _, _, _, .bl b, r, h => by cases h; cases r; exact ⟨[], .bool b, by simp, by simp [PyData.depth]⟩
  | k + 1, _, _, _, _, .int i, r, h => by cases h; obtain ⟨t, rfl⟩ := r; exact ⟨[], .int i t, by simp, by simp [PyData.depth]⟩
  | k + 1, _, _, _, _, .str x, r, h => by cases h; obtain ⟨t, rfl⟩ := r; exact ⟨[], .str x t, by simp, by simp [PyData.depth]⟩
  | k + 1, _, _, _, _, .ty _, r, h => by cases h
  | k + 1, _, _, _, _, .tup (ws := ws) (vs := vs) h1 h2, r, h => by
    cases r
    simp only [dat, Option.map_eq_some_iff] at h
    obtain ⟨ds, hd, rfl⟩ := h
    obtain ⟨its, rv, ⟨o, ho, hc, n, hdt⟩, _⟩ := I.tuple h1
    obtain ⟨as, a1, a2, a3⟩ := drs_of (dat_reads hsys I sr k) ws vs its ds h2 rv hd
    exact ⟨as, .tuple ho hc hdt a1, a2, by simp only [PyData.depth]; omega⟩
  | k + 1, _, _, _, _, .ref (n := n) hn, r, h => by
    cases r
    obtain ⟨c, hcell⟩ := sr.at hn
    simp only [dat, hcell] at h
    have lst : ∀ {ws : List W} {d : PyData}, rdL G n = some ws → (mapO (dat G k) ws).map PyData.list = some d → DR (k + 1) s.heap (.ref _) d := fun {ws d} hr h => by
      simp only [Option.map_eq_some_iff] at h
      obtain ⟨ds, hd, rfl⟩ := h
      obtain ⟨vs, h1, h2⟩ := rdL_ok sr hn hr
      obtain ⟨its, rv, ⟨o, m, ho, hc, _, hdt⟩, _⟩ := I.list h1
      obtain ⟨as, a1, a2, a3⟩ := drs_of (dat_reads hsys I sr k) ws vs its ds h2 rv hd
      refine ⟨_, .list ho hc hdt a1, fun hm => ?_, by simp only [PyData.depth]; omega⟩
      rcases List.mem_cons.mp hm with e | hm
      · obtain ⟨od, es, en, g1, g2⟩ := hsys
        have g3 := I.bk _ _ g1
        rw [e, ho] at g3
        cases g3
        rw [hdt] at g2
        cases g2
      · exact a2 hm
    cases c with
    | lst ws => exact lst (by unfold rdL; rw [hcell]) h
    | rol ws => exact lst (by unfold rdL; rw [hcell]) h
    | dct kvs =>
      simp only [Option.map_eq_some_iff] at h
      obtain ⟨ds, hd, rfl⟩ := h
      obtain ⟨q, h1, h2⟩ := cell_dct sr hn hcell
      obtain ⟨_, hs1, qs, hkv, o, es, ep, ho, hex, hdt, _, hp, _⟩ := I.hok _ _ h1
      have hne := (beq_eq_false_iff_ne.mp hs1).symm
      obtain ⟨as, a0, a1, a2, a3⟩ := drk_of (dat_reads hsys I sr k) kvs q qs es.toList ds h2 hkv hp hd
      refine ⟨_, .dict ho hex.1 hdt a0 a1, ?_, by simp only [PyData.depth]; omega⟩
      simp only [List.append_nil, List.cons_append, List.nil_append, List.mem_cons, not_or]
      exact ⟨hne, a2⟩

/-! ### repr -/
def showOk (d : PyData) : Bool := d.showable && decide (d.shown.length ≤ sizeLine)
def reprW : GCall := fun G ws => match ws with
  | [w] => (match dat G 60 w with | some d => if showOk d = true then .ok (.str d.shown) G else .no | none => .no)
  | _ => .no
end
section
variable {X : Cx} {XP : Wish} {k : Nat}
theorem same_of_keep {pins : List (Addr × Obj)} {σ : St} {H : Hp} {s : Shared} {h' : Heap} {tk : Nat} (I : Inv X pins σ H s) (hk : ∀ b o, s.heap.get? b = some o → h'.get? b = some o) : Inv X pins σ H { s with heap := h', toks := tk } := I.kept hk
theorem cg_repr (c : GC X XP k) : CaG X XP (.builtin "repr") reprW := by
  refine ⟨fun vs H Q => ∃ ρ G σ ws, SR X.K ρ G H ∧ VRs X.K ρ H ws vs ∧ Out X.K XP (VR X.K) σ ρ H (reprW G ws) Q, fun pins s σ H xs us Q I r h => ?_, fun ρ G σ H ws vs Q sr r o => ⟨ρ, G, σ, ws, sr, r, o⟩⟩
  obtain ⟨ρ, G, σ', ws, sr, rw', o⟩ := h
  unfold reprW at o
  split at o
  · rename_i w
    split at o
    · rename_i d hd
      split at o
      · rename_i hs
        cases rw' with
        | cons r1 r2 =>
          cases r2
          obtain ⟨u, rfl, ru⟩ := vals1 r
          obtain ⟨as, a1, a2, a3⟩ := dat_reads c.sys I sr 60 _ _ _ _ r1 ru hd
          simp only [showOk, Bool.and_eq_true, decide_eq_true_eq] at hs
          obtain ⟨h1, h3⟩ := hs
          have fin : ∀ {h' : Heap} {tk : Nat} {t : Tok}, (∀ b o, s.heap.get? b = some o → h'.get? b = some o) → EP X pins σ Q (.str d.shown t) { s with heap := h', toks := tk } := fun hk => ⟨.str d.shown, H, I.kept hk, ⟨_, rfl⟩, o.ok sr (.str _)⟩
          have hu := c.room.room.units
          cases a1 with
          | none => simp only [PyData.shown] at fin; exact PySem.P.repr_of_none (fin (h' := s.heap) fun _ _ e => e)
          | bool b => simp only [PyData.shown] at fin; exact PySem.P.repr_of_bool (fin (h' := s.heap) fun _ _ e => e)
          | int i t => simp only [PyData.shown] at fin; exact PySem.P.repr_of_int (by simpa [PyData.showable] using h1) (fin (h' := s.heap) fun _ _ e => e)
          | str x t => simp only [PyData.shown] at fin h3; exact PySem.P.repr_of_str (fin (h' := s.heap) fun _ _ e => e) h3
          | list b1 b2 b3 b4 => exact repr_of_reads' (.list b1 b2 b3 b4) h1 (fun _ => a2) c.room.grd (by omega) (fun _ _ e => e) (fun h' u tk hk => fin hk) h3
          | tuple b1 b2 b3 b4 => exact repr_of_reads' (.tuple b1 b2 b3 b4) h1 (fun _ => a2) c.room.grd (by omega) (fun _ _ e => e) (fun h' u tk hk => fin hk) h3
          | dict b1 b2 b3 b4 b5 => exact repr_of_reads' (.dict b1 b2 b3 b4 b5) h1 (fun _ => a2) c.room.grd (by omega) (fun _ _ e => e) (fun h' u tk hk => fin hk) h3
      · exact o.elim
    · exact o.elim
  · exact o.elim
end
end PL
/- part PLl -/
set_option maxHeartbeats 4000000
namespace PL
open PySem PySem.Spec PyProof.Rows L2
/-! ### a dict beside a text -/
section
variable {A : Around} {s : Shared}
theorem dict_declines_str (l : Addr) (cs : Value) (dd : Option Addr) (es : Array DictEntry) (ep : Nat) (sl : Array (Option Value)) (b : Str) (u : Tok) :
    Meets (Builtin.«dict.__eq__» ⟨[.ref l, .str b u], []⟩) (fun _ R st => st.heap.get? l = some ⟨cs, dd, .dict es ep, sl⟩ ∧ R (.ok (.ret Value.notImplemented)) st) :=
  .of_wp fun prog w A R st h => by
    obtain ⟨hp1, gn, dr, tks, osx⟩ := st
    obtain ⟨hl, h⟩ := h
    have q1 := F.sub_str_dict
    wp_walk using AutoSeq1.wpAny_loadPart' hl
    all_goals exact ⟨_, rfl, h⟩
theorem str_declines_dict (b : Str) (u : Tok) (l : Addr) (cs : Value) (dd : Option Addr) (es : Array DictEntry) (ep : Nat) (sl : Array (Option Value)) :
    Meets (Builtin.«str.__eq__» ⟨[.str b u, .ref l], []⟩) (fun _ R st => st.heap.get? l = some ⟨cs, dd, .dict es ep, sl⟩ ∧ R (.ok (.ret Value.notImplemented)) st) :=
  .of_wp fun prog w A R st h => by
    obtain ⟨hp1, gn, dr, tks, osx⟩ := st
    obtain ⟨hl, h⟩ := h
    wp_walk using AutoSeq1.wpAny_loadPart' hl
    all_goals exact ⟨_, rfl, h⟩
theorem rc_dict_str {l : Addr} {o : Obj} {es : Array DictEntry} {ep : Nat} (b : Str) (u : Tok) (ho : s.heap.get? l = some o) (hc : o.cls = .type "dict") (hd : o.data = .dict es ep) (hu : A.units < cLine) : SeqAt.RcAt A s (.ref l) (.str b u) false := fun prog w E Q h => by
  obtain ⟨cls, dd, data, sl⟩ := o
  simp only at hc hd
  subst hc hd
  exact SeqAt.rc_eq_decline_or (k := false) ⟨_, ho, rfl⟩ (typeIs_str s b u) (by decide) F.sub_str_dict F.slot_dict_eq F.slot_str_eq_refl
    (fun _ hq => call_meets F.slot_dict_eq ⟨_, ho, rfl⟩ F.entry_dict_eq (F.args_dict_eq_2 _ _) (dict_declines_str l _ dd es ep sl b u) ⟨ho, hq⟩)
    (fun _ hq => call_meets F.slot_str_eq_refl (typeIs_str s b u) F.entry_str_eq (F.args_str_eq_2 _ _) (str_declines_dict b u l _ dd es ep sl) ⟨ho, hq⟩)
    (fun _ hq => wpAny_of_eq (rfl : isSame (.ref l) (.str b u) = pure false) hq) (.inr hu) h
theorem rc_str_dict {l : Addr} {o : Obj} {es : Array DictEntry} {ep : Nat} (b : Str) (u : Tok) (ho : s.heap.get? l = some o) (hc : o.cls = .type "dict") (hd : o.data = .dict es ep) (hu : A.units < cLine) : SeqAt.RcAt A s (.str b u) (.ref l) false := fun prog w E Q h => by
  obtain ⟨cls, dd, data, sl⟩ := o
  simp only at hc hd
  subst hc hd
  exact SeqAt.rc_eq_decline_or (k := false) (typeIs_str s b u) ⟨_, ho, rfl⟩ (by decide) F.sub_dict_str F.slot_str_eq F.slot_dict_eq_refl
    (fun _ hq => call_meets F.slot_str_eq (typeIs_str s b u) F.entry_str_eq (F.args_str_eq_2 _ _) (str_declines_dict b u l _ dd es ep sl) ⟨ho, hq⟩)
    (fun _ hq => call_meets F.slot_dict_eq_refl ⟨_, ho, rfl⟩ F.entry_dict_eq (F.args_dict_eq_2 _ _) (dict_declines_str l _ dd es ep sl b u) ⟨ho, hq⟩)
    (fun _ hq => wpAny_of_eq (rfl : isSame (.str b u) (.ref l) = pure false) hq) (.inr hu) h
end
/-! ### == -/
def eqK (G : Cells) (x y : W) : Option Bool := match x, y with
  | .tup xs, .tup ys => if xs.isEmpty || ys.isEmpty then some (xs.isEmpty && ys.isEmpty) else none
  | .tup _, .str _ => some false
  | .str _, .tup _ => some false
  | .ref n, .str _ => (match G[n]? with | some (.dct _) => some false | some (.lst _) => some false | _ => none)
  | .str _, .ref n => (match G[n]? with | some (.dct _) => some false | some (.lst _) => some false | _ => none)
  | _, _ => none
def eqW (G : Cells) (x y : W) : Option Bool := match dat G 60 x, dat G 60 y with
  | some d, some e => if SeqAt.shaped d && SeqAt.shaped e then some (PyData.eqv d e) else eqK G x y
  | _, _ => eqK G x y
def scW : W → Option V
  | .non => some .non
  | .bl b => some (.bl b)
  | .int i => some (.int i)
  | .str x => some (.str x)
  | _ => none
def eqS (x y : W) : Option Bool := match scW x, scW y with
  | some v, some u => if scal v u = true then some (decide (v = u)) else none
  | _, _ => none
def eqOp : GOp := fun G x y => match eqS x y with
  | some b => .ok (.bl b) G
  | none => (match eqW G x y with | some b => .ok (.bl b) G | none => .no)
def neOp : GOp := fun G x y => match eqS x y with
  | some b => .ok (.bl (!b)) G
  | none => (match dat G 60 x, dat G 60 y with
    | some d, some e => if SeqAt.shaped d && SeqAt.shaped e then .ok (.bl (!PyData.eqv d e)) G else .no
    | _, _ => .no)
section
variable {X : Cx} {XP : Wish} {k : Nat}
theorem eqK_rc {pins : List (Addr × Obj)} {σ : St} {H : Hp} {s : Shared} {ρ : List Addr} {G : Cells} {x y : W} {v u : V} {a b : Value} {r : Bool} (I : Inv X pins σ H s) (sr : SR X.K ρ G H) (hu : X.A.units < cLine)
    (r1 : VR X.K ρ H x v) (r2 : VR X.K ρ H y u) (ra : RelV v a) (rb : RelV u b) (h : eqK G x y = some r) : SeqAt.RcAt X.A s a b r := by
  unfold eqK at h
  split at h
  · cases r1 with
    | tup h1 h2 =>
      cases r2 with
      | tup g1 g2 =>
        cases ra; cases rb
        obtain ⟨its, rv, p, _⟩ := I.tuple h1
        obtain ⟨its2, rv2, p2, _⟩ := I.tuple g1
        have l1 := rv.length
        have l2 := h2.length
        have l3 := rv2.length
        have l4 := g2.length
        split at h
        · rename_i hc
          have hm : min its.toArray.size its2.toArray.size = 0 := by
            simp only [Bool.or_eq_true, List.isEmpty_iff] at hc
            simp only [List.size_toArray]
            rcases hc with e | e <;> (subst e; simp only [List.length_nil] at l2 l4; omega)
          have q := SeqAt.RcAt.tuples (A := X.A) (s := s) (e := fun _ => true) p p2 hu fun j h1 h2 => by
            simp only [List.size_toArray] at hm h1 h2
            omega
          have e : r = ((List.range (min its.toArray.size its2.toArray.size)).all (fun _ => true) && its.toArray.size == its2.toArray.size) := by
            rw [hm]
            rw [← Option.some.inj h]
            simp only [List.size_toArray, List.range_zero, List.all_nil, Bool.true_and]
            simp only [List.size_toArray] at hm
            rw [Bool.eq_iff_iff]
            simp only [Bool.and_eq_true, List.isEmpty_iff, beq_iff_eq]
            constructor
            · rintro ⟨rfl, rfl⟩; simp only [List.length_nil] at l2 l4; omega
            · intro he
              exact ⟨List.eq_nil_of_length_eq_zero (by omega), List.eq_nil_of_length_eq_zero (by omega)⟩
          rw [e]; exact q
        · cases h
  · cases h
    cases r1 with
    | tup h1 h2 =>
      cases r2; cases ra
      obtain ⟨t, rfl⟩ := rb
      obtain ⟨its, rv, p, _⟩ := I.tuple h1
      exact SeqAt.RcAt.tuple_str _ t p hu
  · cases h
    cases r2 with
    | tup h1 h2 =>
      cases r1; cases rb
      obtain ⟨t, rfl⟩ := ra
      obtain ⟨its, rv, p, _⟩ := I.tuple h1
      exact SeqAt.RcAt.str_tuple _ t p hu
  · cases r1 with
    | ref hn =>
      cases r2; cases ra
      obtain ⟨t, rfl⟩ := rb
      split at h
      · rename_i hc
        cases h
        obtain ⟨q, h1, h2⟩ := cell_dct sr hn hc
        obtain ⟨_, _, _, _, o, es, ep, ho, hex, hdt, _⟩ := I.hok _ _ h1
        exact rc_dict_str _ t ho hex.1 hdt hu
      · rename_i hc
        cases h
        obtain ⟨vs, h1, h2⟩ := cell_lst sr hn hc
        obtain ⟨its, rv, p, _⟩ := I.list (.of h1)
        exact SeqAt.RcAt.list_str _ t p.isList hu
      · cases h
  · cases r2 with
    | ref hn =>
      cases r1; cases rb
      obtain ⟨t, rfl⟩ := ra
      split at h
      · rename_i hc
        cases h
        obtain ⟨q, h1, h2⟩ := cell_dct sr hn hc
        obtain ⟨_, _, _, _, o, es, ep, ho, hex, hdt, _⟩ := I.hok _ _ h1
        exact rc_str_dict _ t ho hex.1 hdt hu
      · rename_i hc
        cases h
        obtain ⟨vs, h1, h2⟩ := cell_lst sr hn hc
        obtain ⟨its, rv, p, _⟩ := I.list (.of h1)
        exact SeqAt.RcAt.str_list _ t p.isList hu
      · cases h
  · cases h
/-- an operation that changes nothing, by what it answers -/
theorem og_of {f : Value → Value → Sem Value} {g : GOp} (h : ∀ (pins : List (Addr × Obj)) (s : Shared) (σ : St) (H : Hp) (ρ : List Addr) (G : Cells) (x y : W) (v u : V) (a b : Value) (Q : VK) (σ' : St), Inv X pins σ H s → SR X.K ρ G H → VR X.K ρ H x v → VR X.K ρ H y u → RelV v a → RelV u b → Out X.K XP (VR X.K) σ' ρ H (g G x y) Q →
    wpAny (model X.prog X.w) X.A (f a b) (EP X pins σ Q) X.xe s) : OpG X XP f g := by
  refine ⟨fun v u H Q => ∃ ρ G σ x y, SR X.K ρ G H ∧ VR X.K ρ H x v ∧ VR X.K ρ H y u ∧ Out X.K XP (VR X.K) σ ρ H (g G x y) Q, fun pins s σ H v u a b Q I ra rb q => ?_, fun ρ G σ H x y v u Q sr r1 r2 o => ⟨ρ, G, σ, x, y, sr, r1, r2, o⟩⟩
  obtain ⟨ρ, G, σ', x, y, sr, r1, r2, o⟩ := q
  exact h pins s σ H ρ G x y v u a b Q σ' I sr r1 r2 ra rb o
theorem scW_vr {ρ : List Addr} {K : Fg} {H : Hp} {x : W} {v u : V} (r : VR K ρ H x v) (h : scW x = some u) : v = u := by
  unfold scW at h
  split at h
  · cases r; exact Option.some.inj h
  · cases r; exact Option.some.inj h
  · cases r; exact Option.some.inj h
  · cases r; exact Option.some.inj h
  · cases h
theorem eqS_sc {ρ : List Addr} {K : Fg} {H : Hp} {x y : W} {v u : V} {b : Bool} (r1 : VR K ρ H x v) (r2 : VR K ρ H y u) (h : eqS x y = some b) : scal v u = true ∧ b = decide (v = u) := by
  unfold eqS at h
  split at h
  · rename_i v1 u1 h1 h2
    obtain rfl := scW_vr r1 h1
    obtain rfl := scW_vr r2 h2
    split at h
    · rename_i hs
      exact ⟨hs, (Option.some.inj h).symm⟩
    · cases h
  · cases h
theorem og_eq (c : GC X XP k) : OpG X XP (compareOp .Eq) eqOp := og_of fun pins s σ H ρ G x y v u a b Q σ' I sr r1 r2 ra rb o => by
  have hu := c.room.room.units
  unfold eqOp at o
  split at o
  · rename_i r hr
    obtain ⟨h1, rfl⟩ := eqS_sc r1 r2 hr
    exact op_eq pins s σ H v u a b Q I ra rb ⟨h1, o.ok sr (.bl _)⟩
  split at o
  · rename_i r hr
    have fin : EP X pins σ Q (.bool r) s := ⟨.bl r, H, I, rfl, o.ok sr (.bl _)⟩
    have viaK : eqK G x y = some r → wpAny (model X.prog X.w) X.A (compareOp .Eq a b) (EP X pins σ Q) X.xe s := fun h => eqK_rc I sr (by omega) r1 r2 ra rb h _ _ _ _ fin
    unfold eqW at hr
    split at hr
    · rename_i d e hd he
      split at hr
      · rename_i hs
        cases hr
        simp only [Bool.and_eq_true] at hs
        obtain ⟨as, a1, _, _⟩ := dat_reads c.sys I sr 60 x v a d r1 ra hd
        obtain ⟨bs, b1, _, _⟩ := dat_reads c.sys I sr 60 y u b e r2 rb he
        exact SeqAt.compareEq_shaped a1 b1 hs.1 hs.2 hu fin
      · exact viaK hr
    · exact viaK hr
  · exact o.elim
theorem og_ne (c : GC X XP k) : OpG X XP (compareOp .NotEq) neOp := og_of fun pins s σ H ρ G x y v u a b Q σ' I sr r1 r2 ra rb o => by
  have hu := c.room.room.units
  unfold neOp at o
  split at o
  · rename_i r hr
    obtain ⟨h1, rfl⟩ := eqS_sc r1 r2 hr
    exact op_ne pins s σ H v u a b Q I ra rb ⟨h1, o.ok sr (.bl _)⟩
  split at o
  · rename_i d e hd he
    split at o
    · rename_i hs
      simp only [Bool.and_eq_true] at hs
      obtain ⟨as, a1, _, _⟩ := dat_reads c.sys I sr 60 x v a d r1 ra hd
      obtain ⟨bs, b1, _, _⟩ := dat_reads c.sys I sr 60 y u b e r2 rb he
      exact SeqAt.compareNe_shaped a1 b1 hs.1 hs.2 hu ⟨.bl _, H, I, rfl, o.ok sr (.bl _)⟩
    · exact o.elim
  · exact o.elim
/-! ### in -/
def itemsD : PyData → Option (List PyData)
  | .list xs => some xs
  | .tuple xs => some xs
  | _ => none
def inW (neg : Bool) : GOp := fun G x y => match dat G 60 x, dat G 60 y with
  | some d, some e => (match itemsD e with
    | some xs => if SeqAt.shaped d && SeqAt.shaped e then .ok (.bl (if neg then !xs.any fun z => PyData.eqv z d else xs.any fun z => PyData.eqv z d)) G else .no
    | none => .no)
  | _, _ => .no
theorem shapedAll {xs : List PyData} {e : PyData} (h : itemsD e = some xs) (hs : SeqAt.shaped e = true) : PyData.canLayAll0 xs = true ∧ PyData.depthAll xs ≤ 63 := by
  have h1 := SeqAt.canLay_of_shaped hs
  have h2 := SeqAt.depth_of_shaped hs
  cases e <;> cases h
  · exact ⟨by simpa [PyData.canLay0] using h1, by simp only [PyData.depth] at h2; omega⟩
  · exact ⟨by simpa [PyData.canLay0] using h1, by simp only [PyData.depth] at h2; omega⟩
theorem in_run (neg : Bool) (c : GC X XP k) : OpG X XP (compareOp (if neg then .NotIn else .In)) (inW neg) := og_of fun pins s σ H ρ G x y v u a b Q σ' I sr r1 r2 ra rb o => by
  have hu := c.room.room.units
  unfold inW at o
  split at o
  · rename_i d e hd he
    split at o
    · rename_i xs hx
      split at o
      · rename_i hs
        simp only [Bool.and_eq_true] at hs
        obtain ⟨as, a1, _, _⟩ := dat_reads c.sys I sr 60 x v a d r1 ra hd
        obtain ⟨bs, b1, _, _⟩ := dat_reads c.sys I sr 60 y u b e r2 rb he
        obtain ⟨h1, h2⟩ := shapedAll hx hs.2
        have h3 := SeqAt.canLay_of_shaped hs.1
        have fin : EP X pins σ Q (.bool (if neg then !xs.any fun z => PyData.eqv z d else xs.any fun z => PyData.eqv z d)) s := ⟨.bl _, H, I, rfl, o.ok sr (.bl _)⟩
        have hr : X.A.units + 1 + min (PyData.depthAll xs) d.depth < cLine := by have := Nat.min_le_left (PyData.depthAll xs) d.depth; omega
        cases e <;> cases hx
        · cases neg
          · exact SeqAt.in_list_reads b1 a1 h1 h3 hr fin
          · exact SeqAt.notIn_list_reads b1 a1 h1 h3 hr fin
        · cases neg
          · exact SeqAt.in_tuple_reads b1 a1 h1 h3 hr fin
          · exact SeqAt.notIn_tuple_reads b1 a1 h1 h3 hr fin
      · exact o.elim
    · exact o.elim
  · exact o.elim
theorem og_in (c : GC X XP k) : OpG X XP (compareOp .In) (inW false) := in_run false c
theorem og_notin (c : GC X XP k) : OpG X XP (compareOp .NotIn) (inW true) := in_run true c

/-! ### len, isinstance, int, str, tuple, list -/
def lenW : GCall := fun G ws => match ws with
  | [.str x] => if x.length ≤ sizeLine then .ok (.int x.length) G else .no
  | [.tup xs] => .ok (.int xs.length) G
  | [.ref n] => (match G[n]? with
    | some (.lst xs) => .ok (.int xs.length) G
    | some (.rol xs) => .ok (.int xs.length) G
    | some (.dct kvs) => .ok (.int kvs.length) G
    | none => .no)
  | _ => .no
theorem CallR.or {f : Value} {r r' : List V → Hp → VK → Prop} (h : CallR X f r) (h' : CallR X f r') : CallR X f (fun xs H Q => r xs H Q ∨ r' xs H Q) := fun pins s σ H xs us Q I rv q =>
  q.elim (h pins s σ H xs us Q I rv) (h' pins s σ H xs us Q I rv)
theorem cg_len : CaG X XP (.builtin "len") lenW := by
  refine ⟨_, CallR.or call_len call_lenD, fun ρ G σ H ws vs Q s r o => ?_⟩
  unfold lenW at o
  split at o
  · cases r with
    | cons r rr =>
      cases rr; cases r
      split at o
      · rename_i hl; exact .inl ⟨_, _, rfl, ⟨hl, rfl⟩, o.ok s (.int _)⟩
      · exact o.elim
  · cases r with
    | cons r rr =>
      cases rr
      cases r with
      | tup h1 h2 => exact .inl ⟨_, _, rfl, .inr ⟨_, h1, h2.length⟩, o.ok s (.int _)⟩
  · cases r with
    | cons r rr =>
      cases rr
      cases r with
      | ref hn =>
        split at o
        · rename_i xs hc
          obtain ⟨vs, h1, h2⟩ := rdL_ok s hn (show rdL G _ = some xs by unfold rdL; rw [hc])
          exact .inl ⟨_, _, rfl, .inl ⟨_, h1, h2.length⟩, o.ok s (.int _)⟩
        · rename_i xs hc
          obtain ⟨vs, h1, h2⟩ := rdL_ok s hn (show rdL G _ = some xs by unfold rdL; rw [hc])
          exact .inl ⟨_, _, rfl, .inl ⟨_, h1, h2.length⟩, o.ok s (.int _)⟩
        · rename_i kvs hc
          obtain ⟨q, h1, h2⟩ := cell_dct s hn hc
          exact .inr ⟨_, _, rfl, h1, by rw [← h2.length]; exact o.ok s (.int _)⟩
        · exact o.elim
  · exact o.elim
def tyN (G : Cells) : W → Option String
  | .non => some "NoneType"
  | .bl _ => some "bool"
  | .int _ => some "int"
  | .str _ => some "str"
  | .tup _ => some "tuple"
  | .ref n => (match G[n]? with
    | some (.lst _) => some "list"
    | some (.rol _) => some "list"
    | some (.dct _) => some "dict"
    | none => none)
  | .ty _ => none
theorem tyN_ok {K : Fg} {ρ : List Addr} {G : Cells} {H : Hp} {w : W} {v : V} {t : String} (s : SR K ρ G H) (r : VR K ρ H w v) (h : tyN G w = some t) : TyX K H v (.type t) := by
  cases r with
  | non => cases h; exact .base .non
  | bl b => cases h; exact .base (.bl b)
  | int i => cases h; exact .base (.int i)
  | str x => cases h; exact .base (.str x)
  | ty _ => cases h
  | tup h1 h2 =>
    cases h
    rcases h1 with (h1 | ⟨o, h1⟩) | ⟨o, its, n, h1, h2, _⟩
    · exact .base (.tup h1)
    · exact .fTuple h1
    · exact .kTuple h1 h2
  | @ref n a hn =>
    obtain ⟨c, hc⟩ := s.at hn
    simp only [tyN, hc] at h
    have k := s.cell n c a hc hn
    cases c with
    | lst ws => cases h; obtain ⟨vs, q1, _⟩ := k; exact .base (.lst q1)
    | rol ws =>
      cases h
      obtain ⟨vs, q1, _⟩ := k
      rcases q1 with ⟨o, q1⟩ | ⟨o, its, n, q1, q2, _⟩
      · exact .base (.frz q1)
      · exact .kList q1 q2
    | dct kvs => cases h; obtain ⟨vs, q1, _⟩ := k; exact .base (.dK q1)
def isiB (t T : String) : Bool := t == T || (t == "bool" && T == "int")
def knownTy (T : String) : Bool := T == "int" || T == "bool" || T == "str" || T == "tuple" || T == "list" || T == "dict"
theorem isiB_kit {G : Cells} {w : W} {t T : String} (h : tyN G w = some t) (hT : knownTy T = true) : kitB t T = some (isiB t T) := by
  have ht : t = "NoneType" ∨ t = "bool" ∨ t = "int" ∨ t = "str" ∨ t = "tuple" ∨ t = "list" ∨ t = "dict" := by
    cases w with
    | ref n =>
      simp only [tyN] at h
      split at h <;> first | (cases h; simp; done) | cases h
    | ty _ => cases h
    | _ => (cases h; simp)
  simp only [knownTy, Bool.or_eq_true, beq_iff_eq] at hT
  rcases ht with rfl | rfl | rfl | rfl | rfl | rfl | rfl <;> rcases hT with ((((rfl | rfl) | rfl) | rfl) | rfl) | rfl <;> decide +kernel
def isiW : GCall := fun G ws => match ws with
  | [w, .ty T] => (match tyN G w with | some t => if knownTy T = true then .ok (.bl (isiB t T)) G else .no | none => .no)
  | _ => .no
theorem cg_isi : CaG X XP (.builtin "isinstance") isiW := by
  refine ⟨_, call_isi, fun ρ G σ H ws vs Q s r o => ?_⟩
  unfold isiW at o
  split at o
  · cases r with
    | cons r rr =>
      cases rr with
      | cons r' rr =>
        cases rr; cases r'
        split at o
        · rename_i t ht
          split at o
          · rename_i hT
            exact ⟨_, _, _, _, _, rfl, .ty _, tyN_ok s r ht, kit_ty (isiB_kit ht hT), o.ok s (.bl _)⟩
          · exact o.elim
        · exact o.elim
  · exact o.elim
def intW : GCall := fun G ws => match ws with
  | [.int i] => .ok (.int i) G
  | [.bl b] => .ok (.int (if b then 1 else 0)) G
  | _ => .no
theorem cg_int : CaG X XP (.type "int") intW := by
  refine ⟨_, call_int1, fun ρ G σ H ws vs Q s r o => ?_⟩
  unfold intW at o
  split at o
  · cases r with
    | cons r rr => cases rr; cases r; exact .inl ⟨_, rfl, o.ok s (.int _)⟩
  · cases r with
    | cons r rr => cases rr; cases r; exact .inr ⟨_, rfl, o.ok s (.int _)⟩
  · exact o.elim
def strW : GCall := fun G ws => match ws with
  | [.int i] => if i.natAbs.log2 < 1920 then .ok (.str (toString i)) G else .no
  | [.str x] => .ok (.str x) G
  | _ => .no
theorem cg_str : CaG X XP (.type "str") strW := by
  refine ⟨_, CallR.or call_str_int SkE.call_str_str, fun ρ G σ H ws vs Q s r o => ?_⟩
  unfold strW at o
  split at o
  · cases r with
    | cons r rr =>
      cases rr; cases r
      split at o
      · rename_i hl; exact .inl ⟨_, rfl, hl, o.ok s (.str _)⟩
      · exact o.elim
  · cases r with
    | cons r rr => cases rr; cases r; exact .inr ⟨_, rfl, o.ok s (.str _)⟩
  · exact o.elim
def tupleW : GCall := fun G ws => match ws with
  | [.tup xs] => .ok (.tup xs) G
  | [.ref n] => (match rdL G n with | some xs => .ok (.tup xs) G | none => .no)
  | _ => .no
theorem cg_tuple : CaG X XP (.type "tuple") tupleW := by
  refine ⟨_, call_tuple_of, fun ρ G σ H ws vs Q s r o => ?_⟩
  unfold tupleW at o
  split at o
  · cases r with
    | cons r rr =>
      cases rr
      cases r with
      | tup h1 h2 => exact ⟨_, _, rfl, .inr ⟨h1, o.ok s (.tup h1 h2)⟩⟩
  · cases r with
    | cons r rr =>
      cases rr
      cases r with
      | ref hn =>
        split at o
        · rename_i xs hx
          obtain ⟨vs, h1, h2⟩ := rdL_ok s hn hx
          exact ⟨_, vs, rfl, .inl ⟨h1, fun l hl => out_tup o s h2 hl⟩⟩
        · exact o.elim
  · exact o.elim
def listW : GCall := fun G ws => match ws with
  | [w] => (match rdS G w with | some xs => .ok (.ref G.length) (G ++ [.lst xs]) | none => .no)
  | _ => .no
theorem cg_list : CaG X XP (.type "list") listW := by
  refine ⟨_, call_list_of, fun ρ G σ H ws vs Q s r o => ?_⟩
  unfold listW at o
  split at o
  · cases r with
    | cons r rr =>
      cases rr
      split at o
      · rename_i xs hx
        obtain ⟨a, vs, rfl, h1, h2⟩ := rdS_ok s r hx
        exact ⟨_, vs, rfl, h1, fun l hl => out_lst o s h2 hl⟩
      · exact o.elim
  · exact o.elim
end
end PL
/- part PLm -/
set_option maxHeartbeats 4000000
namespace PL
open PySem PySem.Spec PyProof.Rows L2
/-! ### the law's end -/
theorem scr_vrs {K : Fg} {ρ : List Addr} {H : Hp} : ∀ ns : List Int, VRs K ρ H (ns.map W.int) (ns.map V.int)
  | [] => .nil
  | n :: ns => .cons (.int n) (scr_vrs ns)
theorem law_run {P : Program} {w : World} {K : Fg} {mg mb : Str → Option Value} {k : Nat} {fa a : Addr} {fd : FuncData} {x : Str} {F : PF} {s₁ : Shared} {vs : List Value} {ns : List Int}
    (KX : K.In s₁.heap) (hns : s₁.heap.Ns mainGlobals mg) (hb : s₁.heap.Ns builtinsNs mb) (hbb : ∀ x : Str, x ≠ "__name__" → mb x = bootBuiltins x) (hlim : s₁.heap.NoLimit) (hg : s₁.gens = #[])
    (ha : s₁.heap.get? a = some { cls := .type "list", data := .seq vs.toArray }) (hi : IntsAre vs ns) (hl : ns.length ≤ sizeLine) (hr : Room k callerA)
    (hsd : SysD s₁.heap) (hF : ∀ base : Heap, K.In base → base.Ns mainGlobals mg → SysD base → FnG P w K mg base k fa fd [x] F) (hbind : ∀ (s : Shared) (u : Value), BindsTo s fd ⟨[u], []⟩ [(x, u)])
    (hlaw : ∃ G, F [.ref 0] [.rol (ns.map W.int)] = .ok (.bl true) G) :
    codeAny (model P w) callerA (.call (.ref fa) ⟨[.ref a], []⟩) (fun r s' => r = .ok (.ret (.bool true)) ∧ OldK s₁.heap s'.heap ∧ s'.os = s₁.os ∧ AllBare s'.gens) s₁ := by
  have rv := vals_ints hi
  have lenV := hi.length
  obtain ⟨Gl, hlaw⟩ := hlaw
  have core : ∀ H : Hp, Only H → ((∃ o, H a = some (.frz o (.lst (ns.map V.int)))) ∨ KList K a (ns.map V.int)) → HOk P w H s₁.heap → (∀ b, H b ≠ none → b = a) → (H a ≠ none → K.lookup a = none) →
      codeAny (model P w) callerA (.call (.ref fa) ⟨[.ref a], []⟩) (fun r s' => r = .ok (.ret (.bool true)) ∧ OldK s₁.heap s'.heap ∧ s'.os = s₁.os ∧ AllBare s'.gens) s₁ := by
    intro H hO hS hok hA hK
    have atA : ∀ {b : Addr} {u : HO}, H b = some u → b = a := fun q => hA _ (by rw [q]; simp)
    have dictFree : ∀ {b : Addr} {o : Obj} {es : Array DictEntry} {ep : Nat}, s₁.heap.get? b = some o → o.data = .dict es ep → H b = none := fun {b o es ep} e d => by
      cases q : H b with
      | none => rfl
      | some u =>
        cases atA q
        rw [ha] at e
        cases e
        exact absurd (show Data.seq vs.toArray _ = Data.dict es ep from d) (fun z => nomatch z)
    have nsIn : ∀ {b : Addr} {m : Str → Option Value}, s₁.heap.Ns b m → (hidT s₁.heap H).Ns b m := fun {b m} ⟨o, es, ep, e, d, r⟩ => ⟨o, es, ep, hidT_get e (dictFree e d), d, r⟩
    have kIn : K.In (hidT s₁.heap H) := fun b o e => hidT_get (KX b o e) (by
      cases q : H b with
      | none => rfl
      | some u =>
        cases atA q
        rw [hK (by rw [q]; simp)] at e
        cases e)
    have md : Mod K mg (hidT s₁.heap H) := ⟨kIn, nsIn hns, ⟨mb, nsIn hb, hbb⟩, let ⟨mc, h1, h2⟩ := hlim; ⟨mc, nsIn h1, h2⟩⟩
    have e0 : Env0 P w K mg (hidT s₁.heap H) callerA [] s₁ H := ⟨rfl, md, fun b o e => of_hidT e, Nat.le_of_eq (hidT_size _ _), trivial, fun b z => absurd (show b ∈ ([] : List Addr) from z) (by simp), hok, .of_eq hg⟩
    have sr : SR K [a] [.rol (ns.map W.int)] H := by
      refine ⟨rfl, fun n c b h1 h2 => ?_, fun n m b c d h1 h2 h3 h4 h5 h6 => ?_⟩
      · cases n with
        | zero => cases h1; cases h2; exact ⟨ns.map V.int, hS, scr_vrs ns⟩
        | succ n => simp at h1
      · cases n with
        | zero => cases h3; cases h4
        | succ n => simp at h3
    have sp : spP K mg F [.ref a] H (fun v _ => v = .bl true) (fun _ _ _ => False) := by
      refine ⟨[a], [.rol (ns.map W.int)], [.ref 0], .cons (.ref rfl) .nil, sr, ?_⟩
      rw [hlaw]
      intro ρ' H' v _ _ r
      cases r
      rfl
    refine codeAny_mono ((hF _ kIn (nsIn hns) (let ⟨o, es, n, g1, g2⟩ := hsd; ⟨o, es, n, hidT_get g1 (dictFree g1 g2), g2⟩)).run callerA [] s₁ H ⟨[.ref a], []⟩ [.ref a] [.ref a] _ _ ⟨hr, rfl⟩ e0 (hbind s₁ (.ref a)) (.cons rfl .nil) sp) fun r s' h => ?_
    cases r with
    | error e =>
      obtain ⟨_, _, _, _, _, _, _, _, _, _, _, _, z⟩ := h
      exact (show False from z).elim
    | ok fl =>
      cases fl with
      | ret u =>
        obtain ⟨v, H', os, bare, un, hok', r', q⟩ := h
        cases (show v = .bl true from q)
        cases (show u = Value.bool true from r')
        refine ⟨rfl, OldK.of_keep fun b o e => ?_, os, bare⟩
        cases q : H b with
        | none => exact un.keep b o e q (by intro z; exact absurd (show b ∈ ([] : List Addr) from z) (by simp)) (by simp)
        | some u =>
          rcases hO b with z | ⟨ob, xs, z⟩
          · rw [q] at z; cases z
          · obtain ⟨e1, _⟩ := hok b _ z
            obtain ⟨e2, _⟩ := hok' b _ (un.frzs b ob _ z)
            rw [e] at e1
            cases e1
            exact e2
      | next => exact h.elim
      | brk => exact h.elim
      | cont => exact h.elim
  cases hk : K.lookup a with
  | some o =>
    have e := KX a o hk
    rw [ha] at e
    cases e
    exact core (fun _ => none) (fun _ => .inl rfl) (.inr ⟨_, vs.toArray, _, hk, rfl, rfl, rfl, by rw [List.size_toArray, lenV]; exact hl, by simpa using rv⟩) (fun b u z => nomatch (show (none : Option HO) = some u from z)) (fun b z => absurd rfl z) fun z => absurd rfl z
  | none =>
    have here : ∀ b, (fun b => if b = a then some (HO.frz { cls := .type "list", data := .seq vs.toArray } (.lst (ns.map V.int))) else none : Hp) b ≠ none → b = a := fun b z => by
      by_cases hb : b = a
      · exact hb
      · exact absurd (if_neg hb) z
    refine core (fun b => if b = a then some (.frz { cls := .type "list", data := .seq vs.toArray } (.lst (ns.map V.int))) else none) (fun b => ?_) (.inl ⟨_, if_pos rfl⟩) (fun b u z => ?_) here fun _ => hk
    · by_cases hb : b = a
      · exact .inr ⟨_, _, if_pos hb⟩
      · exact .inl (if_neg hb)
    · have hb : b = a := here b (by rw [z]; simp)
      subst hb
      cases (if_pos rfl).symm.trans z
      exact ⟨ha, by rw [List.length_map]; exact hl, vs, _, rv, ha⟩
theorem sys_of {h : Heap} (x : h.NoSeer) : SysD h := by
  obtain ⟨mm, ⟨o, es, ep, h1, h2, _⟩, _⟩ := x.mods
  exact ⟨o, es, ep, h1, h2⟩
theorem law_walk {l : PySem.W.OpenLaw} {n k : Nat} {q : Program} {loose : List Str} {XP : (Str → Option Value) → Heap → Prop} {YP : World → Heap → Prop} {d : DefRec} {K : Params → Fg} {x : Str} {F : PF}
    (hn : l.most = some n) (hn2 : n ≤ sizeLine) (hdf : d.params.defaults = []) (himp : importsNone q = true) (hr : Room k callerA) (hY : ∀ (w : World) (h : Heap), YP w h → (K w.params).In h)
    (hF : ∀ (w : World) (mg : Str → Option Value) (fa : Addr) (h : Heap), (K w.params).In h → h.Ns mainGlobals mg → mg d.name = some (.ref fa) →
      ∃ fd : FuncData, (∀ (s : Shared) (u : Value), BindsTo s fd ⟨[u], []⟩ [(x, u)]) ∧ ∀ base : Heap, (K w.params).In base → base.Ns mainGlobals mg → SysD base → FnG l.prog w (K w.params) mg base k fa fd [x] F)
    (hlaw : ∀ ns : List Int, ns.length ≤ n → ∃ G, F [.ref 0] [.rol (ns.map W.int)] = .ok (.bl true) G) :
    PySem.W.WalkO q loose XP YP l.row.toRowW d [] (fun f vs => PySem.call f vs) := by
  refine Att.attach_call hn hdf fun w s₀ s₁ mg mb fa o pm cd doc a vs ns G Y ho hd hcd hmg hobj hints hlen hg => ?_
  obtain ⟨fd, hb, hf⟩ := hF w mg fa _ (hY w _ Y) G.T.g hmg
  exact law_run (hY w _ Y) G.T.g G.T.b G.T.builtins G.T.nolimit hg hobj hints (Nat.le_trans hlen hn2) hr (sys_of (G.T.seer himp)) hf hb (hlaw ns hlen)
end PL
/- part PLn -/
set_option maxHeartbeats 4000000
namespace PL
open PySem PySem.Spec PyProof.Rows L2
section
variable {X : Cx} {XP : Wish} {pos : Pos}
/-- a, b = e, f (two local names) -/
def sPar (i j : Nat) (m : MA) : MS := fun E G => liftS (m E G) E fun ws G1 => match ws with
  | [x, y] => .nx ((E.set i (some x)).set j (some y)) G1
  | _ => .no
theorem hs_par {i j : Nat} {x y : Str} {a b : Expr} {m : MA} {px py pt : Pos} {kt k2 pt2} {k : Nat} (c : GC X XP k) (hi : X.N[i]? = some x) (hj : X.N[j]? = some y) (hij : i ≠ j)
    (hx : X.env.scope.names.lookup x = some .local) (hy : X.env.scope.names.lookup y = some .local) (ha : HA X XP [a, b] m)
    (hw : swappedStores [.Tuple [.Name x px, .Name y py] kt pt] (.Tuple [a, b] k2 pt2) X.env = pure (some [x, y]))
    (hs : swapsWithSole [.Tuple [.Name x px, .Name y py] kt pt] (.Tuple [a, b] k2 pt2) pos.line X.env = pure false := by rfl) :
    HS X XP (.Assign [.Tuple [.Name x px, .Name y py] kt pt] (.Tuple [a, b] k2 pt2) pos) (sPar i j m) := by
  obtain ⟨t, a1, a2⟩ := ha.ex
  refine ⟨_, ps_par c.calm c.nd hi hj hij hx hy a1 hw hs, fun ρ E G σ H D er sr q => a2 ρ E G σ H _ er sr (OutS.lift er q fun ws G1 ρ1 H1 vs e1 s1 r1 k1 => ?_)⟩
  split at k1
  · cases r1 with
    | cons r1 rr =>
      cases rr with
      | cons r2 rr =>
        cases rr
        exact ⟨_, _, rfl, k1 ρ1 H1 _ .refl s1 (((er.mono e1).set r1 i).set r2 j)⟩
  · exact k1.elim
/-- a op b op' c op'' d -/
def mChain3 (g g' g'' : GOp) (ma mb mc md : ME) : ME := fun E G => (ma E G).bind fun x G1 => (mb E G1).bind fun y G2 => (g G2 x y).bind fun z G3 =>
  match z with
  | .bl true => (mc E G3).bind fun w G4 => (g' G4 y w).bind fun z2 G5 => (match z2 with
    | .bl true => (md E G5).bind fun u G6 => g'' G6 w u
    | .bl false => .ok (.bl false) G5
    | _ => .no)
  | .bl false => .ok (.bl false) G3
  | _ => .no
def tChain3 (r r' r'' : R2) (ta tb tc td : TE) : TE := fun σ H Q => ta σ H fun x H1 => tb σ H1 fun y H2 => r x y H2 fun z H3 => ∃ k, z = .bl k ∧
  (if k = true then tc σ H3 fun w H4 => r' y w H4 fun z2 H5 => ∃ k2, z2 = .bl k2 ∧ (if k2 = true then td σ H5 fun u H6 => r'' w u H6 Q else Q (.bl false) H5) else Q (.bl false) H3)
theorem pe_chain3 {o1 o2 o3 : CmpOp} {a b c d : Expr} {r r' r'' : R2} {ta tb tc td : TE} (ho : OpR X (compareOp o1) r) (ho' : OpR X (compareOp o2) r') (ho'' : OpR X (compareOp o3) r'') (ha : PE X a ta) (hb : PE X b tb) (hc : PE X c tc) (hd : PE X d td)
    (hm : lastMarks [o1, o2, o3] [b, c, d] = false) : PE X (.Compare a [o1, o2, o3] [b, c, d] pos) (tChain3 r r' r'' ta tb tc td) := by
  refine ⟨fun pins s σ H Q I h => ?_⟩
  refine Compare_chain (thn (ha.run pins s σ H _ I h) fun v s1 ⟨x, H1, I1, r1, q1⟩ => chain_link (thn (hb.run pins s1 σ H1 _ I1 q1) fun u s2 ⟨y, H2, I2, r2, q2⟩ => thn (ho pins s2 σ H2 x y v u _ I2 r1 r2 q2) fun b3 s3 ⟨z, H3, I3, r3, k, e, q3⟩ => ?_)) hm
  subst e
  cases r3
  refine wpAny_truthy_bool ?_
  cases k with
  | false => exact ite_ff ⟨.bl false, H3, I3, rfl, q3⟩
  | true =>
    refine ite_tt (chain_link (thn (hc.run pins s3 σ H3 _ I3 q3) fun w' s4 ⟨z', H4, I4, r4, q4⟩ => thn (ho' pins s4 σ H4 y z' u w' _ I4 r2 r4 q4) fun b5 s5 ⟨z5, H5, I5, r5, k2, e2, q5⟩ => ?_))
    subst e2
    cases r5
    refine wpAny_truthy_bool ?_
    cases k2 with
    | false => exact ite_ff ⟨.bl false, H5, I5, rfl, q5⟩
    | true => exact ite_tt (chain_last (thn (hd.run pins s5 σ H5 _ I5 q5) fun u6 s6 ⟨z6, H6, I6, r6, q6⟩ => ho'' pins s6 σ H6 z' z6 w' u6 Q I6 r4 r6 q6))
theorem he_chain3 {o1 o2 o3 : CmpOp} {a b c d : Expr} {ma mb mc md : ME} {g g' g'' : GOp} (ho : OpG X XP (compareOp o1) g) (ho' : OpG X XP (compareOp o2) g') (ho'' : OpG X XP (compareOp o3) g'') (ha : HE X XP a ma) (hb : HE X XP b mb) (hc : HE X XP c mc) (hd : HE X XP d md)
    (hm : lastMarks [o1, o2, o3] [b, c, d] = false := by with_unfolding_all rfl) : HE X XP (.Compare a [o1, o2, o3] [b, c, d] pos) (mChain3 g g' g'' ma mb mc md) := by
  obtain ⟨r, h1, h2_⟩ := ho.ex
  obtain ⟨r', h1', h2'⟩ := ho'.ex
  obtain ⟨r'', h1'', h2''⟩ := ho''.ex
  obtain ⟨ta, a1, a2⟩ := ha.ex
  obtain ⟨tb, b1, b2⟩ := hb.ex
  obtain ⟨tc, c1, c2⟩ := hc.ex
  obtain ⟨td, d1, d2⟩ := hd.ex
  refine ⟨_, pe_chain3 h1 h1' h1'' a1 b1 c1 d1 hm, fun ρ E G σ H Q er sr h => ?_⟩
  refine a2 ρ E G σ H _ er sr (h.bind fun x G1 ρ1 H1 v e1 s1 r1 h1 => ?_)
  refine b2 ρ1 E G1 σ H1 _ (er.mono e1) s1 (h1.bind fun y G2 ρ2 H2 u e2 s2 r2 h2 => ?_)
  refine h2_ ρ2 G2 σ H2 x y v u _ s2 (r1.mono e2) r2 (h2.bind fun z G3 ρ3 H3 zv e3 s3 r3 h3 => ?_)
  cases r3 with
  | bl b =>
    cases b with
    | false => exact ⟨false, rfl, by rw [if_neg Bool.false_ne_true]; exact h3.ok s3 (.bl false)⟩
    | true =>
      refine ⟨true, rfl, ?_⟩
      rw [if_pos rfl]
      refine c2 ρ3 E G3 σ H3 _ (er.mono (e1.trans (e2.trans e3))) s3 (h3.bind fun w' G4 ρ4 H4 wv e4 s4 r4 h4 => ?_)
      refine h2' ρ4 G4 σ H4 y w' u wv _ s4 (r2.mono (e3.trans e4)) r4 (h4.bind fun z2 G5 ρ5 H5 z2v e5 s5 r5 h5 => ?_)
      cases r5 with
      | bl b2 =>
        cases b2 with
        | false => exact ⟨false, rfl, by rw [if_neg Bool.false_ne_true]; exact h5.ok s5 (.bl false)⟩
        | true =>
          refine ⟨true, rfl, ?_⟩
          rw [if_pos rfl]
          refine d2 ρ5 E G5 σ H5 _ (er.mono (e1.trans (e2.trans (e3.trans (e4.trans e5))))) s5 (h5.bind fun u' G6 ρ6 H6 uv e6 s6 r6 h6 => ?_)
          exact h2'' ρ6 G6 σ H6 w' u' wv uv Q s6 (r4.mono (e5.trans e6)) r6 h6
      | _ => exact h5.elim
  | _ => exact h3.elim
end

/-! ### defs of the text -/
def OkF (P : Program) (w : World) (K : Fg) (mg : Str → Option Value) (base : Heap) (x : Str) (st : Stmt) (ps : List Str) (k : Nat) (F : PF) : Prop :=
  ∃ (a : Addr) (fd : FuncData), Fun K x x st a fd ∧ mg x = some (.ref a) ∧ PySem.W.keepIn K (.ref a) = true ∧ Binds K fd ps [] ∧ FnG P w K mg base k a fd ps F
theorem fnG_fun {P : Program} {w : World} {K : Fg} {mg : Str → Option Value} {base : Heap} {k : Nat} {f : Addr} {fd : FuncData} {x qual : Str} {st : Stmt} {N ps : List Str} {b : MS} (F : Fun K x qual st f fd) (S : FnScope N ps (defScope st)) (hsys : SysD base)
    (hbody : ∀ (cdv : Value) (A : Around) (outer : List Env) (s : Shared) (H : Hp) (E : XK), GC (cxOf (L2.CX P w) P w K mg base N qual (defScope st) f cdv A outer s H E) (wishOf mg K E) k →
      HB (cxOf (L2.CX P w) P w K mg base N qual (defScope st) f cdv A outer s H E) (wishOf mg K E) (defBody st) b) : FnG P w K mg base (k + 1) f fd ps (mFun ps.length N.length b) := by
  obtain ⟨oc, od, kV, doc, pm, an, cdv, ct, osl, rfl, lk, hcd⟩ := F.ex
  exact fnG_of lk hcd S hsys fun A outer s H E c => hbody cdv A outer s H E c
theorem kwB_of {K : Fg} {x qual : Str} {st : Stmt} {f : Addr} {fd : FuncData} {ps ks : List Str} {np : Nat} {perm : List Nat} (F : Fun K x qual st f fd)
    (h : ∀ (kV doc pm : Value) (an : Option Addr) (cdv ct : Value) (us zs : List Value), us.length = np → zs.length = ks.length → bindArgs (PySem.W.fnOf x qual (defArgs st) (defBody st) (defScope st) .none kV doc pm an cdv ct) ⟨us, ks.zip zs⟩ = pure (ps.zip (pick perm (us ++ zs)))) : KwB K fd ps ks np perm := by
  obtain ⟨oc, od, kV, doc, pm, an, cdv, ct, osl, rfl, lk, hcd⟩ := F.ex
  exact fun s us zs _ h1 h2 => .of_eq (h kV doc pm an cdv ct us zs h1 h2)
theorem fun_same {K : Fg} {x qual : Str} {st : Stmt} {f : Addr} {fd fd' : FuncData} (F : Fun K x qual st f fd) (F' : Fun K x qual st f fd') : fd = fd' := by
  obtain ⟨oc, od, kV, doc, pm, an, cdv, ct, osl, e1, lk, _⟩ := F.ex
  obtain ⟨oc', od', kV', doc', pm', an', cdv', ct', osl', e2, lk', _⟩ := F'.ex
  rw [lk] at lk'
  cases lk'
  rfl
end PL
/- part PLo -/
set_option maxHeartbeats 1000000
namespace PL
open PySem PySem.Spec PyProof.Rows L2
/-! ### what a pure run ends with -/
def Rs.sat {α : Type} (r : Rs α) (Q : α → Cells → Prop) : Prop := match r with | .ok a G => Q a G | _ => False
def So.sat (r : So) (N : PEnv → Cells → Prop) (R : W → Cells → Prop) : Prop := match r with | .nx E G => N E G | .rt w G => R w G | _ => False
section
variable {α β : Type}
@[simp] theorem sat_ok (a : α) (G : Cells) (Q : α → Cells → Prop) : (Rs.ok a G).sat Q = Q a G := rfl
@[simp] theorem sat_no (Q : α → Cells → Prop) : (Rs.no : Rs α).sat Q = False := rfl
theorem sat_bind (r : Rs α) (k : α → Cells → Rs β) (Q : β → Cells → Prop) : (r.bind k).sat Q = r.sat fun a G => (k a G).sat Q := by cases r <;> rfl
theorem Rs.sat.mono {r : Rs α} {P Q : α → Cells → Prop} (h : r.sat P) (k : ∀ a G, P a G → Q a G) : r.sat Q := by
  cases r with
  | ok a G => exact k a G h
  | _ => exact h.elim
theorem Rs.sat.bind {r : Rs α} {f : α → Cells → Rs β} {P : α → Cells → Prop} {Q : β → Cells → Prop} (h : r.sat P) (k : ∀ a G, P a G → (f a G).sat Q) : (r.bind f).sat Q := by
  rw [sat_bind]; exact h.mono k
theorem Rs.sat.get {r : Rs α} {Q : α → Cells → Prop} (h : r.sat Q) : ∃ a G, r = .ok a G ∧ Q a G := by
  cases r with
  | ok a G => exact ⟨a, G, rfl, h⟩
  | _ => exact h.elim
theorem so_lift {r : Rs α} {E : PEnv} {k : α → Cells → So} {N : PEnv → Cells → Prop} {R : W → Cells → Prop} : (liftS r E k).sat N R = r.sat fun a G => (k a G).sat N R := by cases r <;> rfl
theorem So.sat.mono {r : So} {N N' : PEnv → Cells → Prop} {R R' : W → Cells → Prop} (h : r.sat N R) (k : ∀ E G, N E G → N' E G) (k' : ∀ w G, R w G → R' w G) : r.sat N' R' := by
  cases r with
  | nx E G => exact k E G h
  | rt w G => exact k' w G h
  | _ => exact h.elim
theorem so_seq {a b : MS} {E : PEnv} {G : Cells} {N : PEnv → Cells → Prop} {R : W → Cells → Prop} (h : (a E G).sat (fun E1 G1 => (b E1 G1).sat N R) R) : (sSeq a b E G).sat N R := by
  unfold sSeq seqS
  cases hm : a E G <;> rw [hm] at h <;> exact h
theorem so_asg {m : ME} {g : MG} {E : PEnv} {G : Cells} {N : PEnv → Cells → Prop} {R : W → Cells → Prop} (h : (m E G).sat fun w G1 => (g w E G1).sat N) : (sAsg m g E G).sat N R := by
  unfold sAsg; rw [so_lift]; refine h.mono fun a G1 q => ?_; rw [so_lift]; exact q
theorem so_set {m : ME} {i : Nat} {E : PEnv} {G : Cells} {N : PEnv → Cells → Prop} {R : W → Cells → Prop} (h : (m E G).sat fun w G1 => N (E.set i (some w)) G1) : (sAsg m (gSet i) E G).sat N R := so_asg h
theorem so_expr {m : ME} {E : PEnv} {G : Cells} {N : PEnv → Cells → Prop} {R : W → Cells → Prop} (h : (m E G).sat fun _ G1 => N E G1) : (sExpr m E G).sat N R := by
  unfold sExpr; rw [so_lift]; exact h
theorem so_ret {m : ME} {E : PEnv} {G : Cells} {N : PEnv → Cells → Prop} {R : W → Cells → Prop} (h : (m E G).sat R) : (sRet m E G).sat N R := by
  unfold sRet; rw [so_lift]; exact h
theorem so_if {c : MT} {a b : MS} {E : PEnv} {G : Cells} {N : PEnv → Cells → Prop} {R : W → Cells → Prop} (h : (c E G).sat fun k G1 => if k = true then (a E G1).sat N R else (b E G1).sat N R) : (sIf c a b E G).sat N R := by
  unfold sIf; rw [so_lift]; refine h.mono fun k G1 q => ?_
  cases k <;> exact q
theorem so_nx {E : PEnv} {G : Cells} {N : PEnv → Cells → Prop} {R : W → Cells → Prop} (h : N E G) : (sNext E G).sat N R := h
theorem so_par {i j : Nat} {m : MA} {E : PEnv} {G : Cells} {N : PEnv → Cells → Prop} {R : W → Cells → Prop} (h : (m E G).sat fun ws G1 => ∃ x y, ws = [x, y] ∧ N ((E.set i (some x)).set j (some y)) G1) : (sPar i j m E G).sat N R := by
  unfold sPar; rw [so_lift]; refine h.mono fun k G1 q => ?_
  obtain ⟨x, y, rfl, q⟩ := q
  exact q
theorem fun_sat {np nn : Nat} {b : MS} {ws : List W} {G : Cells} {Q : W → Cells → Prop} (hl : ws.length = np) (h : (b (ws.map some ++ List.replicate (nn - np) none) G).sat (fun _ G' => Q .non G') Q) : (mFun np nn b ws G).sat Q := by
  unfold mFun
  rw [if_pos hl]
  cases hm : b (ws.map some ++ List.replicate (nn - np) none) G <;> rw [hm] at h <;> exact h
/-! ### loops -/
theorem forL_sat {pit : PIt} {g : MG} {b : MS} {xs : List W} {I : Nat → PEnv → Cells → Prop} {N : PEnv → Cells → Prop} {R : W → Cells → Prop}
    (hat : ∀ i E G, I i E G → pit.at G i = some xs[i]?)
    (hstep : ∀ i w E G, xs[i]? = some w → I i E G → (g w E G).sat fun E1 G1 => (b E1 G1).sat (I (i + 1)) R)
    (hend : ∀ E G, I xs.length E G → N E G) : ∀ n i E G, I i E G → i + n = xs.length → (forL pit g b n i E G).sat N R := by
  intro n
  induction n with
  | zero =>
    intro i E G h e
    have q := hat i E G h
    have hx : xs[i]? = none := List.getElem?_eq_none_iff.mpr (by omega)
    rw [hx] at q
    unfold forL
    rw [q]
    have : i = xs.length := by omega
    subst this
    exact hend E G h
  | succ n ih =>
    intro i E G h e
    have q := hat i E G h
    have hi : i < xs.length := by omega
    have hx : xs[i]? = some xs[i] := List.getElem?_eq_getElem hi
    rw [hx] at q
    unfold forL
    rw [q]
    simp only
    rw [so_lift]
    refine (hstep i _ E G hx h).mono fun E1 G1 h1 => ?_
    cases hb : b E1 G1 with
    | nx E2 G2 => rw [hb] at h1; exact ih (i + 1) E2 G2 h1 (by omega)
    | rt w G2 => rw [hb] at h1; exact h1
    | _ => rw [hb] at h1; exact h1.elim
theorem so_for {mi : MI} {g : MG} {b : MS} {E : PEnv} {G : Cells} {N : PEnv → Cells → Prop} {R : W → Cells → Prop} (xs : List W) (I : Nat → PEnv → Cells → Prop)
    (h : (mi E G).sat fun pit G1 => pit.len G1 = xs.length ∧ I 0 E G1 ∧ ∀ i E' G', I i E' G' → pit.at G' i = some xs[i]?)
    (hstep : ∀ i w E G, xs[i]? = some w → I i E G → (g w E G).sat fun E1 G1 => (b E1 G1).sat (I (i + 1)) R)
    (hend : ∀ E G, I xs.length E G → N E G) : (sFor mi g b E G).sat N R := by
  unfold sFor; rw [so_lift]
  refine h.mono fun pit G1 q => ?_
  obtain ⟨h1, h2, h3⟩ := q
  rw [h1]
  exact forL_sat h3 hstep hend _ 0 E G1 h2 (by omega)
theorem lcL_sat {pit : PIt} {g : MG} {t : MT} {m : ME} {n : Nat} {E : PEnv} {xs : List W} {J : Nat → List W → Cells → Prop}
    (hat : ∀ i acc G, J i acc G → G[n]? = some (.lst acc) → pit.at G i = some xs[i]?)
    (hstep : ∀ i w acc G, xs[i]? = some w → J i acc G → G[n]? = some (.lst acc) → (g w E G).sat fun E1 G1 => (t E1 G1).sat fun k G2 => if k = true then (m E1 G2).sat fun y G3 => G3[n]? = some (.lst acc) ∧ acc.length < sizeLine ∧ J (i + 1) (acc ++ [y]) (G3.set n (.lst (acc ++ [y]))) else G2[n]? = some (.lst acc) ∧ J (i + 1) acc G2) :
    ∀ k i acc G, J i acc G → G[n]? = some (.lst acc) → i + k = xs.length → ∃ G' acc', lcL pit g t m n E k i G = some G' ∧ G'[n]? = some (.lst acc') ∧ J xs.length acc' G' := by
  intro k
  induction k with
  | zero =>
    intro i acc G h hn e
    have q := hat i acc G h hn
    have hx : xs[i]? = none := List.getElem?_eq_none_iff.mpr (by omega)
    rw [hx] at q
    unfold lcL
    rw [q]
    have : i = xs.length := by omega
    subst this
    exact ⟨G, acc, rfl, hn, h⟩
  | succ k ih =>
    intro i acc G h hn e
    have q := hat i acc G h hn
    have hi : i < xs.length := by omega
    have hx : xs[i]? = some xs[i] := List.getElem?_eq_getElem hi
    rw [hx] at q
    unfold lcL
    rw [q]
    simp only
    obtain ⟨E1, G1, e1, h1⟩ := (hstep i _ acc G hx h hn).get
    rw [e1]
    obtain ⟨b, G2, e2, h2⟩ := h1.get
    simp only [e2]
    cases b with
    | true =>
      rw [if_pos rfl] at h2
      obtain ⟨y, G3, e3, h3, h4, h5⟩ := h2.get
      simp only [e3, h3, if_pos h4]
      exact ih (i + 1) _ _ h5 (by
        have hl : n < G3.length := by
          rcases Nat.lt_or_ge n G3.length with h | h
          · exact h
          · rw [List.getElem?_eq_none_iff.mpr h] at h3; cases h3
        rw [List.getElem?_set]; simp [hl]) (by omega)
    | false =>
      simp only [Bool.false_eq_true, if_false] at h2
      exact ih (i + 1) _ _ h2.2 h2.1 (by omega)
theorem lc_sat {mi : MI} {g : MG} {t : MT} {m : ME} {vs : List Nat} {E : PEnv} {G : Cells} {Q : W → Cells → Prop} (xs : List W) (J : Cells → Nat → List W → Cells → Prop)
    (h : (mi E G).sat fun pit G1 => pit.len G1 = xs.length ∧ J G1 0 [] (G1 ++ [.lst []]) ∧ (∀ i acc G', J G1 i acc G' → G'[G1.length]? = some (.lst acc) → pit.at G' i = some xs[i]?) ∧
      (∀ i w acc G', xs[i]? = some w → J G1 i acc G' → G'[G1.length]? = some (.lst acc) → (g w (wipeE E vs) G').sat fun E1 G2 => (t E1 G2).sat fun k G3 => if k = true then (m E1 G3).sat fun y G4 => G4[G1.length]? = some (.lst acc) ∧ acc.length < sizeLine ∧ J G1 (i + 1) (acc ++ [y]) (G4.set G1.length (.lst (acc ++ [y]))) else G3[G1.length]? = some (.lst acc) ∧ J G1 (i + 1) acc G3) ∧
      (∀ acc G', G'[G1.length]? = some (.lst acc) → J G1 xs.length acc G' → Q (.ref G1.length) G')) : (mLc mi g t m vs E G).sat Q := by
  unfold mLc
  refine h.bind fun pit G1 q => ?_
  obtain ⟨h1, h2, h3, h4, h5⟩ := q
  obtain ⟨G', acc', e1, e2, e3⟩ := lcL_sat h3 h4 (pit.len G1) 0 [] (G1 ++ [.lst []]) h2 (by simp) (by omega)
  rw [e1]
  exact h5 acc' G' e2 e3
end
end PL
/- part PLp -/
set_option maxHeartbeats 1000000
namespace PL
open PySem PySem.Spec PyProof.Rows L2
/-! ### frames -/
def Fr (S : List Nat) (G G' : Cells) : Prop := G.length ≤ G'.length ∧ ∀ n, n < G.length → n ∉ S → G'[n]? = G[n]?
theorem Fr.refl {S : List Nat} {G : Cells} : Fr S G G := ⟨Nat.le_refl _, fun _ _ _ => rfl⟩
theorem Fr.trans {S : List Nat} {G G1 G2 : Cells} (a : Fr S G G1) (b : Fr S G1 G2) : Fr S G G2 := ⟨Nat.le_trans a.1 b.1, fun n h h' => (b.2 n (Nat.lt_of_lt_of_le h a.1) h').trans (a.2 n h h')⟩
theorem Fr.of_nil {S : List Nat} {G G' : Cells} (h : Fr [] G G') : Fr S G G' := ⟨h.1, fun n a _ => h.2 n a (by simp)⟩
theorem Fr.sub {S T : List Nat} {G G' : Cells} (h : Fr S G G') (k : ∀ n ∈ S, n ∈ T) : Fr T G G' := ⟨h.1, fun n a b => h.2 n a fun c => b (k n c)⟩
theorem Fr.push {S : List Nat} {G : Cells} {c : Cell} : Fr S G (G ++ [c]) := ⟨by simp, fun n h _ => List.getElem?_append_left h⟩
theorem Fr.set {S : List Nat} {G : Cells} {n : Nat} {c : Cell} (h : n ∈ S) : Fr S G (G.set n c) := ⟨by simp, fun m _ h' => by rw [List.getElem?_set_ne]; rintro rfl; exact h' h⟩
theorem lt_of_get {G : Cells} {n : Nat} {c : Cell} (h : G[n]? = some c) : n < G.length := by
  rcases Nat.lt_or_ge n G.length with q | q
  · exact q
  · rw [List.getElem?_eq_none_iff.mpr q] at h; cases h
theorem Fr.get {S : List Nat} {G G' : Cells} {n : Nat} {c : Cell} (f : Fr S G G') (h : G[n]? = some c) (hn : n ∉ S) : G'[n]? = some c := (f.2 n (lt_of_get h) hn).trans h
/-- a fresh cell n is written: to the old cells nothing happens -/
theorem Fr.fresh {S : List Nat} {G G1 G2 : Cells} {n : Nat} (a : Fr S G G1) (hn : G.length ≤ n) (b : Fr (n :: S) G1 G2) : Fr S G G2 :=
  ⟨Nat.le_trans a.1 b.1, fun m h h' => (b.2 m (Nat.lt_of_lt_of_le h a.1) (by simp only [List.mem_cons, not_or]; exact ⟨by omega, h'⟩)).trans (a.2 m h h')⟩
/-! ### values that may be shown -/
def smallI (i : Int) : Bool := (decide (-1000 ≤ i) && decide (i ≤ 1000)) || i == 10 ^ 30 || i == -10 ^ 30
def gv (S : List Nat) (G : Cells) : List Nat → W → Prop
  | [], w => match w with
    | .non => True
    | .bl _ => True
    | .int i => smallI i = true
    | .str x => (reprText x).length ≤ 40 ∧ x.length ≤ 40
    | _ => False
  | n :: ns, w => match w with
    | .non => True
    | .bl _ => True
    | .int i => smallI i = true
    | .str x => (reprText x).length ≤ 40 ∧ x.length ≤ 40
    | .ty _ => False
    | .tup ws => ws.length ≤ n ∧ ∀ w ∈ ws, gv S G ns w
    | .ref m => m ∉ S ∧ (G[m]? = some (.dct []) ∨ ∃ ws, G[m]? = some (.lst ws) ∧ ws.length ≤ n ∧ ∀ w ∈ ws, gv S G ns w)
theorem gv.mono {S : List Nat} {G G' : Cells} (f : Fr S G G') : ∀ {ns : List Nat} {w : W}, gv S G ns w → gv S G' ns w
  | [], w, h => by cases w <;> exact h
  | n :: ns, w, h => by
    cases w with
    | tup ws => exact ⟨h.1, fun w hw => gv.mono f (h.2 w hw)⟩
    | ref m =>
      obtain ⟨hs, h⟩ := h
      refine ⟨hs, h.elim (fun q => .inl (f.get q hs)) fun ⟨ws, q, h1, h2⟩ => .inr ⟨ws, f.get q hs, h1, fun w hw => gv.mono f (h2 w hw)⟩⟩
    | _ => exact h
theorem gv.int {S : List Nat} {G : Cells} {ns : List Nat} {i : Int} (h : smallI i = true) : gv S G ns (.int i) := by cases ns <;> exact h
theorem gv.int' {S : List Nat} {G : Cells} {ns : List Nat} {i : Int} (h : -1000 ≤ i ∧ i ≤ 1000) : gv S G ns (.int i) := gv.int (by unfold smallI; simp [h.1, h.2])
theorem gv.str {S : List Nat} {G : Cells} {ns : List Nat} {x : Str} (h : (reprText x).length ≤ 40 ∧ x.length ≤ 40) : gv S G ns (.str x) := by cases ns <;> exact h
theorem gv.non {S : List Nat} {G : Cells} {ns : List Nat} : gv S G ns .non := by cases ns <;> trivial
theorem gv.bl {S : List Nat} {G : Cells} {ns : List Nat} {b : Bool} : gv S G ns (.bl b) := by cases ns <;> trivial
theorem gv.int_inv {S : List Nat} {G : Cells} {ns : List Nat} {i : Int} (h : gv S G ns (.int i)) : smallI i = true := by cases ns <;> exact h
/-- more room -/
inductive Les : List Nat → List Nat → Prop
  | nil (ms : List Nat) : Les [] ms
  | cons {n m : Nat} {ns ms : List Nat} : n ≤ m → Les ns ms → Les (n :: ns) (m :: ms)
theorem gv.wide {S : List Nat} {G : Cells} : ∀ {ns ms : List Nat} {w : W}, Les ns ms → gv S G ns w → gv S G ms w
  | _, ms, w, .nil _, h => by cases w <;> cases ms <;> first | exact h | exact h.elim
  | n :: ns, m :: ms, w, .cons a b, h => by
    cases w with
    | tup ws => exact ⟨Nat.le_trans h.1 a, fun w hw => gv.wide b (h.2 w hw)⟩
    | ref m =>
      obtain ⟨hs, h⟩ := h
      exact ⟨hs, h.elim .inl fun ⟨ws, q, h1, h2⟩ => .inr ⟨ws, q, Nat.le_trans h1 a, fun w hw => gv.wide b (h2 w hw)⟩⟩
    | _ => exact h
def Bd : List Nat → Nat
  | [] => 44
  | n :: ns => n * (Bd ns + 2) + 44
theorem smallI_show : ∀ i : Int, smallI i = true → i.natAbs.log2 < 1920 ∧ (Str.ofString (toString i)).length ≤ 40 := by
  intro i h
  unfold smallI at h
  simp only [Bool.or_eq_true, Bool.and_eq_true, decide_eq_true_eq, beq_iff_eq] at h
  rcases h with (⟨h1, h2⟩ | rfl) | rfl
  · have q : ∀ k : Fin 2001, ((k.val : Int) - 1000).natAbs.log2 < 1920 ∧ (Str.ofString (toString ((k.val : Int) - 1000))).length ≤ 40 := by decide +kernel
    have := q ⟨(i + 1000).toNat, by omega⟩
    have e : (((i + 1000).toNat : Nat) : Int) - 1000 = i := by omega
    simpa only [e] using this
  · decide +kernel
  · decide +kernel
end PL
/- part PLq -/
set_option maxHeartbeats 200000
namespace PL
open PySem PySem.Spec PyProof.Rows L2
theorem str_append_length (a b : Str) : (a ++ b).length = a.length + b.length := by
  show (a.cps ++ b.cps).size = _
  rw [Array.size_append]; rfl
theorem textFrom_length {B : Nat} : ∀ (ts : List Str) (k : Nat) (a : Str), (∀ t ∈ ts, t.length ≤ B) → (textFrom k a ts).length ≤ a.length + ts.length * (B + 2)
  | [], k, a, _ => by rw [textFrom.eq_1]; simp
  | t :: ts, k, a, h => by
    rw [textFrom.eq_2]
    have h1 := textFrom_length ts (k + 1) (a ++ Str.ofString (if k > 0 then ", " else "") ++ t) fun x hx => h x (List.mem_cons_of_mem _ hx)
    have h2 := h t List.mem_cons_self
    have h3 : (Str.ofString (if k > 0 then ", " else "")).length ≤ 2 := by split <;> decide +kernel
    simp only [str_append_length] at h1
    simp only [List.length_cons, Nat.succ_mul, Nat.add_mul, Nat.one_mul]
    omega
theorem join_length {B : Nat} : ∀ (ts : List Str), (∀ t ∈ ts, t.length ≤ B) → ((Str.ofString ", ").join ts).length ≤ ts.length * (B + 2)
  | [], _ => Nat.zero_le _
  | [t], h => by
    have := h t List.mem_cons_self
    show t.length ≤ _
    simp only [List.length_cons, List.length_nil]; omega
  | t :: u :: ts, h => by
    have h1 := join_length (u :: ts) fun x hx => h x (List.mem_cons_of_mem _ hx)
    have h2 := h t List.mem_cons_self
    show (t ++ Str.ofString ", " ++ (Str.ofString ", ").join (u :: ts)).length ≤ _
    have h3 : (Str.ofString ", ").length = 2 := by decide +kernel
    simp only [str_append_length, h3]
    simp only [List.length_cons, Nat.succ_mul, Nat.add_mul, Nat.one_mul] at h1 ⊢
    omega
theorem shownAll_len : ∀ ds : List PyData, (PyData.shownAll ds).length = ds.length
  | [] => rfl
  | d :: ds => by rw [PyData.shownAll.eq_2, List.length_cons, List.length_cons, shownAll_len ds]
theorem shownAll_mem {B : Nat} : ∀ ds : List PyData, (∀ d ∈ ds, d.shown.length ≤ B) → ∀ t ∈ PyData.shownAll ds, t.length ≤ B
  | [], _, t, h => by rw [PyData.shownAll.eq_1] at h; cases h
  | d :: ds, h, t, ht => by
    rw [PyData.shownAll.eq_2] at ht
    rcases List.mem_cons.mp ht with rfl | ht
    · exact h d List.mem_cons_self
    · exact shownAll_mem ds (fun x hx => h x (List.mem_cons_of_mem _ hx)) t ht
theorem list_shown {B n : Nat} {ds : List PyData} (hn : ds.length ≤ n) (h : ∀ d ∈ ds, d.shown.length ≤ B) : (PyData.list ds).shown.length ≤ n * (B + 2) + 44 := by
  rw [PyData.shown.eq_5]
  unfold listText
  rw [str_append_length]
  have := textFrom_length (PyData.shownAll ds) 0 (Str.ofString "[") (shownAll_mem ds h)
  rw [shownAll_len] at this
  have h1 : (Str.ofString "[").length = 1 := by decide +kernel
  have h2 : (Str.ofString "]").length = 1 := by decide +kernel
  have h3 : ds.length * (B + 2) ≤ n * (B + 2) := Nat.mul_le_mul_right _ hn
  omega
theorem tuple_shown {B n : Nat} {ds : List PyData} (hn : ds.length ≤ n) (h : ∀ d ∈ ds, d.shown.length ≤ B) : (PyData.tuple ds).shown.length ≤ n * (B + 2) + 44 := by
  rw [PyData.shown.eq_6]
  unfold tupleText
  rw [str_append_length, str_append_length]
  have := join_length (PyData.shownAll ds) (shownAll_mem ds h)
  rw [shownAll_len] at this
  have h1 : (Str.ofString "(").length = 1 := by decide +kernel
  have h2 : ∀ b : Bool, (Str.ofString (if b = true then ",)" else ")")).length ≤ 2 := by decide +kernel
  have h2 := h2 ((PyData.shownAll ds).length == 1)
  have h3 : ds.length * (B + 2) ≤ n * (B + 2) := Nat.mul_le_mul_right _ hn
  omega
theorem showableAll_of : ∀ {ds : List PyData}, (∀ d ∈ ds, d.showable = true) → PyData.showableAll ds = true
  | [], _ => PyData.showableAll.eq_1
  | d :: ds, h => by
    rw [PyData.showableAll.eq_2, h d List.mem_cons_self, showableAll_of fun x hx => h x (List.mem_cons_of_mem _ hx)]; rfl
theorem mapO_of {α β : Type} {f : α → Option β} {P : β → Prop} : ∀ {xs : List α}, (∀ x ∈ xs, ∃ y, f x = some y ∧ P y) → ∃ ys, mapO f xs = some ys ∧ ys.length = xs.length ∧ ∀ y ∈ ys, P y
  | [], _ => ⟨[], rfl, rfl, by simp⟩
  | x :: xs, h => by
    obtain ⟨y, h1, h2⟩ := h x List.mem_cons_self
    obtain ⟨ys, h3, h4, h5⟩ := mapO_of (xs := xs) fun z hz => h z (List.mem_cons_of_mem _ hz)
    refine ⟨y :: ys, by simp only [mapO, h1, h3], by simp [h4], fun z hz => ?_⟩
    rcases List.mem_cons.mp hz with rfl | hz
    · exact h2
    · exact h5 z hz
theorem Bd_pos : ∀ ns, 44 ≤ Bd ns
  | [] => Nat.le_refl _
  | n :: ns => Nat.le_add_left _ _
theorem sc_dat {S : List Nat} {G : Cells} {ns : List Nat} {w : W} (h : gv S G ns w) (hw : ∀ ws, w ≠ .tup ws) (hr : ∀ n, w ≠ .ref n) (k : Nat) (hk : 0 < k) : ∃ d, dat G k w = some d ∧ d.showable = true ∧ d.shown.length ≤ 44 := by
  obtain ⟨k, rfl⟩ : ∃ j, k = j + 1 := ⟨k - 1, by omega⟩
  cases w with
  | non => exact ⟨_, rfl, rfl, by decide +kernel⟩
  | bl b => exact ⟨_, rfl, rfl, by cases b <;> decide +kernel⟩
  | int i =>
    have := smallI_show i h.int_inv
    exact ⟨_, rfl, by rw [PyData.showable.eq_4]; simpa using this.1, by rw [PyData.shown.eq_3]; omega⟩
  | str x =>
    have h : (reprText x).length ≤ 40 ∧ x.length ≤ 40 := by cases ns <;> exact h
    exact ⟨_, rfl, rfl, by rw [PyData.shown.eq_4]; omega⟩
  | ty s => cases ns <;> exact h.elim
  | tup ws => exact (hw ws rfl).elim
  | ref n => exact (hr n rfl).elim
theorem gv_dat {S : List Nat} {G : Cells} : ∀ {ns : List Nat} {w : W}, gv S G ns w → ∀ k, ns.length < k → ∃ d, dat G k w = some d ∧ d.showable = true ∧ d.shown.length ≤ Bd ns
  | [], w, h, k, hk => sc_dat h (by rintro ws rfl; exact h.elim) (by rintro ws rfl; exact h.elim) k hk
  | n :: ns, w, h, k, hk => by
    have hb := Bd_pos (n :: ns)
    simp only [List.length_cons] at hk
    obtain ⟨k, rfl⟩ : ∃ j, k = j + 1 := ⟨k - 1, by omega⟩
    cases w with
    | tup ws =>
      obtain ⟨ds, h1, h2, h3⟩ := mapO_of (f := dat G k) (P := fun d => d.showable = true ∧ d.shown.length ≤ Bd ns) fun w hw => gv_dat (h.2 w hw) k (by omega)
      refine ⟨.tuple ds, by simp only [dat, h1, Option.map_some], ?_, tuple_shown (by rw [h2]; exact h.1) fun d hd => (h3 d hd).2⟩
      rw [PyData.showable.eq_6]; exact showableAll_of fun d hd => (h3 d hd).1
    | ref m =>
      obtain ⟨hs, h⟩ := h
      rcases h with q | ⟨ws, q, h1, h2⟩
      · refine ⟨.dict [], by simp [dat, q, mapO], by rw [PyData.showable.eq_7]; rfl, ?_⟩
        have : (PyData.dict []).shown.length = 2 := by decide +kernel
        omega
      · obtain ⟨ds, g1, g2, g3⟩ := mapO_of (f := dat G k) (P := fun d => d.showable = true ∧ d.shown.length ≤ Bd ns) fun w hw => gv_dat (h2 w hw) k (by omega)
        refine ⟨.list ds, by simp only [dat, q, g1, Option.map_some], ?_, list_shown (by rw [g2]; exact h1) fun d hd => (g3 d hd).2⟩
        rw [PyData.showable.eq_5]; exact showableAll_of fun d hd => (g3 d hd).1
    | _ =>
      obtain ⟨d, h1, h2, h3⟩ := sc_dat h (by intros; simp) (by intros; simp) (k + 1) (by omega)
      exact ⟨d, h1, h2, by omega⟩
theorem gv_repr {S : List Nat} {G : Cells} {ns : List Nat} {w : W} (h : gv S G ns w) (hl : ns.length < 60) (hb : Bd ns ≤ sizeLine) : ∃ d, dat G 60 w = some d ∧ reprW G [w] = .ok (.str d.shown) G := by
  obtain ⟨d, h1, h2, h3⟩ := gv_dat h 60 hl
  refine ⟨d, h1, ?_⟩
  have : showOk d = true := by simp only [showOk, h2, Bool.true_and, decide_eq_true_eq]; omega
  simp only [reprW, h1, this, if_true]
/-- the same value later -/
theorem dat_mono {S : List Nat} {G G' : Cells} (f : Fr S G G') : ∀ {ns : List Nat} {w : W}, gv S G ns w → ∀ k, dat G' k w = dat G k w
  | [], w, h, 0 => rfl
  | [], w, h, k + 1 => by cases w <;> first | rfl | exact h.elim
  | n :: ns, w, h, 0 => rfl
  | n :: ns, w, h, k + 1 => by
    have step : ∀ ws : List W, (∀ w ∈ ws, gv S G ns w) → mapO (dat G' k) ws = mapO (dat G k) ws := by
      intro ws
      induction ws with
      | nil => intro _; rfl
      | cons x xs ih => intro hx; simp only [mapO, dat_mono f (hx x List.mem_cons_self) k, ih fun w hw => hx w (List.mem_cons_of_mem _ hw)]
    cases w with
    | tup ws => simp only [dat, step ws h.2]
    | ref m =>
      obtain ⟨hs, h⟩ := h
      rcases h with q | ⟨ws, q, h1, h2⟩
      · simp only [dat, q, f.get q hs, mapO]
      · simp only [dat, q, f.get q hs, step ws h2]
    | _ => rfl
/-! ### == on such values -/
def isStr (w : W) (x : Str) : Bool := match w with | .str y => decide (y = x) | _ => false
theorem eqS_int (i j : Int) : eqS (.int i) (.int j) = some (decide (i = j)) := by
  have : decide (V.int i = V.int j) = decide (i = j) := decide_eq_decide.mpr ⟨fun h => V.int.inj h, fun h => h ▸ rfl⟩
  rw [← this]; rfl
theorem eqS_ss (i j : Str) : eqS (.str i) (.str j) = some (decide (i = j)) := by
  have : decide (V.str i = V.str j) = decide (i = j) := decide_eq_decide.mpr ⟨fun h => V.str.inj h, fun h => h ▸ rfl⟩
  rw [← this]; rfl
theorem eqS_non {w : W} (x : Str) (h : w = .non ∨ (∃ b, w = .bl b) ∨ ∃ i, w = .int i) : eqS w (.str x) = some false := by
  have q : ∀ v : V, v = .non ∨ (∃ b, v = .bl b) ∨ (∃ i, v = .int i) → decide (v = .str x) = false := by
    rintro v (rfl | ⟨b, rfl⟩ | ⟨i, rfl⟩) <;> exact decide_eq_false (fun h => V.noConfusion h)
  rcases h with rfl | ⟨b, rfl⟩ | ⟨i, rfl⟩
  · rw [← q .non (.inl rfl)]; rfl
  · rw [← q (.bl b) (.inr (.inl ⟨b, rfl⟩))]; rfl
  · rw [← q (.int i) (.inr (.inr ⟨i, rfl⟩))]; rfl
theorem eqOp_of {G : Cells} {x y : W} {b : Bool} (h : eqS x y = some b) : eqOp G x y = .ok (.bl b) G := by
  unfold eqOp; rw [h]
theorem neOp_of {G : Cells} {x y : W} {b : Bool} (h : eqS x y = some b) : neOp G x y = .ok (.bl (!b)) G := by
  unfold neOp; rw [h]
theorem eqOp_int {G : Cells} (i j : Int) : eqOp G (.int i) (.int j) = .ok (.bl (decide (i = j))) G := eqOp_of (eqS_int i j)
theorem eqOp_ss {G : Cells} (i j : Str) : eqOp G (.str i) (.str j) = .ok (.bl (decide (i = j))) G := eqOp_of (eqS_ss i j)
theorem neOp_int {G : Cells} (i j : Int) : neOp G (.int i) (.int j) = .ok (.bl (!decide (i = j))) G := neOp_of (eqS_int i j)
theorem neOp_ss {G : Cells} (i j : Str) : neOp G (.str i) (.str j) = .ok (.bl (!decide (i = j))) G := neOp_of (eqS_ss i j)
theorem eqOp_ref {G : Cells} {w : W} {x : Str} (h : eqS w (.str x) = none) (h' : eqW G w (.str x) = some false) : eqOp G w (.str x) = .ok (.bl false) G := by
  unfold eqOp; rw [h, h']
theorem eqW_of {G : Cells} {w : W} {d : PyData} {x : Str} (h : dat G 60 w = some d) (hk : eqK G w (.str x) = some false) (he : PyData.eqv d (.str x) = false) : eqW G w (.str x) = some false := by
  unfold eqW
  have : dat G 60 (.str x) = some (.str x) := rfl
  rw [h, this]
  simp only [he, hk]
  split <;> rfl
theorem eqOp_str {S : List Nat} {G : Cells} {ns : List Nat} {w : W} (h : gv S G ns w) (hl : ns.length < 60) (x : Str) : eqOp G w (.str x) = .ok (.bl (isStr w x)) G := by
  obtain ⟨d, h1, h2, h3⟩ := gv_dat h 60 hl
  cases w with
  | tup ws =>
    have hd : ∃ ds, d = .tuple ds := by
      have h1 : (mapO (dat G 59) ws).map PyData.tuple = some d := h1
      cases hm : mapO (dat G 59) ws with
      | none => rw [hm] at h1; cases h1
      | some ds => rw [hm] at h1; exact ⟨ds, (Option.some.inj h1).symm⟩
    obtain ⟨ds, rfl⟩ := hd
    exact eqOp_ref rfl (eqW_of h1 rfl (PyData.eqv.eq_41 _ _))
  | ref m =>
    cases ns with
    | nil => exact h.elim
    | cons n ns =>
    obtain ⟨hs, h⟩ := h
    rcases h with q | ⟨ws, q, g1, g2⟩
    · have hk : eqK G (.ref m) (.str x) = some false := by unfold eqK; simp only [q]
      have hd : dat G 60 (.ref m) = some (.dict []) := by show (match G[m]? with | some (.lst ws) => _ | some (.rol ws) => _ | some (.dct kvs) => _ | none => _) = _; rw [q]; rfl
      exact eqOp_ref rfl (eqW_of hd hk (PyData.eqv.eq_47 _ _))
    · have hk : eqK G (.ref m) (.str x) = some false := by unfold eqK; simp only [q]
      have hd : ∃ ds, dat G 60 (.ref m) = some (.list ds) := by
        have e : dat G 60 (.ref m) = (mapO (dat G 59) ws).map PyData.list := by show (match G[m]? with | some (.lst ws) => _ | some (.rol ws) => _ | some (.dct kvs) => _ | none => _) = _; rw [q]
        rw [e] at h1 ⊢
        cases hm : mapO (dat G 59) ws with
        | none => rw [hm] at h1; cases h1
        | some ds => exact ⟨ds, rfl⟩
      obtain ⟨ds, hd⟩ := hd
      exact eqOp_ref rfl (eqW_of hd hk (PyData.eqv.eq_35 _ _))
  | str y => exact eqOp_ss y x
  | ty s => cases ns <;> exact h.elim
  | non => exact eqOp_of (eqS_non x (.inl rfl))
  | bl b => exact eqOp_of (eqS_non x (.inr (.inl ⟨b, rfl⟩)))
  | int i => exact eqOp_of (eqS_non x (.inr (.inr ⟨i, rfl⟩)))
end PL
/- part PLr -/
set_option maxHeartbeats 400000
namespace PL
open PySem PySem.Spec PyProof.Rows L2
/-! ### what an expression's run ends with, by its parts -/
section
variable {E : PEnv} {G : Cells} {Q : W → Cells → Prop} {QB : Bool → Cells → Prop} {QL : List W → Cells → Prop} {QI : PIt → Cells → Prop}
theorem s_var (i : Nat) : (mVar i E G).sat Q = ∃ w, E[i]? = some (some w) ∧ Q w G := by
  unfold mVar
  cases h : E[i]? with
  | none => simp
  | some o => cases o <;> simp
theorem s_c (w : W) : (mC w E G).sat Q = Q w G := rfl
theorem s_bin (g : GOp) (a b : ME) : (mBin g a b E G).sat Q = (a E G).sat fun x G1 => (b E G1).sat fun y G2 => (g G2 x y).sat Q := by
  unfold mBin; rw [sat_bind]; congr; funext x G1; rw [sat_bind]
theorem s_test (m : ME) : (mTest m E G).sat QB = (m E G).sat fun w G1 => ∃ b, w = .bl b ∧ QB b G1 := by
  unfold mTest; rw [sat_bind]; congr; funext x G1; cases x <;> simp
theorem s_tru (m : ME) : (mTru m E G).sat QB = (m E G).sat fun w G1 => ∃ b, truW G1 w = some b ∧ QB b G1 := by
  unfold mTru; rw [sat_bind]; congr; funext x G1; cases truW G1 x <;> simp
theorem s_notT (m : MT) : (mNotT m E G).sat QB = (m E G).sat fun b G1 => QB (!b) G1 := by
  unfold mNotT; rw [sat_bind]; rfl
theorem s_andT (a b : MT) : (mAndT a b E G).sat QB = (a E G).sat fun k G1 => if k = true then (b E G1).sat QB else QB false G1 := by
  unfold mAndT; rw [sat_bind]; congr; funext x G1; cases x <;> simp
theorem s_orT (a b : MT) : (mOrT a b E G).sat QB = (a E G).sat fun k G1 => if k = true then QB true G1 else (b E G1).sat QB := by
  unfold mOrT; rw [sat_bind]; congr; funext x G1; cases x <;> simp
theorem s_and (a b : ME) : (mAnd a b E G).sat Q = (a E G).sat fun w G1 => ∃ k, truW G1 w = some k ∧ if k = true then (b E G1).sat Q else Q w G1 := by
  unfold mAnd; rw [sat_bind]; congr; funext x G1; cases truW G1 x with
  | none => simp
  | some k => cases k <;> simp
theorem s_or (a b : ME) : (mOr a b E G).sat Q = (a E G).sat fun w G1 => ∃ k, truW G1 w = some k ∧ if k = true then Q w G1 else (b E G1).sat Q := by
  unfold mOr; rw [sat_bind]; congr; funext x G1; cases truW G1 x with
  | none => simp
  | some k => cases k <;> simp
theorem s_not (a : ME) : (mNot a E G).sat Q = (a E G).sat fun w G1 => ∃ k, truW G1 w = some k ∧ Q (.bl (!k)) G1 := by
  unfold mNot; rw [sat_bind]; congr; funext x G1; cases truW G1 x <;> simp
theorem s_if (t : MT) (a b : ME) : (mIf t a b E G).sat Q = (t E G).sat fun k G1 => if k = true then (a E G1).sat Q else (b E G1).sat Q := by
  unfold mIf; rw [sat_bind]; congr; funext x G1; cases x <;> simp
theorem s_neg (a : ME) : (mNeg a E G).sat Q = (a E G).sat fun w G1 => ∃ i, w = .int i ∧ Q (.int (-i)) G1 := by
  unfold mNeg; rw [sat_bind]; congr; funext x G1; cases x <;> simp
theorem s_nil : (mNil E G).sat QL = QL [] G := rfl
theorem s_cons (a : ME) (r : MA) : (mCons a r E G).sat QL = (a E G).sat fun w G1 => (r E G1).sat fun ws G2 => QL (w :: ws) G2 := by
  unfold mCons; rw [sat_bind]; congr; funext x G1; rw [sat_bind]; rfl
theorem s_tup (m : MA) : (mTup m E G).sat Q = (m E G).sat fun ws G1 => ws.length ≤ sizeLine ∧ Q (.tup ws) G1 := by
  unfold mTup; rw [sat_bind]; congr; funext x G1; by_cases h : x.length ≤ sizeLine <;> simp [h]
theorem s_lst (m : MA) : (mLst m E G).sat Q = (m E G).sat fun ws G1 => ws.length ≤ sizeLine ∧ Q (.ref G1.length) (G1 ++ [.lst ws]) := by
  unfold mLst; rw [sat_bind]; congr; funext x G1; by_cases h : x.length ≤ sizeLine <;> simp [h]
theorem s_call (g : GCall) (m : MA) : (mCall g m E G).sat Q = (m E G).sat fun ws G1 => (g G1 ws).sat Q := by unfold mCall; rw [sat_bind]
theorem s_def (F : PF) (m : MA) : (mDef F m E G).sat Q = (m E G).sat fun ws G1 => (F ws G1).sat Q := by unfold mDef; rw [sat_bind]
theorem s_meth (T : String) (g : Cells → W → List W → Rs W) (o : ME) (m : MA) : (mMeth T g o m E G).sat Q = (o E G).sat fun w G1 => isTy T G1 w = true ∧ (m E G1).sat fun ws G2 => (g G2 w ws).sat Q := by
  unfold mMeth; rw [sat_bind]; congr; funext x G1; by_cases h : isTy T G1 x = true <;> simp [h, sat_bind]
theorem s_chain (g g' : GOp) (a b c : ME) : (mChain g g' a b c E G).sat Q = (a E G).sat fun x G1 => (b E G1).sat fun y G2 => (g G2 x y).sat fun z G3 => ∃ k, z = .bl k ∧ if k = true then (c E G3).sat fun u G4 => (g' G4 y u).sat Q else Q (.bl false) G3 := by
  unfold mChain; rw [sat_bind]; congr; funext x G1; rw [sat_bind]; congr; funext y G2; rw [sat_bind]; congr; funext z G3; cases z <;> simp
  rename_i k
  cases k <;> simp [sat_bind]
theorem s_chain3 (g g' g'' : GOp) (a b c d : ME) : (mChain3 g g' g'' a b c d E G).sat Q = (a E G).sat fun x G1 => (b E G1).sat fun y G2 => (g G2 x y).sat fun z G3 => ∃ k, z = .bl k ∧ if k = true then ((c E G3).sat fun u G4 => (g' G4 y u).sat fun z2 G5 => ∃ k2, z2 = .bl k2 ∧ if k2 = true then (d E G5).sat fun v G6 => (g'' G6 u v).sat Q else Q (.bl false) G5) else Q (.bl false) G3 := by
  have q : ∀ z2 : W, ∀ G5 : Cells, ∀ u : W, (match z2 with | .bl true => (d E G5).bind fun v G6 => g'' G6 u v | .bl false => .ok (.bl false) G5 | _ => .no : Rs W).sat Q = ∃ k2, z2 = .bl k2 ∧ if k2 = true then (d E G5).sat fun v G6 => (g'' G6 u v).sat Q else Q (.bl false) G5 := by
    intro z2 G5 u
    cases z2 <;> simp
    rename_i k2
    cases k2 <;> simp [sat_bind]
  unfold mChain3; rw [sat_bind]; congr; funext x G1; rw [sat_bind]; congr; funext y G2; rw [sat_bind]; congr; funext z G3
  cases z with
  | bl k =>
    cases k
    · simp
    · simp only [W.bl.injEq, exists_eq_left', if_true]
      rw [sat_bind]; congr; funext u G4; rw [sat_bind]; congr; funext z2 G5; exact q z2 G5 u
  | _ => simp
theorem s_cut (a : ME) (l u : MO) : (mCut a l u E G).sat Q = (a E G).sat fun x G1 => (l E G1).sat fun lo G2 => (u E G2).sat fun hi G3 => (cutOp G3 x lo hi).sat Q := by
  unfold mCut; rw [sat_bind]; congr; funext x G1; rw [sat_bind]; congr; funext y G2; rw [sat_bind]
theorem s_nopart {QO : Option Int → Cells → Prop} : (mNoPart E G).sat QO = QO none G := rfl
theorem s_part {QO : Option Int → Cells → Prop} (m : ME) : (mPart m E G).sat QO = (m E G).sat fun w G1 => ∃ i, w = .int i ∧ QO (some i) G1 := by
  unfold mPart; rw [sat_bind]; congr; funext x G1; cases x <;> simp
theorem s_seq (m : ME) : (mSeq m E G).sat QI = (m E G).sat fun w G1 => (itSeq w G1).sat QI := by unfold mSeq; rw [sat_bind]
theorem s_rng1 (m : ME) : (mRng1 (mCons m mNil) E G).sat QI = (m E G).sat fun w G1 => ∃ j, w = .int j ∧ rngOk j = true ∧ QI (.rng 0 j.toNat) G1 := by
  unfold mRng1; rw [sat_bind, s_cons]; congr; funext x G1; rw [s_nil]; cases x <;> simp
  rename_i i
  by_cases h : rngOk i = true <;> simp [h]
theorem s_enum (m : ME) : (mEnum (mCons m mNil) E G).sat QI = (m E G).sat fun w G1 => (∃ n, w = .ref n ∧ (rdL G1 n).isSome = true ∧ QI (.enL n) G1) ∨ ∃ us, w = .tup us ∧ QI (.enT us) G1 := by
  unfold mEnum; rw [sat_bind, s_cons]; congr; funext x G1; rw [s_nil]; cases x <;> simp
  rename_i i
  cases h : rdL G1 i <;> simp [h]
end
end PL
/- part K01m -/
set_option maxHeartbeats 4000000
namespace NS
open PySem PySem.Spec PyProof.Rows L2 PL
/-! ### the text: mirrors -/
def topS (i : Nat) : Stmt := PySem.Challenge.pw_longernearer_k01_what_is_a_skeleton.main.body.getD i (.Pass ⟨0, 0, 0, 0⟩)
def Bis_integer : MS := sRet (mAnd (mCall isiW (mCons (mVar 0) (mCons (mC (.ty "int")) (mNil)))) (mNot (mCall isiW (mCons (mVar 0) (mCons (mC (.ty "bool")) (mNil))))))
def Mis_integer : PF := mFun 1 1 Bis_integer
def Bjumps_of : MS := sRet (mCall tupleW (mCons (mLc (mEnum (mCons (mVar 0) (mNil))) (gTupW 2 (gsCons 1 (gsCons 2 (gsNil)))) (mTest (mBin eqOp (mBin getW (mVar 2) (mC (.int 0))) (mC (.str "jump")))) (mVar 1) [1, 2]) (mNil)))
def Mjumps_of : PF := mFun 1 3 Bjumps_of
def B_is_label : MS := sRet (mAnd (mBin eqOp (mCall lenW (mCons (mVar 0) (mNil))) (mC (.int 1))) (mBin eqOp (mBin getW (mVar 0) (mC (.int 0))) (mC (.str "label"))))
def M_is_label : PF := mFun 1 1 B_is_label
def B_is_fill_size : MS := sRet (mAnd (mDef Mis_integer (mCons (mVar 0) (mNil))) (mBin (inW false) (mVar 0) (mC (.tup [.int 2, .int 4, .int 8, .int 16, .int 32, .int 64]))))
def M_is_fill_size : PF := mFun 1 1 B_is_fill_size
def B_is_fill : MS := sRet (mAnd (mBin eqOp (mCall lenW (mCons (mVar 0) (mNil))) (mC (.int 2))) (mAnd (mBin eqOp (mBin getW (mVar 0) (mC (.int 0))) (mC (.str "fill"))) (mDef M_is_fill_size (mCons (mBin getW (mVar 0) (mC (.int 1))) (mNil)))))
def M_is_fill : PF := mFun 1 1 B_is_fill
def B_are_sizes : MS := sRet (mAnd (mDef Mis_integer (mCons (mVar 0) (mNil))) (mAnd (mDef Mis_integer (mCons (mVar 1) (mNil))) (mChain3 leW ltW leW (mC (.int 1)) (mVar 0) (mVar 1) (mC (.int 999)))))
def M_are_sizes : PF := mFun 2 2 B_are_sizes
def B_is_jump : MS := sRet (mAnd (mBin eqOp (mCall lenW (mCons (mVar 0) (mNil))) (mC (.int 4))) (mAnd (mBin eqOp (mBin getW (mVar 0) (mC (.int 0))) (mC (.str "jump"))) (mAnd (mDef Mis_integer (mCons (mBin getW (mVar 0) (mC (.int 1))) (mNil))) (mDef M_are_sizes (mCons (mBin getW (mVar 0) (mC (.int 2))) (mCons (mBin getW (mVar 0) (mC (.int 3))) (mNil)))))))
def M_is_jump : PF := mFun 1 1 B_is_jump
def B_is_item : MS := sSeq (sIf (mNotT (mTru (mCall isiW (mCons (mVar 0) (mCons (mC (.ty "tuple")) (mNil)))))) (sRet (mC (.bl false))) (sNext)) (sRet (mOr (mDef M_is_label (mCons (mVar 0) (mNil))) (mOr (mDef M_is_fill (mCons (mVar 0) (mNil))) (mDef M_is_jump (mCons (mVar 0) (mNil))))))
def M_is_item : PF := mFun 1 1 B_is_item
def B_is_place_of_label : MS := sRet (mAnd (mChain leW ltW (mC (.int 0)) (mVar 1) (mCall lenW (mCons (mVar 0) (mNil)))) (mDef M_is_label (mCons (mBin getW (mVar 0) (mVar 1)) (mNil))))
def M_is_place_of_label : PF := mFun 2 2 B_is_place_of_label
def Bskeleton_error : MS := sSeq (sIf (mOrT (mNotT (mTru (mCall isiW (mCons (mVar 0) (mCons (mC (.ty "tuple")) (mNil)))))) (mNotT (mTest (mChain leW leW (mC (.int 1)) (mCall lenW (mCons (mVar 0) (mNil))) (mC (.int 24)))))) (sRet (mC (.str "form"))) (sNext)) (sSeq (sFor (mEnum (mCons (mVar 0) (mNil))) (gTupW 2 (gsCons 1 (gsCons 2 (gsNil)))) (sIf (mNotT (mTru (mDef M_is_item (mCons (mVar 2) (mNil))))) (sRet (mTup (mCons (mC (.str "item")) (mCons (mVar 1) (mNil))))) (sNext))) (sSeq (sAsg (mDef Mjumps_of (mCons (mVar 0) (mNil))) (gSet 3)) (sSeq (sFor (mSeq (mVar 3)) (gSet 4) (sIf (mNotT (mTru (mDef M_is_place_of_label (mCons (mVar 0) (mCons (mBin getW (mBin getW (mVar 0) (mVar 4)) (mC (.int 1))) (mNil)))))) (sRet (mTup (mCons (mC (.str "goal")) (mCons (mVar 4) (mNil))))) (sNext))) (sSeq (sIf (mTest (mBin gtW (mCall lenW (mCons (mVar 3) (mNil))) (mC (.int 8)))) (sRet (mC (.str "jumps"))) (sNext)) (sRet (mC .non))))))
def Mskeleton_error : PF := mFun 1 5 Bskeleton_error
def B_law_reel : MS := sSeq (sPar 1 2 (mCons (mLc (mSeq (mCut (mVar 0) (mNoPart) (mPart (mC (.int 63))))) (gSet 3) (mYes) (mIf (mTest (mBin geW (mVar 3) (mC (.int 0)))) (mBin mulW (mC (.int 2)) (mVar 3)) (mBin subW (mBin mulW (mNeg (mC (.int 2))) (mVar 3)) (mC (.int 1)))) [3]) (mCons (mBin addW (mCall lenW (mCons (mVar 0) (mNil))) (mC (.int 7))) (mNil)))) (sSeq (sFor (mSeq (mVar 1)) (gSet 3) (sAsg (mBin modW (mCall intW (mCons (mBin addW (mBin addW (mBin mulW (mVar 2) (mC (.int 69069))) (mBin mulW (mVar 3) (mC (.int 11)))) (mC (.int 5))) (mNil))) (mC (.int 4294967291))) (gSet 2))) (sSeq (sAsg (mLc (mSeq (mVar 1)) (gSet 3) (mTest (mBin geW (mVar 3) (mBin powW (mC (.int 10)) (mC (.int 18))))) (mVar 3) [3]) (gSet 4)) (sRet (mDisp (mpCons (mC (.str "deep")) (mVar 4) (mpCons (mC (.str "cells")) (mBin addW (mVar 1) (mLst (mCons (mBin addW (mBin mulW (mC (.int 2)) (mCall lenW (mCons (mVar 1) (mNil)))) (mC (.int 1))) (mNil)))) (mpCons (mC (.str "stamp")) (mVar 2) (mpCons (mC (.str "count")) (mC (.int 0)) (mpNil)))))))))
def M_law_reel : PF := mFun 1 5 B_law_reel
def B_law_draw : MS := sSeq (sAsg (mBin getW (mVar 0) (mC (.str "deep"))) (gSet 2)) (sSeq (sIf (mAndT (mTest (mBin neOp (mVar 2) (mLst (mNil)))) (mTest (mBin gtW (mVar 1) (mC (.int 1))))) (sSeq (sAsg (mMeth "list" popW (mVar 2) mNil) (gSet 3)) (sSeq (sIf (mTest (mBin geW (mVar 3) (mVar 1))) (sExpr (mMeth "list" appendW (mVar 2) (mCons (mBin fdivW (mVar 3) (mVar 1)) (mNil)))) (sNext)) (sRet (mBin modW (mCall intW (mCons (mVar 3) (mNil))) (mVar 1))))) (sNext)) (sSeq (sAsg (mBin addW (mBin getW (mVar 0) (mC (.str "count"))) (mC (.int 1))) (gPut (mVar 0) (mC (.str "count")))) (sSeq (sPar 4 5 (mCons (mBin getW (mVar 0) (mC (.str "count"))) (mCons (mBin getW (mVar 0) (mC (.str "cells"))) (mNil)))) (sSeq (sAsg (mBin modW (mCall intW (mCons (mBin addW (mBin addW (mBin mulW (mBin getW (mVar 5) (mBin modW (mCall intW (mCons (mBin mulW (mVar 4) (mC (.int 7))) (mNil))) (mCall lenW (mCons (mVar 5) (mNil))))) (mC (.int 2246822519))) (mBin getW (mVar 0) (mC (.str "stamp")))) (mBin mulW (mVar 4) (mC (.int 3266489917)))) (mNil))) (mC (.int 4294967291))) (gSet 6)) (sSeq (sFor (mRng1 (mCons (mC (.int 2)) (mNil))) (gSet 7) (sAsg (mBin modW (mCall intW (mCons (mBin addW (mBin mulW (mVar 6) (mVar 6)) (mBin mulW (mBin getW (mVar 0) (mC (.str "stamp"))) (mBin addW (mVar 4) (mVar 7)))) (mNil))) (mC (.int 4294967279))) (gSet 6))) (sRet (mBin modW (mCall intW (mCons (mBin fdivW (mVar 6) (mC (.int 512))) (mNil))) (mVar 1))))))))
def M_law_draw : PF := mFun 2 8 B_law_draw
def B_law_pick : MS := sRet (mBin getW (mVar 1) (mDef M_law_draw (mCons (mVar 0) (mCons (mCall lenW (mCons (mVar 1) (mNil))) (mNil)))))
def M_law_pick : PF := mFun 2 2 B_law_pick
def B_law_sizes : MS := sSeq (sAsg (mDef M_law_pick (mCons (mVar 0) (mCons (mLst (mCons (mC (.int 1)) (mCons (mC (.int 1)) (mCons (mC (.int 2)) (mCons (mC (.int 3)) (mCons (mC (.int 5)) (mCons (mC (.int 998)) (mCons (mBin addW (mC (.int 1)) (mDef M_law_draw (mCons (mVar 0) (mCons (mC (.int 998)) (mNil))))) (mNil))))))))) (mNil)))) (gSet 1)) (sRet (mTup (mCons (mVar 1) (mCons (mDef M_law_pick (mCons (mVar 0) (mCons (mLst (mCons (mBin addW (mVar 1) (mC (.int 1))) (mCons (mBin addW (mBin addW (mVar 1) (mC (.int 1))) (mDef M_law_draw (mCons (mVar 0) (mCons (mBin subW (mC (.int 999)) (mVar 1)) (mNil))))) (mCons (mC (.int 999)) (mNil))))) (mNil)))) (mNil)))))
def M_law_sizes : PF := mFun 1 2 B_law_sizes
def B_law_skeleton : MS := sSeq (sAsg (mBin addW (mC (.int 1)) (mDef M_law_draw (mCons (mVar 0) (mCons (mVar 1) (mNil))))) (gSet 2)) (sSeq (sIf (mTest (mBin eqOp (mDef M_law_draw (mCons (mVar 0) (mCons (mC (.int 4)) (mNil)))) (mC (.int 0)))) (sAsg (mVar 1) (gSet 2)) (sNext)) (sSeq (sAsg (mLc (mRng1 (mCons (mVar 2) (mNil))) (gSet 10) (mYes) (mDef M_law_pick (mCons (mVar 0) (mCons (mLst (mCons (mC (.str "label")) (mCons (mC (.str "label")) (mCons (mC (.str "fill")) (mCons (mC (.str "jump")) (mCons (mC (.str "jump")) (mNil))))))) (mNil)))) [10]) (gSet 3)) (sSeq (sIf (mTest (mBin (inW true) (mC (.str "label")) (mVar 3))) (sAsg (mC (.str "label")) (gPut (mVar 3) (mDef M_law_draw (mCons (mVar 0) (mCons (mVar 2) (mNil)))))) (sNext)) (sSeq (sAsg (mLc (mEnum (mCons (mVar 3) (mNil))) (gTupW 2 (gsCons 10 (gsCons 7 (gsNil)))) (mTest (mBin eqOp (mVar 7) (mC (.str "label")))) (mVar 10) [10, 7]) (gSet 4)) (sSeq (sPar 5 6 (mCons (mLst (mNil)) (mCons (mC (.int 8)) (mNil)))) (sSeq (sFor (mSeq (mVar 3)) (gSet 7) (sIf (mAndT (mTest (mBin eqOp (mVar 7) (mC (.str "jump")))) (mTest (mBin gtW (mVar 6) (mC (.int 0))))) (sSeq (sAsg (mDef M_law_sizes (mCons (mVar 0) (mNil))) (gTupW 2 (gsCons 8 (gsCons 9 (gsNil))))) (sSeq (sExpr (mMeth "list" appendW (mVar 5) (mCons (mTup (mCons (mC (.str "jump")) (mCons (mDef M_law_pick (mCons (mVar 0) (mCons (mVar 4) (mNil)))) (mCons (mVar 8) (mCons (mVar 9) (mNil)))))) (mNil)))) (sAsg (mBin subW (mVar 6) (mC (.int 1))) (gSet 6)))) (sExpr (mMeth "list" appendW (mVar 5) (mCons (mIf (mTest (mBin eqOp (mVar 7) (mC (.str "label")))) (mTup (mCons (mC (.str "label")) (mNil))) (mTup (mCons (mC (.str "fill")) (mCons (mDef M_law_pick (mCons (mVar 0) (mCons (mLst (mCons (mC (.int 2)) (mCons (mC (.int 4)) (mCons (mC (.int 8)) (mCons (mC (.int 16)) (mCons (mC (.int 32)) (mCons (mC (.int 64)) (mNil)))))))) (mNil)))) (mNil))))) (mNil)))))) (sRet (mCall tupleW (mCons (mVar 5) (mNil))))))))))
def M_law_skeleton : PF := mFun 2 11 B_law_skeleton
def B_law_is_int : MS := sRet (mAnd (mCall isiW (mCons (mVar 0) (mCons (mC (.ty "int")) (mNil)))) (mAnd (mNot (mCall isiW (mCons (mVar 0) (mCons (mC (.ty "bool")) (mNil))))) (mChain leW leW (mVar 1) (mVar 0) (mVar 2))))
def M_law_is_int : PF := mFun 3 3 B_law_is_int
def B_law_is_item : MS := sSeq (sIf (mOrT (mNotT (mTru (mCall isiW (mCons (mVar 0) (mCons (mC (.ty "tuple")) (mNil)))))) (mOrT (mTest (mBin eqOp (mVar 0) (mTup (mNil)))) (mNotT (mTru (mCall isiW (mCons (mBin getW (mVar 0) (mC (.int 0))) (mCons (mC (.ty "str")) (mNil)))))))) (sRet (mC (.bl false))) (sNext)) (sSeq (sIf (mTest (mBin eqOp (mBin getW (mVar 0) (mC (.int 0))) (mC (.str "label")))) (sRet (mBin eqOp (mCall lenW (mCons (mVar 0) (mNil))) (mC (.int 1)))) (sNext)) (sSeq (sIf (mTest (mBin eqOp (mBin getW (mVar 0) (mC (.int 0))) (mC (.str "fill")))) (sRet (mAnd (mBin eqOp (mCall lenW (mCons (mVar 0) (mNil))) (mC (.int 2))) (mAnd (mDef M_law_is_int (mCons (mBin getW (mVar 0) (mC (.int 1))) (mCons (mC (.int 2)) (mCons (mC (.int 64)) (mNil))))) (mBin (inW false) (mBin getW (mVar 0) (mC (.int 1))) (mTup (mCons (mC (.int 2)) (mCons (mC (.int 4)) (mCons (mC (.int 8)) (mCons (mC (.int 16)) (mCons (mC (.int 32)) (mCons (mC (.int 64)) (mNil)))))))))))) (sNext)) (sSeq (sIf (mOrT (mTest (mBin neOp (mBin getW (mVar 0) (mC (.int 0))) (mC (.str "jump")))) (mOrT (mTest (mBin neOp (mCall lenW (mCons (mVar 0) (mNil))) (mC (.int 4)))) (mOrT (mTru (mCall isiW (mCons (mBin getW (mVar 0) (mC (.int 1))) (mCons (mC (.ty "bool")) (mNil))))) (mNotT (mTru (mCall isiW (mCons (mBin getW (mVar 0) (mC (.int 1))) (mCons (mC (.ty "int")) (mNil))))))))) (sRet (mC (.bl false))) (sNext)) (sRet (mAnd (mDef M_law_is_int (mCons (mBin getW (mVar 0) (mC (.int 2))) (mCons (mC (.int 1)) (mCons (mC (.int 999)) (mNil))))) (mAnd (mDef M_law_is_int (mCons (mBin getW (mVar 0) (mC (.int 3))) (mCons (mC (.int 2)) (mCons (mC (.int 999)) (mNil))))) (mBin ltW (mBin getW (mVar 0) (mC (.int 2))) (mBin getW (mVar 0) (mC (.int 3))))))))))
def M_law_is_item : PF := mFun 1 1 B_law_is_item
def B_law_fault : MS := sSeq (sIf (mOrT (mNotT (mTru (mCall isiW (mCons (mVar 0) (mCons (mC (.ty "tuple")) (mNil)))))) (mOrT (mTest (mBin ltW (mCall lenW (mCons (mVar 0) (mNil))) (mC (.int 1)))) (mTest (mBin gtW (mCall lenW (mCons (mVar 0) (mNil))) (mC (.int 24)))))) (sRet (mC (.str "form"))) (sNext)) (sSeq (sFor (mEnum (mCons (mVar 0) (mNil))) (gTupW 2 (gsCons 1 (gsCons 2 (gsNil)))) (sIf (mNotT (mTru (mDef M_law_is_item (mCons (mVar 2) (mNil))))) (sRet (mTup (mCons (mC (.str "item")) (mCons (mVar 1) (mNil))))) (sNext))) (sSeq (sFor (mEnum (mCons (mVar 0) (mNil))) (gTupW 2 (gsCons 1 (gsCons 2 (gsNil)))) (sIf (mAndT (mTest (mBin eqOp (mBin getW (mVar 2) (mC (.int 0))) (mC (.str "jump")))) (mOrT (mNotT (mTest (mChain leW ltW (mC (.int 0)) (mBin getW (mVar 2) (mC (.int 1))) (mCall lenW (mCons (mVar 0) (mNil)))))) (mTest (mBin neOp (mBin getW (mBin getW (mVar 0) (mBin getW (mVar 2) (mC (.int 1)))) (mC (.int 0))) (mC (.str "label")))))) (sRet (mTup (mCons (mC (.str "goal")) (mCons (mVar 1) (mNil))))) (sNext))) (sRet (mIf (mTest (mBin gtW (mCall lenW (mCons (mLc (mSeq (mVar 0)) (gSet 2) (mTest (mBin eqOp (mBin getW (mVar 2) (mC (.int 0))) (mC (.str "jump")))) (mVar 2) [2]) (mNil))) (mC (.int 8)))) (mC (.str "jumps")) (mC .non)))))
def M_law_fault : PF := mFun 1 3 B_law_fault
def B_law_jumps : MS := sRet (mLc (mEnum (mCons (mVar 0) (mNil))) (gTupW 2 (gsCons 1 (gsCons 2 (gsNil)))) (mTest (mBin eqOp (mBin getW (mVar 2) (mC (.int 0))) (mC (.str "jump")))) (mVar 1) [1, 2])
def M_law_jumps : PF := mFun 1 3 B_law_jumps
def B_law_odd_item : MS := sSeq (sAsg (mCall lenW (mCons (mVar 1) (mNil))) (gSet 3)) (sSeq (sAsg (mLst (mCons (mTup (mCons (mC (.str "label")) (mCons (mC (.int 0)) (mNil)))) (mCons (mLst (mCons (mC (.str "label")) (mNil))) (mCons (mC (.str "label")) (mCons (mC .non) (mCons (mTup (mNil)) (mCons (mC (.int 7)) (mCons (mTup (mCons (mC (.str "Label")) (mNil))) (mCons (mTup (mCons (mTup (mCons (mC (.str "label")) (mNil))) (mNil))) (mCons (mTup (mCons (mC (.str "fill")) (mNil))) (mCons (mTup (mCons (mC (.str "fill")) (mCons (mC (.int 4)) (mCons (mC (.int 4)) (mNil))))) (mCons (mDict0) (mCons (mTup (mCons (mC (.int 1)) (mNil))) (mNil)))))))))))))) (gSet 4)) (sSeq (sAsg (mBin addW (mBin addW (mVar 4) (mLc (mSeq (mTup (mCons (mC (.int 0)) (mCons (mC (.int 1)) (mCons (mC (.int 3)) (mCons (mC (.int 6)) (mCons (mC (.int 128)) (mCons (mNeg (mC (.int 4))) (mCons (mC (.bl true)) (mCons (mC (.str "4")) (mCons (mC .non) (mCons (mBin powW (mC (.int 10)) (mC (.int 30))) (mCons (mTup (mCons (mC (.int 4)) (mNil))) (mNil)))))))))))))) (gSet 11) (mYes) (mTup (mCons (mC (.str "fill")) (mCons (mVar 11) (mNil)))) [11])) (mLst (mCons (mTup (mCons (mC (.str "label")) (mNil))) (mCons (mTup (mCons (mC (.str "jump")) (mNil))) (mNil))))) (gSet 4)) (sSeq (sAsg (mBin addW (mVar 4) (mLst (mCons (mTup (mCons (mC (.str "fill")) (mCons (mLst (mCons (mC (.int 4)) (mNil))) (mNil)))) (mCons (mTup (mCons (mC (.str "fill")) (mCons (mDict0) (mNil)))) (mCons (mTup (mCons (mLst (mCons (mC (.str "label")) (mNil))) (mNil))) (mCons (mTup (mCons (mDict0) (mNil))) (mCons (mTup (mCons (mLst (mNil)) (mCons (mC (.int 4)) (mNil)))) (mNil)))))))) (gSet 4)) (sSeq (sIf (mTest (mBin neOp (mBin getW (mVar 2) (mC (.int 0))) (mC (.str "jump")))) (sRet (mDef M_law_pick (mCons (mVar 0) (mCons (mVar 4) (mNil))))) (sNext)) (sSeq (sAsg (mVar 2) (gTupW 4 (gsCons 5 (gsCons 6 (gsCons 7 (gsCons 8 (gsNil))))))) (sSeq (sAsg (mLst (mCons (mTup (mCons (mVar 5) (mCons (mVar 6) (mCons (mVar 8) (mCons (mVar 7) (mNil)))))) (mCons (mTup (mCons (mVar 5) (mCons (mVar 6) (mCons (mVar 7) (mCons (mVar 7) (mNil)))))) (mCons (mTup (mCons (mVar 5) (mCons (mVar 6) (mCons (mC (.int 0)) (mCons (mVar 8) (mNil)))))) (mCons (mTup (mCons (mVar 5) (mCons (mVar 6) (mCons (mVar 7) (mCons (mC (.int 1000)) (mNil)))))) (mNil)))))) (gSet 9)) (sSeq (sAsg (mBin addW (mVar 9) (mLst (mCons (mTup (mCons (mVar 5) (mCons (mVar 6) (mCons (mC (.bl true)) (mCons (mVar 8) (mNil)))))) (mCons (mTup (mCons (mVar 5) (mCons (mC (.bl true)) (mCons (mVar 7) (mCons (mVar 8) (mNil)))))) (mCons (mTup (mCons (mVar 5) (mCons (mVar 6) (mCons (mVar 7) (mNil))))) (mCons (mBin addW (mVar 2) (mTup (mCons (mC (.int 0)) (mNil)))) (mCons (mCall listW (mCons (mVar 2) (mNil))) (mNil)))))))) (gSet 9)) (sSeq (sAsg (mBin addW (mVar 9) (mLst (mCons (mTup (mCons (mVar 5) (mCons (mCall strW (mCons (mVar 6) (mNil))) (mCons (mVar 7) (mCons (mVar 8) (mNil)))))) (mCons (mTup (mCons (mVar 5) (mCons (mVar 6) (mCons (mNeg (mC (.int 1))) (mCons (mVar 8) (mNil)))))) (mCons (mTup (mCons (mC (.str "jumps")) (mCons (mVar 6) (mCons (mVar 7) (mCons (mVar 8) (mNil)))))) (mCons (mTup (mCons (mVar 5) (mCons (mVar 6) (mCons (mVar 7) (mCons (mC .non) (mNil)))))) (mNil))))))) (gSet 9)) (sSeq (sAsg (mBin addW (mVar 9) (mLc (mSeq (mTup (mCons (mNeg (mC (.int 1))) (mCons (mBin subW (mC (.int 0)) (mVar 8)) (mCons (mNeg (mBin powW (mC (.int 10)) (mC (.int 30)))) (mCons (mLst (mCons (mVar 7) (mNil))) (mNil))))))) (gSet 11) (mYes) (mTup (mCons (mVar 5) (mCons (mVar 6) (mCons (mVar 11) (mCons (mVar 8) (mNil)))))) [11])) (gSet 9)) (sSeq (sAsg (mBin addW (mVar 9) (mLst (mCons (mTup (mCons (mVar 5) (mCons (mLst (mCons (mVar 6) (mNil))) (mCons (mVar 7) (mCons (mVar 8) (mNil)))))) (mCons (mTup (mCons (mVar 5) (mCons (mVar 6) (mCons (mNeg (mC (.int 3))) (mCons (mNeg (mC (.int 2))) (mNil)))))) (mCons (mTup (mCons (mLst (mCons (mC (.str "jump")) (mNil))) (mCons (mVar 6) (mCons (mVar 7) (mCons (mVar 8) (mNil)))))) (mNil)))))) (gSet 9)) (sSeq (sAsg (mLst (mCons (mVar 3) (mCons (mNeg (mC (.int 1))) (mCons (mBin subW (mC (.int 0)) (mVar 3)) (mCons (mBin subW (mVar 3) (mC (.int 1))) (mCons (mC (.int 0)) (mCons (mBin powW (mC (.int 10)) (mC (.int 30))) (mCons (mNeg (mBin powW (mC (.int 10)) (mC (.int 30)))) (mNil))))))))) (gSet 10)) (sSeq (sAsg (mBin addW (mVar 10) (mLc (mEnum (mCons (mVar 1) (mNil))) (gTupW 2 (gsCons 12 (gsCons 11 (gsNil)))) (mTest (mBin neOp (mBin getW (mVar 11) (mC (.int 0))) (mC (.str "label")))) (mVar 12) [12, 11])) (gSet 10)) (sRet (mDef M_law_pick (mCons (mVar 0) (mCons (mBin addW (mBin addW (mVar 9) (mLc (mSeq (mVar 10)) (gSet 11) (mYes) (mTup (mCons (mVar 5) (mCons (mVar 11) (mCons (mVar 7) (mCons (mVar 8) (mNil)))))) [11])) (mLst (mCons (mDef M_law_pick (mCons (mVar 0) (mCons (mVar 4) (mNil)))) (mNil)))) (mNil)))))))))))))))))
def M_law_odd_item : PF := mFun 3 13 B_law_odd_item
def B_law_spoilt : MS := sSeq (sPar 2 3 (mCons (mDef M_law_draw (mCons (mVar 0) (mCons (mCall lenW (mCons (mVar 1) (mNil))) (mNil)))) (mCons (mDef M_law_draw (mCons (mVar 0) (mCons (mC (.int 8)) (mNil)))) (mNil)))) (sSeq (sIf (mTest (mBin eqOp (mVar 3) (mC (.int 0)))) (sSeq (sAsg (mLst (mCons (mCall listW (mCons (mVar 1) (mNil))) (mCons (mTup (mNil)) (mCons (mC .non) (mCons (mBin addW (mVar 1) (mBin mulW (mTup (mCons (mTup (mCons (mC (.str "label")) (mNil))) (mNil))) (mC (.int 24)))) (mCons (mC (.str "label")) (mCons (mC (.int 0)) (mCons (mDict0) (mCons (mTup (mCons (mVar 1) (mNil))) (mCons (mBin mulW (mTup (mCons (mTup (mCons (mC (.str "label")) (mNil))) (mNil))) (mC (.int 25))) (mNil))))))))))) (gSet 4)) (sRet (mDef M_law_pick (mCons (mVar 0) (mCons (mVar 4) (mNil)))))) (sNext)) (sSeq (sIf (mTest (mBin eqOp (mVar 3) (mC (.int 1)))) (sRet (mBin addW (mCut (mVar 1) (mNoPart) (mPart (mVar 2))) (mCut (mVar 1) (mPart (mBin addW (mVar 2) (mC (.int 1)))) (mNoPart)))) (sNext)) (sSeq (sIf (mTest (mBin eqOp (mVar 3) (mC (.int 2)))) (sSeq (sAsg (mTup (mCons (mC (.str "jump")) (mCons (mDef M_law_pick (mCons (mVar 0) (mCons (mLst (mCons (mC (.int 0)) (mCons (mVar 2) (mCons (mCall lenW (mCons (mVar 1) (mNil))) (mNil))))) (mNil)))) (mCons (mC (.int 1)) (mCons (mC (.int 2)) (mNil)))))) (gSet 5)) (sRet (mBin addW (mVar 1) (mBin mulW (mTup (mCons (mVar 5) (mNil))) (mBin addW (mC (.int 1)) (mDef M_law_draw (mCons (mVar 0) (mCons (mC (.int 9)) (mNil))))))))) (sNext)) (sRet (mBin addW (mBin addW (mCut (mVar 1) (mNoPart) (mPart (mVar 2))) (mTup (mCons (mDef M_law_odd_item (mCons (mVar 0) (mCons (mVar 1) (mCons (mBin getW (mVar 1) (mVar 2)) (mNil))))) (mNil)))) (mCut (mVar 1) (mPart (mBin addW (mVar 2) (mC (.int 1)))) (mNoPart)))))))
def M_law_spoilt : PF := mFun 2 6 B_law_spoilt
def B_law_is_told : MS := sSeq (sPar 2 3 (mCons (mCall reprW (mCons (mVar 0) (mNil))) (mCons (mDef M_law_fault (mCons (mVar 0) (mNil))) (mNil)))) (sSeq (sAsg (mLst (mCons (mIf (mTru (mVar 1)) (mDefK Mskeleton_error [0] 0 1 mNil (mCons (mVar 0) (mNil))) (mDef Mskeleton_error (mCons (mVar 0) (mNil)))) (mCons (mDef Mskeleton_error (mCons (mVar 0) (mNil))) (mNil)))) (gSet 4)) (sSeq (sIf (mOrT (mTest (mBin neOp (mCall reprW (mCons (mVar 4) (mNil))) (mCall reprW (mCons (mLst (mCons (mVar 3) (mCons (mVar 3) (mNil)))) (mNil))))) (mTest (mBin neOp (mCall reprW (mCons (mVar 0) (mNil))) (mVar 2)))) (sRet (mC (.bl false))) (sNext)) (sSeq (sIf (mTest (mBin (isW true) (mVar 3) (mC .non))) (sRet (mC (.bl true))) (sNext)) (sSeq (sAsg (mIf (mTru (mVar 1)) (mDefK Mjumps_of [0] 0 1 mNil (mCons (mVar 0) (mNil))) (mDef Mjumps_of (mCons (mVar 0) (mNil)))) (gSet 5)) (sRet (mAnd (mBin eqOp (mCall reprW (mCons (mVar 5) (mNil))) (mCall reprW (mCons (mCall tupleW (mCons (mDef M_law_jumps (mCons (mVar 0) (mNil))) (mNil))) (mNil)))) (mBin eqOp (mCall reprW (mCons (mVar 0) (mNil))) (mVar 2))))))))
def M_law_is_told : PF := mFun 2 6 B_law_is_told
def Blaw : MS := sSeq (sAsg (mDef M_law_reel (mCons (mVar 0) (mNil))) (gSet 1)) (sSeq (sFor (mRng1 (mCons (mC (.int 8)) (mNil))) (gSet 2) (sSeq (sAsg (mDef M_law_skeleton (mCons (mVar 1) (mCons (mDef M_law_pick (mCons (mVar 1) (mCons (mLst (mCons (mC (.int 3)) (mCons (mC (.int 6)) (mCons (mC (.int 12)) (mCons (mC (.int 24)) (mNil)))))) (mNil)))) (mNil)))) (gSet 3)) (sSeq (sAsg (mLst (mCons (mVar 3) (mCons (mDef M_law_spoilt (mCons (mVar 1) (mCons (mVar 3) (mNil)))) (mCons (mDef M_law_spoilt (mCons (mVar 1) (mCons (mVar 3) (mNil)))) (mCons (mDef M_law_spoilt (mCons (mVar 1) (mCons (mVar 3) (mNil)))) (mNil)))))) (gSet 4)) (sSeq (sAsg (mDef M_law_spoilt (mCons (mVar 1) (mCons (mVar 3) (mNil)))) (gSet 5)) (sSeq (sIf (mOrT (mTest (mBin (isW false) (mDef M_law_fault (mCons (mVar 5) (mNil))) (mC .non))) (mTest (mBin eqOp (mBin getW (mDef M_law_fault (mCons (mVar 5) (mNil))) (mC (.int 0))) (mC (.str "goal"))))) (sAsg (mDef M_law_spoilt (mCons (mVar 1) (mCons (mVar 5) (mNil)))) (gSet 5)) (sNext)) (sFor (mSeq (mBin addW (mVar 4) (mLst (mCons (mVar 5) (mNil))))) (gSet 6) (sIf (mNotT (mTru (mDef M_law_is_told (mCons (mVar 6) (mCons (mBin eqOp (mBin modW (mVar 2) (mC (.int 3))) (mC (.int 1))) (mNil)))))) (sRet (mC (.bl false))) (sNext)))))))) (sSeq (sAsg (mBin addW (mBin addW (mTup (mCons (mTup (mCons (mC (.str "label")) (mNil))) (mNil))) (mBin mulW (mTup (mCons (mTup (mCons (mC (.str "jump")) (mCons (mC (.int 0)) (mCons (mC (.int 1)) (mCons (mC (.int 999)) (mNil)))))) (mNil))) (mC (.int 8)))) (mBin mulW (mTup (mCons (mTup (mCons (mC (.str "fill")) (mCons (mC (.int 64)) (mNil)))) (mNil))) (mC (.int 15)))) (gSet 7)) (sSeq (sAsg (mLst (mCons (mVar 7) (mCons (mBin addW (mVar 7) (mTup (mCons (mTup (mCons (mC (.str "label")) (mNil))) (mNil)))) (mCons (mBin addW (mCut (mVar 7) (mNoPart) (mPart (mC (.int 9)))) (mTup (mCons (mTup (mCons (mC (.str "jump")) (mCons (mC (.int 0)) (mCons (mC (.int 1)) (mCons (mC (.int 2)) (mNil)))))) (mNil)))) (mCons (mTup (mCons (mTup (mCons (mC (.str "jump")) (mCons (mC (.int 0)) (mCons (mC (.int 1)) (mCons (mC (.int 2)) (mNil)))))) (mNil))) (mCons (mTup (mCons (mTup (mCons (mC (.str "fill")) (mCons (mC (.int 2)) (mNil)))) (mNil))) (mCons (mTup (mCons (mTup (mCons (mC (.str "label")) (mNil))) (mNil))) (mNil)))))))) (gSet 8)) (sSeq (sAsg (mBin addW (mVar 8) (mLst (mCons (mBin addW (mBin mulW (mTup (mCons (mTup (mCons (mC (.str "label")) (mNil))) (mNil))) (mC (.int 24))) (mTup (mCons (mC .non) (mNil)))) (mCons (mBin addW (mTup (mCons (mTup (mCons (mC (.str "fill")) (mCons (mC (.int 3)) (mNil)))) (mNil))) (mVar 7)) (mCons (mBin addW (mCut (mVar 7) (mNoPart) (mPart (mC (.int 5)))) (mTup (mCons (mTup (mCons (mC (.str "fill")) (mCons (mC (.int 3)) (mNil)))) (mCons (mC .non) (mCons (mTup (mCons (mC (.str "jump")) (mCons (mC (.int 9)) (mCons (mC (.int 1)) (mCons (mC (.int 2)) (mNil)))))) (mNil)))))) (mNil)))))) (gSet 8)) (sRet (mBin eqOp (mLc (mSeq (mVar 8)) (gSet 6) (mNotT (mTru (mDef M_law_is_told (mCons (mVar 6) (mCons (mC (.bl false)) (mNil)))))) (mVar 6) [6]) (mLst (mNil))))))))
def Mlaw : PF := mFun 1 9 Blaw
end NS
/- part S1 -/
set_option maxHeartbeats 1000000
namespace NS
open PySem PySem.Spec PyProof.Rows L2 PL
/-! ### the reel -/
def reelD (d c : Nat) (s k : Int) : List (Key × W) := [(.inr "deep", .ref d), (.inr "cells", .ref c), (.inr "stamp", .int s), (.inr "count", .int k)]
structure RI (r d c : Nat) (G : Cells) : Prop where
  ex : ∃ (s k : Int) (ds cs : List Int), r ≠ d ∧ c ≠ r ∧ c ≠ d ∧ G[r]? = some (.dct (reelD d c s k)) ∧
    G[d]? = some (.lst (ds.map W.int)) ∧ ds.length ≤ 70 ∧ G[c]? = some (.lst (cs.map W.int)) ∧ cs ≠ [] ∧ cs.length ≤ 100 ∧ 0 ≤ s ∧ s < 2 ^ 32
theorem RI.keep {r d c : Nat} {G G' : Cells} (h : RI r d c G) (f : Fr [] G G') : RI r d c G' := by
  obtain ⟨s, k, ds, cs, h1, h2, h3, g1, g2, h4, g3, h5⟩ := h.ex
  exact ⟨s, k, ds, cs, h1, h2, h3, f.get g1 (by simp), f.get g2 (by simp), h4, f.get g3 (by simp), h5⟩
theorem RI.lt {r d c : Nat} {G : Cells} (h : RI r d c G) : r < G.length ∧ d < G.length ∧ c < G.length ∧ r ≠ d ∧ c ≠ r ∧ c ≠ d := by
  obtain ⟨s, k, ds, cs, h1, h2, h3, g1, g2, h4, g3, h5⟩ := h.ex
  exact ⟨lt_of_get g1, lt_of_get g2, lt_of_get g3, h1, h2, h3⟩
theorem dat_int (G : Cells) (i : Int) : dat G 59 (.int i) = some (.int i) := rfl
theorem dat_ints {G : Cells} {n : Nat} {ds : List Int} (h : G[n]? = some (.lst (ds.map W.int))) : dat G 60 (.ref n) = some (.list (ds.map PyData.int)) := by
  have e : dat G 60 (.ref n) = (mapO (dat G 59) (ds.map W.int)).map PyData.list := by show (match G[n]? with | some (.lst ws) => _ | some (.rol ws) => _ | some (.dct kvs) => _ | none => _) = _; rw [h]
  have : ∀ ds : List Int, mapO (dat G 59) (ds.map W.int) = some (ds.map PyData.int) := by
    intro ds
    induction ds with
    | nil => rfl
    | cons x xs ih => simp only [List.map_cons, mapO, dat_int, ih]
  rw [e, this]; rfl
theorem shaped_ints (ds : List Int) : SeqAt.shaped (.list (ds.map PyData.int)) = true := by
  have h1 : PyData.canLayAll0 (ds.map PyData.int) = true ∧ PyData.depthAll (ds.map PyData.int) = 0 := by
    induction ds with
    | nil => exact ⟨rfl, rfl⟩
    | cons x xs ih => exact ⟨by simp only [List.map_cons, PyData.canLayAll0, PyData.canLay0, ih.1, Bool.and_self], by simp only [List.map_cons, PyData.depthAll, PyData.depth, ih.2, Nat.max_self]⟩
  simp only [SeqAt.shaped, PyData.canLay0, PyData.depth, h1.1, h1.2]; decide
theorem ne_ints {G : Cells} {n m : Nat} {ds : List Int} (h : G[n]? = some (.lst (ds.map W.int))) (h' : G[m]? = some (.lst [])) : neOp G (.ref n) (.ref m) = .ok (.bl (!ds.isEmpty)) G := by
  have e1 := dat_ints h
  have e2 := dat_ints (ds := []) h'
  have q : neOp G (.ref n) (.ref m) = (match dat G 60 (.ref n), dat G 60 (.ref m) with
    | some d, some e => if SeqAt.shaped d && SeqAt.shaped e then .ok (.bl (!PyData.eqv d e)) G else .no
    | _, _ => .no) := rfl
  rw [q, e1, e2]
  simp only [shaped_ints, List.map_nil]
  have : SeqAt.shaped (.list []) = true := shaped_ints []
  rw [this]
  cases ds <;> simp [PyData.eqv, PyData.eqvAll]
section
variable {G : Cells} {r d c : Nat} {s k : Int}
theorem g_of {w : W} {x : Str} (h : G[r]? = some (.dct (reelD d c s k))) (hv : valW (reelD d c s k) (.inr x) = some w) : getW G (.ref r) (.str x) = .ok w G := by
  unfold getW; simp only [h, keyW, hv]
theorem g_deep (h : G[r]? = some (.dct (reelD d c s k))) : getW G (.ref r) (.str "deep") = .ok (.ref d) G := g_of h rfl
theorem g_cells (h : G[r]? = some (.dct (reelD d c s k))) : getW G (.ref r) (.str "cells") = .ok (.ref c) G := g_of h rfl
theorem g_stamp (h : G[r]? = some (.dct (reelD d c s k))) : getW G (.ref r) (.str "stamp") = .ok (.int s) G := g_of h rfl
theorem g_count (h : G[r]? = some (.dct (reelD d c s k))) : getW G (.ref r) (.str "count") = .ok (.int k) G := g_of h rfl
theorem p_count {j : Int} (h : G[r]? = some (.dct (reelD d c s k))) : putOp r (.str "count") (.int j) G = some (G.set r (.dct (reelD d c s j))) := by
  unfold putOp
  simp only [h, keyW]
  have hl : (reelD d c s k).length < sizeLine := by show 4 < sizeLine; decide +kernel
  rw [if_pos hl]
  rfl
end
theorem add_int (G : Cells) (i j : Int) : addW G (.int i) (.int j) = .ok (.int (i + j)) G := rfl
theorem sub_int (G : Cells) (i j : Int) : subW G (.int i) (.int j) = .ok (.int (i - j)) G := rfl
theorem mul_int {G : Cells} {i j : Int} (h : mulOk i j = true) : mulW G (.int i) (.int j) = .ok (.int (i * j)) G := by show (if mulOk i j = true then _ else _) = _; rw [if_pos h]
theorem mod_int {G : Cells} {i j : Int} (h : 0 < j) : modW G (.int i) (.int j) = .ok (.int (i % j)) G := by show (if 0 < j then _ else _) = _; rw [if_pos h]
theorem div_int {G : Cells} {i j : Int} (h : 0 < j) (h' : j < 1073741824) : fdivW G (.int i) (.int j) = .ok (.int (i / j)) G := by show (if 0 < j ∧ j < 1073741824 then _ else _) = _; rw [if_pos ⟨h, h'⟩]
theorem int_int (G : Cells) (i : Int) : intW G [.int i] = .ok (.int i) G := rfl
theorem len_lst {G : Cells} {n : Nat} {xs : List W} (h : G[n]? = some (.lst xs)) : lenW G [.ref n] = .ok (.int xs.length) G := by unfold lenW; simp only [h]
theorem len_tup (G : Cells) (xs : List W) : lenW G [.tup xs] = .ok (.int xs.length) G := rfl
theorem atI_of {xs : List W} {i : Int} (h1 : 0 ≤ i) (h2 : i < xs.length) : ∃ w, xs[i.toNat]? = some w ∧ L2.atI xs i = some w := by
  have hl : i.toNat < xs.length := by omega
  refine ⟨xs[i.toNat], List.getElem?_eq_getElem hl, ?_⟩
  unfold L2.atI L2.ixN
  rw [if_pos h1, if_pos h2]
  exact List.getElem?_eq_getElem hl
theorem get_lst {G : Cells} {n : Nat} {xs : List W} {i : Int} (h : G[n]? = some (.lst xs)) (h1 : 0 ≤ i) (h2 : i < xs.length) : ∃ w, xs[i.toNat]? = some w ∧ getW G (.ref n) (.int i) = .ok w G := by
  obtain ⟨w, e1, e2⟩ := atI_of h1 h2
  refine ⟨w, e1, ?_⟩
  unfold getW; simp only [h, e2]
theorem get_tup {G : Cells} {xs : List W} {i : Int} (h1 : 0 ≤ i) (h2 : i < xs.length) : ∃ w, xs[i.toNat]? = some w ∧ getW G (.tup xs) (.int i) = .ok w G := by
  obtain ⟨w, e1, e2⟩ := atI_of h1 h2
  refine ⟨w, e1, ?_⟩
  unfold getW; simp only [e2]
theorem mulOk_l {i j : Int} (h : -(2 ^ 64) < i ∧ i < 2 ^ 64) : mulOk i j = true := by unfold mulOk; rw [decide_eq_true h.1, decide_eq_true h.2]; rfl
theorem mulOk_r {i j : Int} (h : -(2 ^ 64) < j ∧ j < 2 ^ 64) : mulOk i j = true := by unfold mulOk; rw [decide_eq_true h.1, decide_eq_true h.2]; simp
def B_draw2 : MS := (sSeq (sAsg (mBin addW (mBin getW (mVar 0) (mC (.str "count"))) (mC (.int 1))) (gPut (mVar 0) (mC (.str "count")))) (sSeq (sPar 4 5 (mCons (mBin getW (mVar 0) (mC (.str "count"))) (mCons (mBin getW (mVar 0) (mC (.str "cells"))) (mNil)))) (sSeq (sAsg (mBin modW (mCall intW (mCons (mBin addW (mBin addW (mBin mulW (mBin getW (mVar 5) (mBin modW (mCall intW (mCons (mBin mulW (mVar 4) (mC (.int 7))) (mNil))) (mCall lenW (mCons (mVar 5) (mNil))))) (mC (.int 2246822519))) (mBin getW (mVar 0) (mC (.str "stamp")))) (mBin mulW (mVar 4) (mC (.int 3266489917)))) (mNil))) (mC (.int 4294967291))) (gSet 6)) (sSeq (sFor (mRng1 (mCons (mC (.int 2)) (mNil))) (gSet 7) (sAsg (mBin modW (mCall intW (mCons (mBin addW (mBin mulW (mVar 6) (mVar 6)) (mBin mulW (mBin getW (mVar 0) (mC (.str "stamp"))) (mBin addW (mVar 4) (mVar 7)))) (mNil))) (mC (.int 4294967279))) (gSet 6))) (sRet (mBin modW (mCall intW (mCons (mBin fdivW (mVar 6) (mC (.int 512))) (mNil))) (mVar 1)))))))
theorem draw2_ok {r d c : Nat} {G : Cells} {many : Int} (h : RI r d c G) (h1 : 1 ≤ many) (h2 : many < 2 ^ 30) {N : PEnv → Cells → Prop} :
    (B_draw2 [some (.ref r), some (.int many), some (.ref d), none, none, none, none, none] G).sat N fun w G' => (∃ i, w = .int i ∧ 0 ≤ i ∧ i < many) ∧ RI r d c G' ∧ Fr [r, d] G G' := by
  obtain ⟨s, k, ds, cs, n1, n2, n3, g1, g2, l1, g3, l2, l3, s1, s2⟩ := h.ex
  have fr : Fr [r, d] G (G.set r (.dct (reelD d c s (k + 1)))) := Fr.set (by simp)
  have q1 : (G.set r (.dct (reelD d c s (k + 1))))[r]? = some (.dct (reelD d c s (k + 1))) := by rw [List.getElem?_set]; simp [lt_of_get g1]
  have q2 : (G.set r (.dct (reelD d c s (k + 1))))[d]? = some (.lst (ds.map W.int)) := by rw [List.getElem?_set_ne n1]; exact g2
  have q3 : (G.set r (.dct (reelD d c s (k + 1))))[c]? = some (.lst (cs.map W.int)) := by rw [List.getElem?_set_ne (Ne.symm n2)]; exact g3
  have hr : RI r d c (G.set r (.dct (reelD d c s (k + 1)))) := ⟨s, k + 1, ds, cs, n1, n2, n3, q1, q2, l1, q3, l2, l3, s1, s2⟩
  unfold B_draw2
  refine so_seq (so_asg ?_)
  simp only [s_bin, s_var, s_c, g_count g1, List.getElem?_cons_zero, Option.some.injEq, exists_eq_left', sat_ok, add_int, gPut, mVar, mC, Rs.bind_ok, p_count g1]
  generalize (G.set r (.dct (reelD d c s (k + 1)))) = G1 at *
  generalize k + 1 = k1 at *
  have hcl : 0 < cs.length := List.length_pos_iff.mpr l2
  refine so_seq (so_par ?_)
  simp only [s_cons, s_nil, s_bin, s_var, s_c, g_count q1, g_cells q1, List.getElem?_cons_zero, Option.some.injEq, exists_eq_left', sat_ok]
  refine ⟨_, _, rfl, ?_⟩
  simp only [List.set_cons_succ, List.set_cons_zero]
  refine so_seq (so_set ?_)
  obtain ⟨x, hx1, hx2⟩ := get_lst (i := (k1 * 7) % (cs.map W.int).length) q3 (Int.emod_nonneg _ (by simp; omega)) (Int.emod_lt_of_pos _ (by simp; omega))
  obtain ⟨xi, rfl⟩ : ∃ xi, x = .int xi := by
    rw [List.getElem?_map] at hx1
    cases he : cs[((k1 * 7) % (cs.map W.int).length).toNat]? with
    | none => rw [he] at hx1; cases hx1
    | some y => rw [he] at hx1; exact ⟨y, (Option.some.inj hx1).symm⟩
  simp only [s_bin, s_call, s_cons, s_nil, s_var, s_c, g_stamp q1, List.getElem?_cons_zero, List.getElem?_cons_succ, Option.some.injEq, exists_eq_left', sat_ok, add_int, mul_int (mulOk_r (i := k1) (j := 7) (by decide)), int_int, len_lst q3, mod_int (show (0 : Int) < ((cs.map W.int).length : Int) from by simp; omega), hx2, mul_int (mulOk_r (j := 2246822519) (by decide)), mul_int (mulOk_r (j := 3266489917) (by decide)), mod_int (show (0 : Int) < 4294967291 from by decide), List.set_cons_succ, List.set_cons_zero]
  generalize hm : (xi * 2246822519 + s + k1 * 3266489917) % 4294967291 = m0
  have m1 : 0 ≤ m0 := hm ▸ Int.emod_nonneg _ (by decide)
  have m2 : m0 < 4294967291 := hm ▸ Int.emod_lt_of_pos _ (by decide)
  refine so_seq (so_for [.int 0, .int 1] (fun i E G2 => G2 = G1 ∧ ∃ m7 m, 0 ≤ m ∧ m < 4294967296 ∧ E = [some (.ref r), some (.int many), some (.ref d), none, some (.int k1), some (.ref c), some (.int m), m7]) ?_ ?_ ?_)
  · simp only [s_rng1, s_c, W.int.injEq, exists_eq_left']
    refine ⟨by decide, rfl, ⟨trivial, none, m0, m1, by omega, rfl⟩, ?_⟩
    intro i E' G' _
    match i with
    | 0 => rfl
    | 1 => rfl
    | i + 2 => simp [PIt.at]
  · intro i w E G2 hw hI
    obtain ⟨rfl, m7, m, a1, a2, rfl⟩ := hI
    have : ∃ j : Int, w = .int j := by
      match i, hw with
      | 0, hw => exact ⟨0, (Option.some.inj hw).symm⟩
      | 1, hw => exact ⟨1, (Option.some.inj hw).symm⟩
    obtain ⟨j, rfl⟩ := this
    show (sAsg _ (gSet 6) [some (.ref r), some (.int many), some (.ref d), none, some (.int k1), some (.ref c), some (.int m), some (.int j)] G2).sat _ _
    refine so_set ?_
    simp only [s_bin, s_call, s_cons, s_nil, s_var, s_c, g_stamp q1, List.getElem?_cons_zero, List.getElem?_cons_succ, Option.some.injEq, exists_eq_left', sat_ok, add_int, int_int, mul_int (mulOk_l (i := m) (j := m) (by omega)), mul_int (mulOk_l (i := s) (j := k1 + j) (by omega)), mod_int (show (0 : Int) < 4294967279 from by decide), List.set_cons_succ, List.set_cons_zero]
    refine ⟨trivial, some (.int j), _, Int.emod_nonneg _ (by decide), ?_, rfl⟩
    exact Int.lt_trans (Int.emod_lt_of_pos _ (by decide)) (by decide)
  · intro E G2 hI
    obtain ⟨rfl, m7, m, a1, a2, rfl⟩ := hI
    refine so_ret ?_
    simp only [s_bin, s_call, s_cons, s_nil, s_var, s_c, List.getElem?_cons_zero, List.getElem?_cons_succ, Option.some.injEq, exists_eq_left', sat_ok, int_int, div_int (show (0 : Int) < 512 from by decide) (by decide), mod_int (show 0 < many from by omega)]
    exact ⟨⟨_, rfl, Int.emod_nonneg _ (by omega), Int.emod_lt_of_pos _ (by omega)⟩, hr, fr⟩
theorem draw_ok {r d c : Nat} {G : Cells} {many : Int} (h : RI r d c G) (h1 : 1 ≤ many) (h2 : many < 2 ^ 30) :
    (M_law_draw [.ref r, .int many] G).sat fun w G' => (∃ i, w = .int i ∧ 0 ≤ i ∧ i < many) ∧ RI r d c G' ∧ Fr [r, d] G G' := by
  obtain ⟨s, k, ds, cs, n1, n2, n3, g1, g2, l1, g3, l2, l3, s1, s2⟩ := h.ex
  refine fun_sat rfl ?_
  show (B_law_draw [some (.ref r), some (.int many), none, none, none, none, none, none] G).sat _ _
  refine so_seq (so_set ?_)
  simp only [s_bin, s_var, s_c, g_deep g1, List.getElem?_cons_zero, Option.some.injEq, exists_eq_left', sat_ok, List.set_cons_succ, List.set_cons_zero]
  refine so_seq (so_if ?_)
  simp only [s_andT, s_test, s_bin, s_var, s_c, s_lst, s_nil, List.getElem?_cons_zero, List.getElem?_cons_succ, Option.some.injEq, exists_eq_left', sat_ok, List.length_nil, Nat.zero_le, true_and]
  have f1 : Fr [] G (G ++ [.lst []]) := Fr.push
  have hr := h.keep f1
  have g1' := f1.get g1 (by simp)
  have g2' := f1.get g2 (by simp)
  have g3' := f1.get g3 (by simp)
  rw [ne_ints (f1.get g2 (by simp)) (by simp)]
  have f1' : Fr [r, d] G (G ++ [.lst []]) := f1.of_nil
  generalize G ++ [.lst []] = G1 at *
  have tail := (draw2_ok (N := fun x G' => (∃ i, W.non = W.int i ∧ 0 ≤ i ∧ i < many) ∧ RI r d c G' ∧ PL.Fr [r, d] G G') hr h1 h2).mono (fun _ _ h => h) (R' := fun w G' => (∃ i, w = W.int i ∧ 0 ≤ i ∧ i < many) ∧ RI r d c G' ∧ PL.Fr [r, d] G G') fun w G' q => ⟨q.1, q.2.1, f1'.trans q.2.2⟩
  simp only [sat_ok, W.bl.injEq, exists_eq_left', cmpI]
  have hif : ∀ {c : Prop} [Decidable c] {A B : Prop}, (c → A) → (¬c → B) → if c then A else B := fun {c} _ {A B} f g => by by_cases hc : c <;> simp only [hc, if_true, if_false]; exact f hc; exact g hc
  refine hif (fun hd => hif (fun hm => ?_) fun hm => ?_) fun hd => ?_
  · have hne : ds ≠ [] := by rintro rfl; cases hd
    have hl : 0 < ds.length := List.length_pos_iff.mpr hne
    obtain ⟨rest, hrest⟩ : ∃ y, ds[ds.length - 1]? = some y := ⟨ds[ds.length - 1]'(by omega), List.getElem?_eq_getElem (by omega)⟩
    have hp : popW G1 (.ref d) [] = .ok (.int rest) (G1.set d (.lst (ds.dropLast.map W.int))) := by
      unfold popW
      simp only [g2', List.length_map, List.getElem?_map, hrest, Option.map_some, List.map_dropLast]
    have hd2 : (G1.set d (.lst (ds.dropLast.map W.int)))[d]? = some (.lst (ds.dropLast.map W.int)) := by rw [List.getElem?_set]; simp [lt_of_get g2']
    have fr2 : Fr [r, d] G1 (G1.set d (.lst (ds.dropLast.map W.int))) := Fr.set (by simp)
    have k1 : (G1.set d (.lst (ds.dropLast.map W.int)))[r]? = some (.dct (reelD d c s k)) := by rw [List.getElem?_set_ne (Ne.symm n1)]; exact g1'
    have k3 : (G1.set d (.lst (ds.dropLast.map W.int)))[c]? = some (.lst (cs.map W.int)) := by rw [List.getElem?_set_ne (Ne.symm n3)]; exact g3'
    have hty : isTy "list" G1 (.ref d) = true := by unfold isTy; simp only [g2']; decide
    refine so_seq (so_set ?_)
    simp only [s_meth, s_var, s_nil, List.getElem?_cons_zero, List.getElem?_cons_succ, Option.some.injEq, exists_eq_left', hty, true_and, hp, sat_ok, List.set_cons_succ, List.set_cons_zero]
    generalize hG2 : G1.set d (.lst (ds.dropLast.map W.int)) = G2 at *
    have hr2 : RI r d c G2 := ⟨s, k, ds.dropLast, cs, n1, n2, n3, k1, hd2, by simp; omega, k3, l2, l3, s1, s2⟩
    have fin : ∀ G3, RI r d c G3 → Fr [r, d] G2 G3 → (sRet (mBin modW (mCall intW (mCons (mVar 3) mNil)) (mVar 1)) [some (.ref r), some (.int many), some (.ref d), some (.int rest), none, none, none, none] G3).sat (fun E1 G1 => False) fun w G' => (∃ i, w = .int i ∧ 0 ≤ i ∧ i < many) ∧ RI r d c G' ∧ Fr [r, d] G G' := by
      intro G3 hr3 f3
      refine so_ret ?_
      simp only [s_bin, s_call, s_cons, s_nil, s_var, List.getElem?_cons_zero, List.getElem?_cons_succ, Option.some.injEq, exists_eq_left', sat_ok, int_int, mod_int (show 0 < many from by omega)]
      exact ⟨⟨_, rfl, Int.emod_nonneg _ (by omega), Int.emod_lt_of_pos _ (by omega)⟩, hr3, f1'.trans (fr2.trans f3)⟩
    refine so_seq (so_if ?_)
    simp only [s_test, s_bin, s_var, List.getElem?_cons_zero, List.getElem?_cons_succ, Option.some.injEq, exists_eq_left', cmpI, sat_ok, W.bl.injEq]
    refine hif (fun hc => ?_) fun hc => ?_
    · refine so_expr ?_
      have hty2 : isTy "list" G2 (.ref d) = true := by unfold isTy; simp only [hd2]; decide
      simp only [s_meth, s_bin, s_cons, s_nil, s_var, List.getElem?_cons_zero, List.getElem?_cons_succ, Option.some.injEq, exists_eq_left', hty2, true_and, div_int (show 0 < many from by omega) (show many < 1073741824 from by omega), sat_ok]
      have ha : appendW G2 (.ref d) [.int (rest / many)] = .ok .non (G2.set d (.lst ((ds.dropLast ++ [rest / many]).map W.int))) := by
        unfold appendW
        have : (ds.dropLast.map W.int).length < sizeLine := by simp only [List.length_map, List.length_dropLast]; have : 70 < sizeLine := by decide +kernel
                                                               omega
        simp only [hd2, this, if_true, List.map_append, List.map_cons, List.map_nil]
      rw [ha, sat_ok]
      have j1 : (G2.set d (.lst ((ds.dropLast ++ [rest / many]).map W.int)))[r]? = some (.dct (reelD d c s k)) := by rw [List.getElem?_set_ne (Ne.symm n1)]; exact k1
      have j2 : (G2.set d (.lst ((ds.dropLast ++ [rest / many]).map W.int)))[d]? = some (.lst ((ds.dropLast ++ [rest / many]).map W.int)) := by rw [List.getElem?_set]; simp [lt_of_get hd2]
      have j3 : (G2.set d (.lst ((ds.dropLast ++ [rest / many]).map W.int)))[c]? = some (.lst (cs.map W.int)) := by rw [List.getElem?_set_ne (Ne.symm n3)]; exact k3
      exact (fin _ ⟨s, k, _, cs, n1, n2, n3, j1, j2, by simp; omega, j3, l2, l3, s1, s2⟩ (Fr.set (by simp))).mono (fun _ _ h => h.elim) fun _ _ h => h
    · exact so_nx ((fin G2 hr2 Fr.refl).mono (fun _ _ h => h.elim) fun _ _ h => h)
  · exact tail
  · exact tail
theorem pick_ok {r d c n : Nat} {G : Cells} {xs : List W} (h : RI r d c G) (hx : G[n]? = some (.lst xs)) (hr : n ≠ r) (hd : n ≠ d) (h1 : 1 ≤ xs.length) (h2 : xs.length < 2 ^ 30) :
    (M_law_pick [.ref r, .ref n] G).sat fun w G' => w ∈ xs ∧ RI r d c G' ∧ Fr [r, d] G G' := by
  refine fun_sat rfl ?_
  show (B_law_pick [some (.ref r), some (.ref n)] G).sat _ _
  refine so_ret ?_
  simp only [s_bin, s_def, s_call, s_cons, s_nil, s_var, List.getElem?_cons_zero, List.getElem?_cons_succ, Option.some.injEq, exists_eq_left', len_lst hx, sat_ok]
  refine (draw_ok h (by omega) (by omega)).mono fun w G1 q => ?_
  obtain ⟨⟨i, rfl, i1, i2⟩, h1, f⟩ := q
  obtain ⟨w, e1, e2⟩ := get_lst (f.get hx (by simp [hr, hd])) i1 i2
  rw [e2]
  exact ⟨List.mem_of_getElem? e1, h1, f⟩
/-- another cell is written -/
theorem RI.setOther {r d c t : Nat} {G : Cells} {x : Cell} (h : RI r d c G) (h1 : t ≠ r) (h2 : t ≠ d) (h3 : t ≠ c) : RI r d c (G.set t x) := by
  obtain ⟨s, k, ds, cs, n1, n2, n3, q1, q2, l1, q3, l2⟩ := h.ex
  exact ⟨s, k, ds, cs, n1, n2, n3, by rw [List.getElem?_set_ne h1]; exact q1, by rw [List.getElem?_set_ne h2]; exact q2, l1, by rw [List.getElem?_set_ne h3]; exact q3, l2⟩
end NS
/- part S2 -/
set_option maxHeartbeats 1000000
namespace NS
open PySem PySem.Spec PyProof.Rows L2 PL
theorem ls7 : (7 : Nat) ≤ sizeLine := by decide +kernel
theorem le_line {n : Nat} (h : n ≤ 1000) : n ≤ sizeLine := Nat.le_trans h (by decide +kernel)
theorem RI.push {r d c : Nat} {G : Cells} {x : Cell} (h : RI r d c G) : RI r d c (G ++ [x]) := h.keep Fr.push
theorem push_get (G : Cells) (c : Cell) : (G ++ [c])[G.length]? = some c := by simp
theorem sizes_ok {r d c : Nat} {G : Cells} (h : RI r d c G) :
    (M_law_sizes [.ref r] G).sat fun w G' => (∃ a b : Int, w = .tup [.int a, .int b] ∧ 1 ≤ a ∧ a ≤ 998 ∧ a < b ∧ b ≤ 999) ∧ RI r d c G' ∧ Fr [r, d] G G' := by
  refine fun_sat rfl ?_
  show (B_law_sizes [some (.ref r), none] G).sat _ _
  refine so_seq (so_set ?_)
  simp only [s_bin, s_def, s_call, s_cons, s_nil, s_var, s_c, s_lst, s_tup, s_test, s_notT, s_andT, s_orT, s_if, s_neg, List.getElem?_cons_zero, List.getElem?_cons_succ, Option.some.injEq, exists_eq_left', sat_ok, add_int, sub_int, List.set_cons_succ, List.set_cons_zero, List.length_cons, List.length_nil]
  refine (draw_ok h (by decide) (by decide)).mono fun w G1 q => ?_
  obtain ⟨⟨i, rfl, i1, i2⟩, h1, f1⟩ := q
  simp only [s_bin, s_def, s_call, s_cons, s_nil, s_var, s_c, s_lst, s_tup, s_test, s_notT, s_andT, s_orT, s_if, s_neg, List.getElem?_cons_zero, List.getElem?_cons_succ, Option.some.injEq, exists_eq_left', sat_ok, add_int, sub_int, List.set_cons_succ, List.set_cons_zero, List.length_cons, List.length_nil]
  refine ⟨le_line (by decide), ?_⟩
  have hl := h1.lt
  refine (pick_ok h1.push (push_get _ _) (by omega) (by omega) (by simp) (by simp)).mono fun w G2 q => ?_
  obtain ⟨hw, h2, f2⟩ := q
  obtain ⟨a, rfl, a1, a2⟩ : ∃ a, w = .int a ∧ 1 ≤ a ∧ a ≤ 998 := by
    simp only [List.mem_cons, List.not_mem_nil, or_false] at hw
    rcases hw with rfl | rfl | rfl | rfl | rfl | rfl | rfl <;> exact ⟨_, rfl, by omega, by omega⟩
  refine so_ret ?_
  simp only [s_bin, s_def, s_call, s_cons, s_nil, s_var, s_c, s_lst, s_tup, s_test, s_notT, s_andT, s_orT, s_if, s_neg, List.getElem?_cons_zero, List.getElem?_cons_succ, Option.some.injEq, exists_eq_left', sat_ok, add_int, sub_int, List.set_cons_succ, List.set_cons_zero, List.length_cons, List.length_nil]
  refine (draw_ok h2 (by omega) (by omega)).mono fun w G3 q => ?_
  obtain ⟨⟨j, rfl, j1, j2⟩, h3, f3⟩ := q
  simp only [s_bin, s_def, s_call, s_cons, s_nil, s_var, s_c, s_lst, s_tup, s_test, s_notT, s_andT, s_orT, s_if, s_neg, List.getElem?_cons_zero, List.getElem?_cons_succ, Option.some.injEq, exists_eq_left', sat_ok, add_int, sub_int, List.set_cons_succ, List.set_cons_zero, List.length_cons, List.length_nil]
  refine ⟨le_line (by decide), ?_⟩
  have hl3 := h3.lt
  refine (pick_ok h3.push (push_get _ _) (by omega) (by omega) (by simp) (by simp)).mono fun w G4 q => ?_
  obtain ⟨hw, h4, f4⟩ := q
  simp only [List.mem_cons, List.not_mem_nil, or_false] at hw
  refine ⟨le_line (by decide), ⟨a, ?_⟩, h4, f1.trans (Fr.push.trans (f2.trans (f3.trans (Fr.push.trans f4))))⟩
  rcases hw with rfl | rfl | rfl <;> exact ⟨_, rfl, by omega, by omega, by omega, by omega⟩
theorem isTy_lst {G : Cells} {t : Nat} {xs : List W} (h : G[t]? = some (.lst xs)) : isTy "list" G (.ref t) = true := by unfold isTy; simp only [h]; decide
theorem append_lst {G : Cells} {t : Nat} {xs : List W} {w : W} (h : G[t]? = some (.lst xs)) (hl : xs.length < 1000) : appendW G (.ref t) [w] = .ok .non (G.set t (.lst (xs ++ [w]))) := by
  have : xs.length < sizeLine := Nat.lt_of_lt_of_le hl (by decide +kernel)
  unfold appendW; simp only [h, this, if_true]
theorem set_get {G : Cells} {t : Nat} {c c' : Cell} (h : G[t]? = some c) : (G.set t c')[t]? = some c' := by rw [List.getElem?_set]; simp [lt_of_get h]
def kd (x : Str) : Prop := x = "label" ∨ x = "fill" ∨ x = "jump"
theorem kd_ok {x : Str} (h : kd x) : PyData.strOk x = true := by rcases h with rfl | rfl | rfl <;> decide +kernel
theorem in_strs {G : Cells} {n : Nat} {ks : List Str} {x : Str} (h : G[n]? = some (.lst (ks.map W.str))) (hk : ∀ y ∈ ks, PyData.strOk y = true) (hx : PyData.strOk x = true) : inW true G (.str x) (.ref n) = .ok (.bl (!decide (x ∈ ks))) G := by
  have e : dat G 60 (.ref n) = (mapO (dat G 59) (ks.map W.str)).map PyData.list := by show (match G[n]? with | some (.lst ws) => _ | some (.rol ws) => _ | some (.dct kvs) => _ | none => _) = _; rw [h]
  have e2 : ∀ ks : List Str, mapO (dat G 59) (ks.map W.str) = some (ks.map PyData.str) := by
    intro ks
    induction ks with
    | nil => rfl
    | cons x xs ih =>
      have : dat G 59 (.str x) = some (.str x) := rfl
      simp only [List.map_cons, mapO, this, ih]
  have h1 : ∀ ks : List Str, (∀ y ∈ ks, PyData.strOk y = true) → PyData.canLayAll0 (ks.map PyData.str) = true ∧ PyData.depthAll (ks.map PyData.str) = 0 := by
    intro ks hk
    induction ks with
    | nil => exact ⟨rfl, rfl⟩
    | cons x xs ih =>
      have ih := ih fun y hy => hk y (List.mem_cons_of_mem _ hy)
      exact ⟨by simp only [List.map_cons, PyData.canLayAll0, PyData.canLay0, ih.1, hk x List.mem_cons_self, Bool.and_self], by simp only [List.map_cons, PyData.depthAll, PyData.depth, ih.2, Nat.max_self]⟩
  have h2 : SeqAt.shaped (.list (ks.map PyData.str)) = true := by
    simp only [SeqAt.shaped, PyData.canLay0, PyData.depth, (h1 ks hk).1, (h1 ks hk).2]; rfl
  have h3 : SeqAt.shaped (.str x) = true := by
    simp only [SeqAt.shaped, PyData.canLay0, PyData.depth, hx]; rfl
  have h4 : dat G 60 (.str x) = some (.str x) := rfl
  have h5 : (ks.map PyData.str).any (fun z => PyData.eqv z (.str x)) = decide (x ∈ ks) := by
    rw [Bool.eq_iff_iff]
    simp only [List.any_eq_true, List.mem_map, decide_eq_true_eq]
    constructor
    · rintro ⟨_, ⟨y, hy, rfl⟩, hz⟩
      rw [PyData.eqv.eq_6] at hz
      have : y = x := by simpa using hz
      exact this ▸ hy
    · intro hy
      exact ⟨_, ⟨x, hy, rfl⟩, by rw [PyData.eqv.eq_6]; simp⟩
  rw [e2] at e
  unfold inW
  rw [h4, e]
  simp only [Option.map_some, itemsD, h2, h3, Bool.and_self, if_true, h5]
def itm (w : W) : Prop := w = .tup [.str "label"] ∨ (∃ i, w = .tup [.str "fill", .int i] ∧ -1000 ≤ i ∧ i ≤ 1000) ∨ ∃ t a b, w = .tup [.str "jump", .int t, .int a, .int b] ∧ smallI t = true ∧ 1 ≤ a ∧ a ≤ 999 ∧ 1 ≤ b ∧ b ≤ 999




end NS
/- part S3 -/
set_option maxHeartbeats 1000000
namespace NS
open PySem PySem.Spec PyProof.Rows L2 PL
theorem hif {c : Prop} [Decidable c] {A B : Prop} (f : c → A) (g : ¬c → B) : if c then A else B := by by_cases hc : c <;> simp only [hc, if_true, if_false]; exact f hc; exact g hc
def Bsk_2 : MS := sSeq (sAsg (mLc (mRng1 (mCons (mVar 2) (mNil))) (gSet 10) (mYes) (mDef M_law_pick (mCons (mVar 0) (mCons (mLst (mCons (mC (.str "label")) (mCons (mC (.str "label")) (mCons (mC (.str "fill")) (mCons (mC (.str "jump")) (mCons (mC (.str "jump")) (mNil))))))) (mNil)))) [10]) (gSet 3)) (sSeq (sIf (mTest (mBin (inW true) (mC (.str "label")) (mVar 3))) (sAsg (mC (.str "label")) (gPut (mVar 3) (mDef M_law_draw (mCons (mVar 0) (mCons (mVar 2) (mNil)))))) (sNext)) (sSeq (sAsg (mLc (mEnum (mCons (mVar 3) (mNil))) (gTupW 2 (gsCons 10 (gsCons 7 (gsNil)))) (mTest (mBin eqOp (mVar 7) (mC (.str "label")))) (mVar 10) [10, 7]) (gSet 4)) (sSeq (sPar 5 6 (mCons (mLst (mNil)) (mCons (mC (.int 8)) (mNil)))) (sSeq (sFor (mSeq (mVar 3)) (gSet 7) (sIf (mAndT (mTest (mBin eqOp (mVar 7) (mC (.str "jump")))) (mTest (mBin gtW (mVar 6) (mC (.int 0))))) (sSeq (sAsg (mDef M_law_sizes (mCons (mVar 0) (mNil))) (gTupW 2 (gsCons 8 (gsCons 9 (gsNil))))) (sSeq (sExpr (mMeth "list" appendW (mVar 5) (mCons (mTup (mCons (mC (.str "jump")) (mCons (mDef M_law_pick (mCons (mVar 0) (mCons (mVar 4) (mNil)))) (mCons (mVar 8) (mCons (mVar 9) (mNil)))))) (mNil)))) (sAsg (mBin subW (mVar 6) (mC (.int 1))) (gSet 6)))) (sExpr (mMeth "list" appendW (mVar 5) (mCons (mIf (mTest (mBin eqOp (mVar 7) (mC (.str "label")))) (mTup (mCons (mC (.str "label")) (mNil))) (mTup (mCons (mC (.str "fill")) (mCons (mDef M_law_pick (mCons (mVar 0) (mCons (mLst (mCons (mC (.int 2)) (mCons (mC (.int 4)) (mCons (mC (.int 8)) (mCons (mC (.int 16)) (mCons (mC (.int 32)) (mCons (mC (.int 64)) (mNil)))))))) (mNil)))) (mNil))))) (mNil)))))) (sRet (mCall tupleW (mCons (mVar 5) (mNil))))))))
def Bsk_3 : MS := sSeq (sIf (mTest (mBin (inW true) (mC (.str "label")) (mVar 3))) (sAsg (mC (.str "label")) (gPut (mVar 3) (mDef M_law_draw (mCons (mVar 0) (mCons (mVar 2) (mNil)))))) (sNext)) (sSeq (sAsg (mLc (mEnum (mCons (mVar 3) (mNil))) (gTupW 2 (gsCons 10 (gsCons 7 (gsNil)))) (mTest (mBin eqOp (mVar 7) (mC (.str "label")))) (mVar 10) [10, 7]) (gSet 4)) (sSeq (sPar 5 6 (mCons (mLst (mNil)) (mCons (mC (.int 8)) (mNil)))) (sSeq (sFor (mSeq (mVar 3)) (gSet 7) (sIf (mAndT (mTest (mBin eqOp (mVar 7) (mC (.str "jump")))) (mTest (mBin gtW (mVar 6) (mC (.int 0))))) (sSeq (sAsg (mDef M_law_sizes (mCons (mVar 0) (mNil))) (gTupW 2 (gsCons 8 (gsCons 9 (gsNil))))) (sSeq (sExpr (mMeth "list" appendW (mVar 5) (mCons (mTup (mCons (mC (.str "jump")) (mCons (mDef M_law_pick (mCons (mVar 0) (mCons (mVar 4) (mNil)))) (mCons (mVar 8) (mCons (mVar 9) (mNil)))))) (mNil)))) (sAsg (mBin subW (mVar 6) (mC (.int 1))) (gSet 6)))) (sExpr (mMeth "list" appendW (mVar 5) (mCons (mIf (mTest (mBin eqOp (mVar 7) (mC (.str "label")))) (mTup (mCons (mC (.str "label")) (mNil))) (mTup (mCons (mC (.str "fill")) (mCons (mDef M_law_pick (mCons (mVar 0) (mCons (mLst (mCons (mC (.int 2)) (mCons (mC (.int 4)) (mCons (mC (.int 8)) (mCons (mC (.int 16)) (mCons (mC (.int 32)) (mCons (mC (.int 64)) (mNil)))))))) (mNil)))) (mNil))))) (mNil)))))) (sRet (mCall tupleW (mCons (mVar 5) (mNil)))))))
def Bsk_4 : MS := sSeq (sAsg (mLc (mEnum (mCons (mVar 3) (mNil))) (gTupW 2 (gsCons 10 (gsCons 7 (gsNil)))) (mTest (mBin eqOp (mVar 7) (mC (.str "label")))) (mVar 10) [10, 7]) (gSet 4)) (sSeq (sPar 5 6 (mCons (mLst (mNil)) (mCons (mC (.int 8)) (mNil)))) (sSeq (sFor (mSeq (mVar 3)) (gSet 7) (sIf (mAndT (mTest (mBin eqOp (mVar 7) (mC (.str "jump")))) (mTest (mBin gtW (mVar 6) (mC (.int 0))))) (sSeq (sAsg (mDef M_law_sizes (mCons (mVar 0) (mNil))) (gTupW 2 (gsCons 8 (gsCons 9 (gsNil))))) (sSeq (sExpr (mMeth "list" appendW (mVar 5) (mCons (mTup (mCons (mC (.str "jump")) (mCons (mDef M_law_pick (mCons (mVar 0) (mCons (mVar 4) (mNil)))) (mCons (mVar 8) (mCons (mVar 9) (mNil)))))) (mNil)))) (sAsg (mBin subW (mVar 6) (mC (.int 1))) (gSet 6)))) (sExpr (mMeth "list" appendW (mVar 5) (mCons (mIf (mTest (mBin eqOp (mVar 7) (mC (.str "label")))) (mTup (mCons (mC (.str "label")) (mNil))) (mTup (mCons (mC (.str "fill")) (mCons (mDef M_law_pick (mCons (mVar 0) (mCons (mLst (mCons (mC (.int 2)) (mCons (mC (.int 4)) (mCons (mC (.int 8)) (mCons (mC (.int 16)) (mCons (mC (.int 32)) (mCons (mC (.int 64)) (mNil)))))))) (mNil)))) (mNil))))) (mNil)))))) (sRet (mCall tupleW (mCons (mVar 5) (mNil))))))
def Bsk_5 : MS := sSeq (sPar 5 6 (mCons (mLst (mNil)) (mCons (mC (.int 8)) (mNil)))) (sSeq (sFor (mSeq (mVar 3)) (gSet 7) (sIf (mAndT (mTest (mBin eqOp (mVar 7) (mC (.str "jump")))) (mTest (mBin gtW (mVar 6) (mC (.int 0))))) (sSeq (sAsg (mDef M_law_sizes (mCons (mVar 0) (mNil))) (gTupW 2 (gsCons 8 (gsCons 9 (gsNil))))) (sSeq (sExpr (mMeth "list" appendW (mVar 5) (mCons (mTup (mCons (mC (.str "jump")) (mCons (mDef M_law_pick (mCons (mVar 0) (mCons (mVar 4) (mNil)))) (mCons (mVar 8) (mCons (mVar 9) (mNil)))))) (mNil)))) (sAsg (mBin subW (mVar 6) (mC (.int 1))) (gSet 6)))) (sExpr (mMeth "list" appendW (mVar 5) (mCons (mIf (mTest (mBin eqOp (mVar 7) (mC (.str "label")))) (mTup (mCons (mC (.str "label")) (mNil))) (mTup (mCons (mC (.str "fill")) (mCons (mDef M_law_pick (mCons (mVar 0) (mCons (mLst (mCons (mC (.int 2)) (mCons (mC (.int 4)) (mCons (mC (.int 8)) (mCons (mC (.int 16)) (mCons (mC (.int 32)) (mCons (mC (.int 64)) (mNil)))))))) (mNil)))) (mNil))))) (mNil)))))) (sRet (mCall tupleW (mCons (mVar 5) (mNil)))))

abbrev SkPost (r d c : Nat) (G : Cells) : W → Cells → Prop := fun w G' => (∃ ws, w = .tup ws ∧ 1 ≤ ws.length ∧ ws.length ≤ 24 ∧ ∀ w ∈ ws, itm w) ∧ RI r d c G' ∧ Fr [r, d] G G'
theorem itm_fill {i : Int} (h1 : -1000 ≤ i) (h2 : i ≤ 1000) : itm (.tup [.str "fill", .int i]) := .inr (.inl ⟨i, rfl, h1, h2⟩)
theorem sk5 {r d c kn mn : Nat} {G : Cells} {most n : Int} {ks : List Str} {ms : List Int} {N : PEnv → Cells → Prop} (h : RI r d c G) (hk : G[kn]? = some (.lst (ks.map W.str))) (hm : G[mn]? = some (.lst (ms.map W.int)))
    (k1 : kn ≠ r) (k2 : kn ≠ d) (m1 : mn ≠ r) (m2 : mn ≠ d) (l1 : 1 ≤ ks.length) (l2 : ks.length ≤ 24) (hks : ∀ x ∈ ks, kd x) (ml : 1 ≤ ms.length) (ml2 : ms.length ≤ 24) (hms : ∀ i ∈ ms, 0 ≤ i ∧ i ≤ 24) :
    (Bsk_5 [some (.ref r), some (.int most), some (.int n), some (.ref kn), some (.ref mn), none, none, none, none, none, none] G).sat N (SkPost r d c G) := by
  unfold Bsk_5
  refine so_seq (so_par ?_)
  simp only [s_bin, s_def, s_call, s_cons, s_nil, s_var, s_c, s_lst, s_tup, s_test, s_notT, s_andT, s_orT, s_if, s_neg, s_meth, List.getElem?_cons_zero, List.getElem?_cons_succ, Option.some.injEq, exists_eq_left', sat_ok, add_int, sub_int, List.set_cons_succ, List.set_cons_zero, List.length_cons, List.length_nil]
  refine ⟨Nat.zero_le _, _, _, rfl, ?_⟩
  have hl := h.lt
  have hr := h.push (x := .lst [])
  have f0 : Fr [] G (G ++ [.lst []]) := Fr.push
  have hk0 := f0.get hk (by simp)
  have hm0 := f0.get hm (by simp)
  have ht0 := push_get G (.lst [])
  have hkt := lt_of_get hk
  have hmt := lt_of_get hm
  have fbase : Fr [r, d] G (G ++ [.lst []]) := f0.of_nil
  generalize ht : G.length = t at *
  generalize G ++ [.lst []] = G0 at *
  refine so_seq (so_for (ks.map W.str) (fun i E G2 => RI r d c G2 ∧ Fr [r, d] G G2 ∧ Fr [t, r, d] G0 G2 ∧ ∃ (acc : List W) (left : Int) (a b e : Option W), acc.length = i ∧ i ≤ 24 ∧ G2[t]? = some (.lst acc) ∧ (∀ w ∈ acc, itm w) ∧
    E = [some (.ref r), some (.int most), some (.int n), some (.ref kn), some (.ref mn), some (.ref t), some (.int left), a, b, e, none]) ?_ ?_ ?_)
  · simp only [s_seq, s_bin, s_def, s_call, s_cons, s_nil, s_var, s_c, s_lst, s_tup, s_test, s_notT, s_andT, s_orT, s_if, s_neg, s_meth, List.getElem?_cons_zero, List.getElem?_cons_succ, Option.some.injEq, exists_eq_left', sat_ok, add_int, sub_int, List.set_cons_succ, List.set_cons_zero, List.length_cons, List.length_nil, itSeq, rdL, hk0]
    refine ⟨by simp [PIt.len, rdL, hk0], ⟨hr, fbase, Fr.refl, [], 8, none, none, none, rfl, by omega, ht0, by simp, rfl⟩, ?_⟩
    rintro i E' G' ⟨_, _, f, _⟩
    have := f.get hk0 (by simp; omega)
    simp only [PIt.at, rdL, this, Option.map_some]
  · intro i w E G2 hw hI
    obtain ⟨hr2, f2, f3, acc, left, a, b, e, ha1, ha2, ha3, ha4, rfl⟩ := hI
    have hi : i < ks.length := by
      rcases Nat.lt_or_ge i ks.length with h | h
      · exact h
      · rw [List.getElem?_eq_none_iff.mpr (by simpa using h)] at hw; cases hw
    obtain ⟨x, hx, rfl⟩ : ∃ x, x ∈ ks ∧ w = .str x := by
      rw [List.getElem?_map, List.getElem?_eq_getElem hi] at hw
      exact ⟨ks[i], List.getElem_mem hi, (Option.some.inj hw).symm⟩
    have hm2 := f3.get hm0 (by simp; omega)
    have tne : t ≠ r ∧ t ≠ d := by omega
    -- appending to the items
    have app : ∀ (G3 : Cells) (it : W), RI r d c G3 → Fr [r, d] G2 G3 → itm it → appendW G3 (.ref t) [it] = .ok .non (G3.set t (.lst (acc ++ [it]))) ∧ isTy "list" G3 (.ref t) = true ∧ RI r d c (G3.set t (.lst (acc ++ [it]))) ∧ Fr [r, d] G (G3.set t (.lst (acc ++ [it]))) ∧ Fr [t, r, d] G0 (G3.set t (.lst (acc ++ [it]))) ∧ (acc ++ [it]).length = i + 1 ∧ (G3.set t (.lst (acc ++ [it])))[t]? = some (.lst (acc ++ [it])) ∧ ∀ w ∈ acc ++ [it], itm w := by
      intro G3 it hr3 f4 hit
      have g3 := f4.get ha3 (by simp; omega)
      refine ⟨append_lst g3 (by omega), isTy_lst g3, ?_, ?_, ?_, by simp [ha1], set_get g3, ?_⟩
      · exact hr3.setOther tne.1 tne.2 (by omega)
      · exact (f2.trans f4).fresh (n := t) (by omega) (Fr.set (by simp))
      · exact f3.trans ((f4.sub (by intro n hn; exact List.mem_cons_of_mem _ hn)).trans (Fr.set (by simp)))
      · intro w hw
        rcases List.mem_append.mp hw with h | h
        · exact ha4 w h
        · rw [List.mem_singleton.mp h]; exact hit
    have stepB : (sExpr (mMeth "list" appendW (mVar 5) (mCons (mIf (mTest (mBin eqOp (mVar 7) (mC (.str "label")))) (mTup (mCons (mC (.str "label")) (mNil))) (mTup (mCons (mC (.str "fill")) (mCons (mDef M_law_pick (mCons (mVar 0) (mCons (mLst (mCons (mC (.int 2)) (mCons (mC (.int 4)) (mCons (mC (.int 8)) (mCons (mC (.int 16)) (mCons (mC (.int 32)) (mCons (mC (.int 64)) (mNil)))))))) (mNil)))) (mNil))))) (mNil))) [some (.ref r), some (.int most), some (.int n), some (.ref kn), some (.ref mn), some (.ref t), some (.int left), some (.str x), b, e, none] G2).sat (fun E G2 => RI r d c G2 ∧ Fr [r, d] G G2 ∧ Fr [t, r, d] G0 G2 ∧ ∃ (acc : List W) (left : Int) (a b e : Option W), acc.length = i + 1 ∧ i + 1 ≤ 24 ∧ G2[t]? = some (.lst acc) ∧ (∀ w ∈ acc, itm w) ∧
    E = [some (.ref r), some (.int most), some (.int n), some (.ref kn), some (.ref mn), some (.ref t), some (.int left), a, b, e, none]) (SkPost r d c G) := by
      refine so_expr ?_
      simp only [s_bin, s_def, s_call, s_cons, s_nil, s_var, s_c, s_lst, s_tup, s_test, s_notT, s_andT, s_orT, s_if, s_neg, s_meth, List.getElem?_cons_zero, List.getElem?_cons_succ, Option.some.injEq, exists_eq_left', sat_ok, add_int, sub_int, List.set_cons_succ, List.set_cons_zero, List.length_cons, List.length_nil, isTy_lst ha3, true_and, eqOp_ss, W.bl.injEq]
      refine hif (fun hc => ⟨le_line (by decide), ?_⟩) fun hc => ⟨le_line (by decide), ?_⟩
      · obtain ⟨g1, g2, g3, g4, g5, g6, g7, g8⟩ := app G2 _ hr2 Fr.refl (.inl rfl)
        rw [g1, sat_ok]
        exact ⟨g3, g4, g5, _, left, some (.str x), b, e, g6, by omega, g7, g8, rfl⟩
      · have hl2 := hr2.push (x := .lst [.int 2, .int 4, .int 8, .int 16, .int 32, .int 64])
        have hlt := hr2.lt
        refine (pick_ok hl2 (push_get _ _) (by omega) (by omega) (by simp) (by simp)).mono fun w G3 q => ⟨le_line (by decide), ?_⟩
        obtain ⟨hw, hr3, f4⟩ := q
        have hit : itm (.tup [.str "fill", w]) := by
          simp only [List.mem_cons, List.not_mem_nil, or_false] at hw
          rcases hw with rfl | rfl | rfl | rfl | rfl | rfl <;> exact itm_fill (by decide) (by decide)
        obtain ⟨g1, g2, g3, g4, g5, g6, g7, g8⟩ := app G3 _ hr3 (Fr.push.trans f4) hit
        rw [g1, sat_ok]
        exact ⟨g3, g4, g5, _, left, some (.str x), b, e, g6, by omega, g7, g8, rfl⟩
    show (sIf _ _ _ [some (.ref r), some (.int most), some (.int n), some (.ref kn), some (.ref mn), some (.ref t), some (.int left), some (.str x), b, e, none] G2).sat _ _
    refine so_if ?_
    simp only [s_bin, s_def, s_call, s_cons, s_nil, s_var, s_c, s_lst, s_tup, s_test, s_notT, s_andT, s_orT, s_if, s_neg, s_meth, List.getElem?_cons_zero, List.getElem?_cons_succ, Option.some.injEq, exists_eq_left', sat_ok, add_int, sub_int, List.set_cons_succ, List.set_cons_zero, List.length_cons, List.length_nil, eqOp_ss, W.bl.injEq, cmpI, Bool.false_eq_true, if_false]
    refine hif (fun hx1 => hif (fun hl1 => ?_) fun _ => stepB) fun _ => stepB
    refine so_seq (so_asg ?_)
    simp only [s_bin, s_def, s_call, s_cons, s_nil, s_var, s_c, s_lst, s_tup, s_test, s_notT, s_andT, s_orT, s_if, s_neg, s_meth, List.getElem?_cons_zero, List.getElem?_cons_succ, Option.some.injEq, exists_eq_left', sat_ok, add_int, sub_int, List.set_cons_succ, List.set_cons_zero, List.length_cons, List.length_nil]
    refine (sizes_ok hr2).mono fun w G3 q => ?_
    obtain ⟨⟨sa, sb, rfl, s1, s2, s3, s4⟩, hr3, f4⟩ := q
    show (sSeq _ _ [some (.ref r), some (.int most), some (.int n), some (.ref kn), some (.ref mn), some (.ref t), some (.int left), some (.str x), some (.int sa), some (.int sb), none] G3).sat _ _
    have g3 := f4.get ha3 (by simp; omega)
    have hm3 := f4.get hm2 (by simp; omega)
    refine so_seq (so_expr ?_)
    simp only [s_bin, s_def, s_call, s_cons, s_nil, s_var, s_c, s_lst, s_tup, s_test, s_notT, s_andT, s_orT, s_if, s_neg, s_meth, List.getElem?_cons_zero, List.getElem?_cons_succ, Option.some.injEq, exists_eq_left', sat_ok, add_int, sub_int, List.set_cons_succ, List.set_cons_zero, List.length_cons, List.length_nil, isTy_lst g3, true_and]
    refine (pick_ok hr3 hm3 m1 m2 (by simpa using ml) (by simp; omega)).mono fun w G4 q => ⟨le_line (by decide), ?_⟩
    obtain ⟨hw, hr4, f5⟩ := q
    obtain ⟨tt, ht1, rfl⟩ := List.mem_map.mp hw
    have hms := hms tt ht1
    obtain ⟨g1, g2, g3, g4, g5, g6, g7, g8⟩ := app G4 (.tup [.str "jump", .int tt, .int sa, .int sb]) hr4 (f4.trans f5) (.inr (.inr ⟨tt, sa, sb, rfl, by unfold smallI; simp; omega, by omega, by omega, by omega, by omega⟩))
    rw [g1, sat_ok]
    refine so_set ?_
    simp only [s_bin, s_def, s_call, s_cons, s_nil, s_var, s_c, s_lst, s_tup, s_test, s_notT, s_andT, s_orT, s_if, s_neg, s_meth, List.getElem?_cons_zero, List.getElem?_cons_succ, Option.some.injEq, exists_eq_left', sat_ok, add_int, sub_int, List.set_cons_succ, List.set_cons_zero, List.length_cons, List.length_nil]
    exact ⟨g3, g4, g5, _, left - 1, some (.str x), some (.int sa), some (.int sb), g6, by omega, g7, g8, rfl⟩
  · intro E G2 hI
    obtain ⟨hr2, f2, f3, acc, left, a, b, e, ha1, ha2, ha3, ha4, rfl⟩ := hI
    refine so_ret ?_
    simp only [s_bin, s_def, s_call, s_cons, s_nil, s_var, s_c, s_lst, s_tup, s_test, s_notT, s_andT, s_orT, s_if, s_neg, s_meth, List.getElem?_cons_zero, List.getElem?_cons_succ, Option.some.injEq, exists_eq_left', sat_ok, add_int, sub_int, List.set_cons_succ, List.set_cons_zero, List.length_cons, List.length_nil, tupleW, rdL, ha3]
    exact ⟨⟨acc, rfl, by simpa [ha1] using l1, by simpa [ha1] using l2, ha4⟩, hr2, f2⟩
theorem enL_at {G : Cells} {n : Nat} {xs : List W} (h : G[n]? = some (.lst xs)) (i : Nat) : PIt.at G i (.enL n) = some (xs.mapIdx fun i w => W.tup [.int i, w])[i]? := by
  simp only [PIt.at, rdL, h, Option.map_some, List.getElem?_mapIdx]
theorem sk4 {r d c kn : Nat} {G : Cells} {most n : Int} {ks : List Str} {N : PEnv → Cells → Prop} (h : RI r d c G) (hk : G[kn]? = some (.lst (ks.map W.str)))
    (k1 : kn ≠ r) (k2 : kn ≠ d) (l1 : 1 ≤ ks.length) (l2 : ks.length ≤ 24) (hks : ∀ x ∈ ks, kd x) (hlab : ("label" : Str) ∈ ks) :
    (Bsk_4 [some (.ref r), some (.int most), some (.int n), some (.ref kn), none, none, none, none, none, none, none] G).sat N (SkPost r d c G) := by
  unfold Bsk_4
  refine so_seq (so_set ?_)
  refine lc_sat ((ks.map W.str).mapIdx fun i w => W.tup [.int i, w]) (fun G1 i acc G' => RI r d c G' ∧ Fr [r, d] G1 G' ∧ Fr [G1.length] (G1 ++ [.lst []]) G' ∧ ∃ ms : List Int, acc = ms.map W.int ∧ ms.length ≤ i ∧ i ≤ 24 ∧ (∀ x ∈ ms, 0 ≤ x ∧ x ≤ 24) ∧ (("label" : Str) ∈ ks.take i → ms ≠ [])) ?_
  simp only [s_enum, s_bin, s_def, s_call, s_cons, s_nil, s_var, s_c, s_lst, s_tup, s_test, s_notT, s_andT, s_orT, s_if, s_neg, s_meth, List.getElem?_cons_zero, List.getElem?_cons_succ, Option.some.injEq, exists_eq_left', sat_ok, add_int, sub_int, List.set_cons_succ, List.set_cons_zero, List.length_cons, List.length_nil]
  refine .inl ⟨kn, rfl, by simp only [rdL, hk]; rfl, ?_⟩
  have hl := h.lt
  have hkl := lt_of_get hk
  refine ⟨by simp [PIt.len, rdL, hk], ⟨h.push, Fr.push, Fr.refl, [], rfl, by simp, by omega, by simp, by simp⟩, ?_, ?_, ?_⟩
  · rintro i acc G' ⟨_, _, f, _⟩ _
    exact enL_at (f.get (List.getElem?_append_left hkl ▸ hk) (by simp; omega)) i
  · intro i w acc G' hw hJ hacc
    obtain ⟨hr, f1, f2, ms, rfl, hm1, hm2, hm3, hm4⟩ := hJ
    have hi : i < ks.length := by
      rcases Nat.lt_or_ge i ks.length with h | h
      · exact h
      · rw [List.getElem?_eq_none_iff.mpr (by simpa using h)] at hw; cases hw
    have hw' : w = .tup [.int i, .str ks[i]] := by
      rw [List.getElem?_mapIdx, List.getElem?_map, List.getElem?_eq_getElem hi] at hw
      exact (Option.some.inj hw).symm
    subst hw'
    have he : gTupW 2 (gsCons 10 (gsCons 7 gsNil)) (.tup [.int i, .str ks[i]]) (wipeE [some (.ref r), some (.int most), some (.int n), some (.ref kn), none, none, none, none, none, none, none] [10, 7]) G' = .ok [some (.ref r), some (.int most), some (.int n), some (.ref kn), none, none, none, some (.str ks[i]), none, none, some (.int i)] G' := rfl
    rw [he, sat_ok]
    simp only [s_bin, s_def, s_call, s_cons, s_nil, s_var, s_c, s_lst, s_tup, s_test, s_notT, s_andT, s_orT, s_if, s_neg, s_meth, List.getElem?_cons_zero, List.getElem?_cons_succ, Option.some.injEq, exists_eq_left', sat_ok, add_int, sub_int, List.set_cons_succ, List.set_cons_zero, List.length_cons, List.length_nil, eqOp_ss, W.bl.injEq]
    refine hif (fun hc => ?_) fun hc => ?_
    · refine ⟨hacc, by have := le_line (n := 30) (by omega); simp only [List.length_map]; omega, ?_⟩
      have hn : G.length ≠ r ∧ G.length ≠ d ∧ G.length ≠ c := by omega
      refine ⟨hr.setOther hn.1 hn.2.1 hn.2.2, f1.fresh (n := G.length) (Nat.le_refl _) (Fr.set (by simp)), f2.trans (Fr.set (by simp)), ms ++ [(i : Int)], by simp, by simp; omega, by omega, ?_, by simp⟩
      intro x hx
      rcases List.mem_append.mp hx with h | h
      · exact hm3 x h
      · rw [List.mem_singleton.mp h]; omega
    · refine ⟨hacc, hr, f1, f2, ms, rfl, by omega, by omega, hm3, fun hin => ?_⟩
      rw [List.take_succ_eq_append_getElem hi] at hin
      rcases List.mem_append.mp hin with h | h
      · exact hm4 h
      · exact absurd (List.mem_singleton.mp h).symm (by simpa using hc)
  · intro acc G' hacc hJ
    obtain ⟨hr, f1, f2, ms, rfl, hm1, hm2, hm3, hm4⟩ := hJ
    simp only [List.length_mapIdx, List.length_map] at hm1 hm2 hm4
    have hne := hm4 (by rw [List.take_of_length_le (Nat.le_refl _)]; exact hlab)
    have := List.length_pos_iff.mpr hne
    exact (sk5 (N := N) hr (f1.get hk (by simp; omega)) hacc k1 k2 (by omega) (by omega) l1 l2 hks (by omega) (by omega) hm3).mono (fun _ _ h => h) fun _ _ q => ⟨q.1, q.2.1, f1.trans q.2.2⟩
theorem sk3 {r d c kn : Nat} {G : Cells} {most n : Int} {ks : List Str} {N : PEnv → Cells → Prop} (h : RI r d c G) (hk : G[kn]? = some (.lst (ks.map W.str)))
    (k1 : kn ≠ r) (k2 : kn ≠ d) (k3 : kn ≠ c) (l1 : 1 ≤ ks.length) (l2 : ks.length ≤ 24) (hn : (ks.length : Int) = n) (hks : ∀ x ∈ ks, kd x) :
    (Bsk_3 [some (.ref r), some (.int most), some (.int n), some (.ref kn), none, none, none, none, none, none, none] G).sat N fun w G' => (∃ ws, w = .tup ws ∧ 1 ≤ ws.length ∧ ws.length ≤ 24 ∧ ∀ w ∈ ws, itm w) ∧ RI r d c G' ∧ Fr [kn, r, d] G G' := by
  unfold Bsk_3
  refine so_seq (so_if ?_)
  have hs : ∀ x ∈ ks, PyData.strOk x = true := fun x hx => kd_ok (hks x hx)
  simp only [s_bin, s_def, s_call, s_cons, s_nil, s_var, s_c, s_lst, s_tup, s_test, s_notT, s_andT, s_orT, s_if, s_neg, s_meth, List.getElem?_cons_zero, List.getElem?_cons_succ, Option.some.injEq, exists_eq_left', sat_ok, add_int, sub_int, List.set_cons_succ, List.set_cons_zero, List.length_cons, List.length_nil, in_strs hk hs (show PyData.strOk "label" = true from by decide +kernel), W.bl.injEq]
  refine hif (fun hc => ?_) fun hc => ?_
  · refine so_asg ?_
    simp only [s_c, gPut, mVar, List.getElem?_cons_zero, List.getElem?_cons_succ, Rs.bind_ok]
    rw [sat_bind]
    simp only [s_bin, s_def, s_call, s_cons, s_nil, s_var, s_c, s_lst, s_tup, s_test, s_notT, s_andT, s_orT, s_if, s_neg, s_meth, List.getElem?_cons_zero, List.getElem?_cons_succ, Option.some.injEq, exists_eq_left', sat_ok, add_int, sub_int, List.set_cons_succ, List.set_cons_zero, List.length_cons, List.length_nil]
    refine (draw_ok h (by omega) (by omega)).mono fun w G1 q => ?_
    obtain ⟨⟨i, rfl, i1, i2⟩, h1, f1⟩ := q
    have g1 := f1.get hk (by simp; omega)
    have hi : ixN (ks.map W.str).length i = some i.toNat := by
      unfold ixN
      rw [if_pos i1, if_pos (by simp only [List.length_map]; omega)]
    have hp : putOp kn (.int i) (.str "label") G1 = some (G1.set kn (.lst ((ks.set i.toNat "label").map W.str))) := by
      unfold putOp
      simp only [g1, hi, List.map_set]
    simp only [hp, sat_ok]
    have := sk4 (N := N) (most := most) (n := n) (h1.setOther (x := .lst ((ks.set i.toNat "label").map W.str)) k1 k2 k3) (set_get g1) k1 k2 (by simpa using l1) (by simpa using l2) (fun x hx => (List.mem_or_eq_of_mem_set hx).elim (hks x) (fun e => .inl e)) (show ("label" : Str) ∈ ks.set i.toNat "label" from List.mem_iff_getElem?.mpr ⟨i.toNat, by rw [List.getElem?_set]; simp; omega⟩)
    exact this.mono (fun _ _ h => h) fun _ _ q => ⟨q.1, q.2.1, ((f1.sub (by intro n hn; exact List.mem_cons_of_mem _ hn)).trans (Fr.set (by simp))).trans (q.2.2.sub (by intro n hn; exact List.mem_cons_of_mem _ hn))⟩
  · refine so_nx ?_
    exact (sk4 (N := N) h hk k1 k2 l1 l2 hks (by simpa using hc)).mono (fun _ _ h => h) fun _ _ q => ⟨q.1, q.2.1, q.2.2.sub (by intro n hn; exact List.mem_cons_of_mem _ hn)⟩
theorem sk2 {r d c : Nat} {G : Cells} {most n : Int} {N : PEnv → Cells → Prop} (h : RI r d c G) (n1 : 1 ≤ n) (n2 : n ≤ 24) :
    (Bsk_2 [some (.ref r), some (.int most), some (.int n), none, none, none, none, none, none, none, none] G).sat N (SkPost r d c G) := by
  unfold Bsk_2
  refine so_seq (so_set ?_)
  refine lc_sat ((List.range n.toNat).map fun i : Nat => W.int (0 + i)) (fun G1 i acc G' => RI r d c G' ∧ Fr [r, d] G1 G' ∧ ∃ ks : List Str, acc = ks.map W.str ∧ ks.length = i ∧ i ≤ 24 ∧ ∀ x ∈ ks, kd x) ?_
  simp only [s_rng1, s_var, s_c, List.getElem?_cons_zero, List.getElem?_cons_succ, Option.some.injEq, exists_eq_left', W.int.injEq]
  have hl := h.lt
  refine ⟨by unfold rngOk; rw [decide_eq_true (by omega), decide_eq_true (by omega)]; rfl, by simp [PIt.len], ⟨h.push, Fr.push, [], rfl, rfl, by omega, by simp⟩, ?_, ?_, ?_⟩
  · intro i acc G' hj hn
    simp only [PIt.at, List.getElem?_map]
    by_cases hi : i < n.toNat
    · simp [hi]
    · simp [hi, List.getElem?_eq_none_iff.mpr (show (List.range n.toNat).length ≤ i from by simp; omega)]
  · intro i w acc G' hw hj hn
    obtain ⟨hr, fr, ks, rfl, rfl, hk1, hk2⟩ := hj
    have hi : ks.length < n.toNat := by
      rcases Nat.lt_or_ge ks.length n.toNat with h | h
      · exact h
      · rw [List.getElem?_eq_none_iff.mpr (by simpa using h)] at hw; cases hw
    show ((mDef M_law_pick (mCons (mVar 0) (mCons (mLst (mCons (mC (.str "label")) (mCons (mC (.str "label")) (mCons (mC (.str "fill")) (mCons (mC (.str "jump")) (mCons (mC (.str "jump")) (mNil))))))) (mNil)))) [some (.ref r), some (.int most), some (.int n), none, none, none, none, none, none, none, some w] G').sat _
    simp only [s_bin, s_def, s_call, s_cons, s_nil, s_var, s_c, s_lst, s_tup, s_test, s_notT, s_andT, s_orT, s_if, s_neg, s_meth, List.getElem?_cons_zero, List.getElem?_cons_succ, Option.some.injEq, exists_eq_left', sat_ok, add_int, sub_int, List.set_cons_succ, List.set_cons_zero, List.length_cons, List.length_nil]
    refine ⟨le_line (by decide), ?_⟩
    have hl2 := hr.lt
    refine (pick_ok hr.push (push_get _ _) (by omega) (by omega) (by simp) (by simp)).mono fun w G3 q => ?_
    obtain ⟨hw, hr3, f4⟩ := q
    obtain ⟨x, rfl, hx⟩ : ∃ x, w = .str x ∧ kd x := by
      simp only [List.mem_cons, List.not_mem_nil, or_false] at hw
      rcases hw with rfl | rfl | rfl | rfl | rfl
      · exact ⟨_, rfl, .inl rfl⟩
      · exact ⟨_, rfl, .inl rfl⟩
      · exact ⟨_, rfl, .inr (.inl rfl)⟩
      · exact ⟨_, rfl, .inr (.inr rfl)⟩
      · exact ⟨_, rfl, .inr (.inr rfl)⟩
    have hg := (Fr.push.trans f4).get hn (by simp; omega)
    refine ⟨hg, by have := le_line (n := 30) (by omega); simp only [List.length_map]; omega, hr3.setOther (by omega) (by omega) (by omega), (fr.trans (Fr.push.trans f4)).fresh (n := G.length) (Nat.le_refl _) (Fr.set (by simp)), ks ++ [x], by simp, by simp, by omega, ?_⟩
    intro y hy
    rcases List.mem_append.mp hy with h | h
    · exact hk2 y h
    · rw [List.mem_singleton.mp h]; exact hx
  · intro acc G' hacc hJ
    obtain ⟨hr, f1, ks, rfl, hk1, hk2, hk3⟩ := hJ
    simp only [List.length_map, List.length_range] at hk1 hk2
    simp only [s_bin, s_def, s_call, s_cons, s_nil, s_var, s_c, s_lst, s_tup, s_test, s_notT, s_andT, s_orT, s_if, s_neg, s_meth, List.getElem?_cons_zero, List.getElem?_cons_succ, Option.some.injEq, exists_eq_left', sat_ok, add_int, sub_int, List.set_cons_succ, List.set_cons_zero, List.length_cons, List.length_nil]
    exact (sk3 (N := N) hr hacc (by omega) (by omega) (by omega) (by omega) (by omega) (by omega) hk3).mono (fun _ _ h => h) fun _ _ q => ⟨q.1, q.2.1, f1.fresh (n := G.length) (Nat.le_refl _) q.2.2⟩
theorem skeleton_ok {r d c : Nat} {G : Cells} {most : Int} (h : RI r d c G) (m1 : 1 ≤ most) (m2 : most ≤ 24) :
    (M_law_skeleton [.ref r, .int most] G).sat (SkPost r d c G) := by
  refine fun_sat rfl ?_
  show (B_law_skeleton [some (.ref r), some (.int most), none, none, none, none, none, none, none, none, none] G).sat _ _
  refine so_seq (so_set ?_)
  simp only [s_bin, s_def, s_call, s_cons, s_nil, s_var, s_c, s_lst, s_tup, s_test, s_notT, s_andT, s_orT, s_if, s_neg, s_meth, List.getElem?_cons_zero, List.getElem?_cons_succ, Option.some.injEq, exists_eq_left', sat_ok, add_int, sub_int, List.set_cons_succ, List.set_cons_zero, List.length_cons, List.length_nil]
  refine (draw_ok h m1 (by omega)).mono fun w G1 q => ?_
  obtain ⟨⟨i, rfl, i1, i2⟩, h1, f1⟩ := q
  simp only [s_bin, s_def, s_call, s_cons, s_nil, s_var, s_c, s_lst, s_tup, s_test, s_notT, s_andT, s_orT, s_if, s_neg, s_meth, List.getElem?_cons_zero, List.getElem?_cons_succ, Option.some.injEq, exists_eq_left', sat_ok, add_int, sub_int, List.set_cons_succ, List.set_cons_zero, List.length_cons, List.length_nil]
  refine so_seq (so_if ?_)
  simp only [s_bin, s_def, s_call, s_cons, s_nil, s_var, s_c, s_lst, s_tup, s_test, s_notT, s_andT, s_orT, s_if, s_neg, s_meth, List.getElem?_cons_zero, List.getElem?_cons_succ, Option.some.injEq, exists_eq_left', sat_ok, add_int, sub_int, List.set_cons_succ, List.set_cons_zero, List.length_cons, List.length_nil]
  refine (draw_ok h1 (by decide) (by decide)).mono fun w G2 q => ?_
  obtain ⟨⟨j, rfl, j1, j2⟩, h2, f2⟩ := q
  simp only [eqOp_int, sat_ok, W.bl.injEq, exists_eq_left']
  have f12 := f1.trans f2
  refine hif (fun hc => ?_) fun hc => ?_
  · refine so_set ?_
    simp only [s_bin, s_def, s_call, s_cons, s_nil, s_var, s_c, s_lst, s_tup, s_test, s_notT, s_andT, s_orT, s_if, s_neg, s_meth, List.getElem?_cons_zero, List.getElem?_cons_succ, Option.some.injEq, exists_eq_left', sat_ok, add_int, sub_int, List.set_cons_succ, List.set_cons_zero, List.length_cons, List.length_nil]
    exact (sk2 h2 (by omega) (by omega)).mono (fun _ _ h => h) fun _ _ q => ⟨q.1, q.2.1, f12.trans q.2.2⟩
  · refine so_nx ?_
    exact (sk2 h2 (by omega) (by omega)).mono (fun _ _ h => h) fun _ _ q => ⟨q.1, q.2.1, f12.trans q.2.2⟩
end NS
/- part S4 -/
set_option maxHeartbeats 1000000
namespace NS
open PySem PySem.Spec PyProof.Rows L2 PL
theorem sat_eq {α : Type} {r : Rs α} {x : α} {G : Cells} (h : r.sat fun a G' => a = x ∧ G' = G) : r = .ok x G := by
  obtain ⟨a, G', rfl, rfl, rfl⟩ := h.get
  rfl
def isInt : W → Bool | .int _ => true | _ => false
def isBl : W → Bool | .bl _ => true | _ => false
def isTup : W → Bool | .tup _ => true | _ => false
def fillB (i : Int) : Bool := decide (i = 2) || (decide (i = 4) || (decide (i = 8) || (decide (i = 16) || (decide (i = 32) || decide (i = 64)))))
def fillW : W → Bool | .int i => fillB i | _ => false
def sizesW : W → W → Bool | .int i, .int j => decide (1 ≤ i) && (decide (i < j) && decide (j ≤ 999)) | _, _ => false
def betw (a b : Int) : W → Bool | .int i => decide (a ≤ i) && decide (i ≤ b) | _ => false
def isSt : W → Bool | .str _ => true | _ => false
theorem tyN_gv {S : List Nat} {G : Cells} {ns : List Nat} {w : W} (h : gv S G ns w) : ∃ t, tyN G w = some t ∧ isiB t "int" = (isInt w || isBl w) ∧ isiB t "bool" = isBl w ∧ isiB t "tuple" = isTup w ∧ isiB t "str" = isSt w := by
  cases w with
  | ty s => cases ns <;> exact h.elim
  | ref n =>
    cases ns with
    | nil => exact h.elim
    | cons m ns =>
      rcases h.2 with q | ⟨ws, q, _⟩
      · exact ⟨"dict", by simp only [tyN, q], (by decide : isiB "dict" "int" = false), (by decide : isiB "dict" "bool" = false), (by decide : isiB "dict" "tuple" = false), (by decide : isiB "dict" "str" = false)⟩
      · exact ⟨"list", by simp only [tyN, q], (by decide : isiB "list" "int" = false), (by decide : isiB "list" "bool" = false), (by decide : isiB "list" "tuple" = false), (by decide : isiB "list" "str" = false)⟩
  | non => exact ⟨"NoneType", rfl, (by decide : isiB "NoneType" "int" = false), (by decide : isiB "NoneType" "bool" = false), (by decide : isiB "NoneType" "tuple" = false), (by decide : isiB "NoneType" "str" = false)⟩
  | bl b => exact ⟨"bool", rfl, (by decide : isiB "bool" "int" = true), (by decide : isiB "bool" "bool" = true), (by decide : isiB "bool" "tuple" = false), (by decide : isiB "bool" "str" = false)⟩
  | int b => exact ⟨"int", rfl, (by decide : isiB "int" "int" = true), (by decide : isiB "int" "bool" = false), (by decide : isiB "int" "tuple" = false), (by decide : isiB "int" "str" = false)⟩
  | str b => exact ⟨"str", rfl, (by decide : isiB "str" "int" = false), (by decide : isiB "str" "bool" = false), (by decide : isiB "str" "tuple" = false), (by decide : isiB "str" "str" = true)⟩
  | tup b => exact ⟨"tuple", rfl, (by decide : isiB "tuple" "int" = false), (by decide : isiB "tuple" "bool" = false), (by decide : isiB "tuple" "tuple" = true), (by decide : isiB "tuple" "str" = false)⟩
section
variable {S : List Nat} {G : Cells} {ns : List Nat} {w : W}
theorem isi_int (h : gv S G ns w) : isiW G [w, .ty "int"] = .ok (.bl (isInt w || isBl w)) G := by
  obtain ⟨t, h1, h2, h3, h4, h5⟩ := tyN_gv h
  unfold isiW; simp only [h1, h2, show knownTy "int" = true from by decide, if_true]
theorem isi_bool (h : gv S G ns w) : isiW G [w, .ty "bool"] = .ok (.bl (isBl w)) G := by
  obtain ⟨t, h1, h2, h3, h4, h5⟩ := tyN_gv h
  unfold isiW; simp only [h1, h3, show knownTy "bool" = true from by decide, if_true]
theorem isi_tup (h : gv S G ns w) : isiW G [w, .ty "tuple"] = .ok (.bl (isTup w)) G := by
  obtain ⟨t, h1, h2, h3, h4, h5⟩ := tyN_gv h
  unfold isiW; simp only [h1, h4, show knownTy "tuple" = true from by decide, if_true]
theorem isi_str (h : gv S G ns w) : isiW G [w, .ty "str"] = .ok (.bl (isSt w)) G := by
  obtain ⟨t, h1, h2, h3, h4, h5⟩ := tyN_gv h
  unfold isiW; simp only [h1, h5, show knownTy "str" = true from by decide, if_true]
end
theorem tru_bl (G : Cells) (b : Bool) : truW G (.bl b) = some b := rfl
theorem in_sizes (G : Cells) (i : Int) : inW false G (.int i) (.tup [.int 2, .int 4, .int 8, .int 16, .int 32, .int 64]) = .ok (.bl (fillB i)) G := by
  have e1 : dat G 60 (.int i) = some (.int i) := rfl
  have e2 : dat G 60 (.tup [.int 2, .int 4, .int 8, .int 16, .int 32, .int 64]) = some (.tuple [.int 2, .int 4, .int 8, .int 16, .int 32, .int 64]) := rfl
  have e3 : SeqAt.shaped (.int i) = true := rfl
  have e4 : SeqAt.shaped (.tuple [.int 2, .int 4, .int 8, .int 16, .int 32, .int 64]) = true := by decide +kernel
  unfold inW
  rw [e1, e2]
  simp only [itemsD, e3, e4, Bool.and_self, if_true, Bool.false_eq_true, if_false]
  congr 2
  simp only [List.any_cons, List.any_nil, PyData.eqv.eq_5, fillB, Bool.or_false]
  have q : ∀ j : Int, (j == i) = decide (i = j) := by intro j; rw [Bool.eq_iff_iff]; simp; exact eq_comm
  simp only [q]
section
variable {S : List Nat} {G : Cells} {ns : List Nat} {w : W}
theorem is_integer_ok (h : gv S G ns w) : Mis_integer [w] G = .ok (.bl (isInt w)) G := by
  refine sat_eq (fun_sat rfl ?_)
  show (Bis_integer [some w] G).sat _ _
  refine so_ret ?_
  simp only [s_bin, s_def, s_call, s_cons, s_nil, s_var, s_c, s_lst, s_tup, s_test, s_tru, s_notT, s_andT, s_orT, s_if, s_neg, s_meth, s_and, s_or, s_not, s_chain, s_chain3, List.getElem?_cons_zero, List.getElem?_cons_succ, Option.some.injEq, exists_eq_left', sat_ok, add_int, sub_int, List.set_cons_succ, List.set_cons_zero, List.length_cons, List.length_nil, isi_int h, isi_bool h, tru_bl]
  cases w <;> simp [isInt, isBl]
theorem is_int_ok {a b : Int} (h : gv S G ns w) : M_law_is_int [w, .int a, .int b] G = .ok (.bl (betw a b w)) G := by
  refine sat_eq (fun_sat rfl ?_)
  show (B_law_is_int [some w, some (.int a), some (.int b)] G).sat _ _
  refine so_ret ?_
  simp only [s_bin, s_def, s_call, s_cons, s_nil, s_var, s_c, s_lst, s_tup, s_test, s_tru, s_notT, s_andT, s_orT, s_if, s_neg, s_meth, s_and, s_or, s_not, s_chain, s_chain3, List.getElem?_cons_zero, List.getElem?_cons_succ, Option.some.injEq, exists_eq_left', sat_ok, add_int, sub_int, List.set_cons_succ, List.set_cons_zero, List.length_cons, List.length_nil, isi_int h, isi_bool h, tru_bl]
  cases w <;> simp [isInt, isBl, cmpI, betw]
  omega
theorem get0 {G : Cells} {a : W} {r : List W} : getW G (.tup (a :: r)) (.int 0) = .ok a G := by
  obtain ⟨w, h1, h2⟩ := get_tup (G := G) (xs := a :: r) (i := 0) (by decide) (by simp <;> omega)
  rw [h2]; cases h1; rfl
theorem get1 {G : Cells} {a b : W} {r : List W} : getW G (.tup (a :: b :: r)) (.int 1) = .ok b G := by
  obtain ⟨w, h1, h2⟩ := get_tup (G := G) (xs := a :: b :: r) (i := 1) (by decide) (by simp <;> omega)
  rw [h2]; cases h1; rfl
theorem get2 {G : Cells} {a b c : W} {r : List W} : getW G (.tup (a :: b :: c :: r)) (.int 2) = .ok c G := by
  obtain ⟨w, h1, h2⟩ := get_tup (G := G) (xs := a :: b :: c :: r) (i := 2) (by decide) (by simp <;> omega)
  rw [h2]; cases h1; rfl
theorem get3 {G : Cells} {a b c d : W} {r : List W} : getW G (.tup (a :: b :: c :: d :: r)) (.int 3) = .ok d G := by
  obtain ⟨w, h1, h2⟩ := get_tup (G := G) (xs := a :: b :: c :: d :: r) (i := 3) (by decide) (by simp <;> omega)
  rw [h2]; cases h1; rfl
end
theorem n_lf : ¬(("label" : Str) = "fill") := by decide +kernel
theorem n_lj : ¬(("label" : Str) = "jump") := by decide +kernel
theorem n_fj : ¬(("fill" : Str) = "jump") := by decide +kernel
theorem n_fl : ¬(("fill" : Str) = "label") := by decide +kernel
theorem n_jl : ¬(("jump" : Str) = "label") := by decide +kernel
theorem n_jf : ¬(("jump" : Str) = "fill") := by decide +kernel
def labB : List W → Bool
  | [a] => isStr a "label"
  | _ => false
def fiB : List W → Bool
  | [a, b] => isStr a "fill" && fillW b
  | _ => false
def juB : List W → Bool
  | [a, t, x, y] => isStr a "jump" && (isInt t && (sizesW x y))
  | _ => false
def itemOk : W → Bool
  | .tup ws => labB ws || (fiB ws || juB ws)
  | _ => false
theorem len_ne {G : Cells} (ws : List W) (n : Nat) : eqOp G (.int ws.length) (.int n) = .ok (.bl (decide (ws.length = n))) G := by
  rw [eqOp_int]; congr 2; rw [Bool.eq_iff_iff]; simp; omega
section
variable {S : List Nat} {G : Cells} {ns : List Nat} {ws : List W}
theorem is_label_ok (h : ∀ w ∈ ws, gv S G ns w) (hl : ns.length < 60) : M_is_label [.tup ws] G = .ok (.bl (labB ws)) G := by
  refine sat_eq (fun_sat rfl ?_)
  show (B_is_label [some (.tup ws)] G).sat _ _
  refine so_ret ?_
  simp only [s_bin, s_def, s_call, s_cons, s_nil, s_var, s_c, s_lst, s_tup, s_test, s_tru, s_notT, s_andT, s_orT, s_if, s_neg, s_meth, s_and, s_or, s_not, s_chain, s_chain3, List.getElem?_cons_zero, List.getElem?_cons_succ, Option.some.injEq, exists_eq_left', sat_ok, add_int, sub_int, List.set_cons_succ, List.set_cons_zero, List.length_cons, List.length_nil, len_tup, tru_bl]
  match ws, h with
  | [], _ => simp [eqOp_int, truW, labB]
  | [a], h => simp [eqOp_int, truW, labB, get0, eqOp_str (h a (by simp)) hl]
  | a :: b :: r, _ => simp [eqOp_int, truW, labB]; omega
theorem is_fill_size_ok {w : W} (h : gv S G ns w) : M_is_fill_size [w] G = .ok (.bl (fillW w)) G := by
  refine sat_eq (fun_sat rfl ?_)
  show (B_is_fill_size [some w] G).sat _ _
  refine so_ret ?_
  simp only [s_bin, s_def, s_call, s_cons, s_nil, s_var, s_c, s_lst, s_tup, s_test, s_tru, s_notT, s_andT, s_orT, s_if, s_neg, s_meth, s_and, s_or, s_not, s_chain, s_chain3, List.getElem?_cons_zero, List.getElem?_cons_succ, Option.some.injEq, exists_eq_left', sat_ok, add_int, sub_int, List.set_cons_succ, List.set_cons_zero, List.length_cons, List.length_nil, is_integer_ok h, tru_bl]
  cases w <;> simp [isInt, in_sizes, fillW]
theorem is_fill_ok (h : ∀ w ∈ ws, gv S G ns w) (hl : ns.length < 60) : M_is_fill [.tup ws] G = .ok (.bl (fiB ws)) G := by
  refine sat_eq (fun_sat rfl ?_)
  show (B_is_fill [some (.tup ws)] G).sat _ _
  refine so_ret ?_
  simp only [s_bin, s_def, s_call, s_cons, s_nil, s_var, s_c, s_lst, s_tup, s_test, s_tru, s_notT, s_andT, s_orT, s_if, s_neg, s_meth, s_and, s_or, s_not, s_chain, s_chain3, List.getElem?_cons_zero, List.getElem?_cons_succ, Option.some.injEq, exists_eq_left', sat_ok, add_int, sub_int, List.set_cons_succ, List.set_cons_zero, List.length_cons, List.length_nil, len_tup, tru_bl]
  match ws, h with
  | [], _ => simp [eqOp_int, truW, fiB]
  | [a], h => simp [eqOp_int, truW, fiB]
  | [a, b], h =>
    simp [eqOp_int, truW, fiB, get0, get1, eqOp_str (h a (by simp)) hl, is_fill_size_ok (h b (by simp))]
    cases isStr a "fill" <;> simp
  | a :: b :: c :: r, _ => simp [eqOp_int, truW, fiB]; omega
theorem are_sizes_ok {x y : W} (h : gv S G ns x) (h' : gv S G ns y) : M_are_sizes [x, y] G = .ok (.bl (sizesW x y)) G := by
  refine sat_eq (fun_sat rfl ?_)
  show (B_are_sizes [some x, some y] G).sat _ _
  refine so_ret ?_
  simp only [s_bin, s_def, s_call, s_cons, s_nil, s_var, s_c, s_lst, s_tup, s_test, s_tru, s_notT, s_andT, s_orT, s_if, s_neg, s_meth, s_and, s_or, s_not, s_chain, s_chain3, List.getElem?_cons_zero, List.getElem?_cons_succ, Option.some.injEq, exists_eq_left', sat_ok, add_int, sub_int, List.set_cons_succ, List.set_cons_zero, List.length_cons, List.length_nil, is_integer_ok h, is_integer_ok h', tru_bl]
  cases x <;> simp [isInt, sizesW]
  cases y <;> simp [isInt, cmpI, sizesW]
  rename_i i j
  by_cases h1 : 1 ≤ i <;> by_cases h2 : i < j <;> simp [h1, h2] <;> omega
theorem is_jump_ok (h : ∀ w ∈ ws, gv S G ns w) (hl : ns.length < 60) : M_is_jump [.tup ws] G = .ok (.bl (juB ws)) G := by
  refine sat_eq (fun_sat rfl ?_)
  show (B_is_jump [some (.tup ws)] G).sat _ _
  refine so_ret ?_
  simp only [s_bin, s_def, s_call, s_cons, s_nil, s_var, s_c, s_lst, s_tup, s_test, s_tru, s_notT, s_andT, s_orT, s_if, s_neg, s_meth, s_and, s_or, s_not, s_chain, s_chain3, List.getElem?_cons_zero, List.getElem?_cons_succ, Option.some.injEq, exists_eq_left', sat_ok, add_int, sub_int, List.set_cons_succ, List.set_cons_zero, List.length_cons, List.length_nil, len_tup, tru_bl]
  match ws, h with
  | [], _ => simp [eqOp_int, truW, juB]
  | [a], h => simp [eqOp_int, truW, juB]
  | [a, b], h => simp [eqOp_int, truW, juB]
  | [a, b, c], h => simp [eqOp_int, truW, juB]
  | [a, b, c, d], h =>
    simp [eqOp_int, truW, juB, get0, get1, get2, get3, eqOp_str (h a (by simp)) hl, is_integer_ok (h b (by simp)), are_sizes_ok (h c (by simp)) (h d (by simp))]
    cases isStr a "jump" <;> simp
    cases isInt b <;> simp
  | a :: b :: c :: d :: e :: r, _ => simp [eqOp_int, truW, juB]; omega
end
section
variable {S : List Nat} {G : Cells} {n : Nat} {ns : List Nat} {w : W}
theorem is_item_ok (h : gv S G (n :: ns) w) (hl : ns.length < 59) : M_is_item [w] G = .ok (.bl (itemOk w)) G := by
  refine sat_eq (fun_sat rfl ?_)
  show (B_is_item [some w] G).sat _ _
  refine so_seq (so_if ?_)
  simp only [s_bin, s_def, s_call, s_cons, s_nil, s_var, s_c, s_lst, s_tup, s_test, s_tru, s_notT, s_andT, s_orT, s_if, s_neg, s_meth, s_and, s_or, s_not, s_chain, s_chain3, List.getElem?_cons_zero, List.getElem?_cons_succ, Option.some.injEq, exists_eq_left', sat_ok, add_int, sub_int, List.set_cons_succ, List.set_cons_zero, List.length_cons, List.length_nil, isi_tup h, tru_bl]
  cases w with
  | tup ws =>
    simp only [isTup, Bool.not_true, Bool.false_eq_true, if_false]
    refine so_nx (so_ret ?_)
    simp only [s_bin, s_def, s_call, s_cons, s_nil, s_var, s_c, s_lst, s_tup, s_test, s_tru, s_notT, s_andT, s_orT, s_if, s_neg, s_meth, s_and, s_or, s_not, s_chain, s_chain3, List.getElem?_cons_zero, List.getElem?_cons_succ, Option.some.injEq, exists_eq_left', sat_ok, add_int, sub_int, List.set_cons_succ, List.set_cons_zero, List.length_cons, List.length_nil, is_label_ok h.2 (by omega), is_fill_ok h.2 (by omega), is_jump_ok h.2 (by omega), tru_bl, itemOk]
    cases labB ws <;> simp
    cases fiB ws <;> simp
  | _ =>
    simp only [isTup, Bool.not_false, if_true]
    refine so_ret ?_
    simp [s_c, itemOk]
theorem eq_empty (h : gv S G (n :: ns) w) (hl : ns.length < 59) (ws : List W) (hw : w = .tup ws) : eqOp G w (.tup []) = .ok (.bl ws.isEmpty) G := by
  subst hw
  obtain ⟨d, h1, h2, h3⟩ := gv_dat h 60 (by simp; omega)
  have h1 : (mapO (dat G 59) ws).map PyData.tuple = some d := h1
  have hw : eqW G (.tup ws) (.tup []) = some ws.isEmpty := by
    cases hm : mapO (dat G 59) ws with
    | none => rw [hm] at h1; cases h1
    | some ds =>
      have e1 : dat G 60 (.tup ws) = some (.tuple ds) := by show (mapO (dat G 59) ws).map PyData.tuple = _; rw [hm]; rfl
      have e2 : dat G 60 (.tup []) = some (.tuple []) := rfl
      have e3 : PyData.eqv (.tuple ds) (.tuple []) = ws.isEmpty := by
        cases ws with
        | nil => cases hm; rfl
        | cons x xs =>
          simp only [mapO] at hm
          split at hm
          · cases hm; rfl
          · cases hm
      unfold eqW
      rw [e1, e2]
      simp only [e3]
      split
      · rfl
      · simp [eqK]
  have hs : eqS (.tup ws) (.tup []) = none := rfl
  unfold eqOp
  rw [hs, hw]
theorem len2 {G : Cells} (ws : List W) (k : Nat) : eqOp G (.int ws.length) (.int k) = .ok (.bl (decide (ws.length = k))) G := len_ne ws k
theorem law_is_item_ok (h : gv S G (n :: ns) w) (hl : ns.length < 59) : M_law_is_item [w] G = .ok (.bl (itemOk w)) G := by
  refine sat_eq (fun_sat rfl ?_)
  show (B_law_is_item [some w] G).sat _ _
  refine so_seq (so_if ?_)
  simp only [s_bin, s_def, s_call, s_cons, s_nil, s_var, s_c, s_lst, s_tup, s_test, s_tru, s_notT, s_andT, s_orT, s_if, s_neg, s_meth, s_and, s_or, s_not, s_chain, s_chain3, List.getElem?_cons_zero, List.getElem?_cons_succ, Option.some.injEq, exists_eq_left', sat_ok, add_int, sub_int, List.set_cons_succ, List.set_cons_zero, List.length_cons, List.length_nil, isi_tup h, tru_bl]
  cases w with
  | tup ws =>
    have hwe := eq_empty h hl ws rfl
    simp only [isTup, Bool.not_true, Bool.false_eq_true, if_false, List.length_nil, Nat.zero_le, true_and, hwe, sat_ok, W.bl.injEq, exists_eq_left']
    obtain ⟨h0, h⟩ := h
    match ws, h, h0 with
    | [], _, _ => simp only [List.isEmpty_nil, if_true]; refine so_ret ?_; simp [s_c, itemOk, labB, fiB, juB]
    | a :: r, h, h0 =>
      simp only [List.isEmpty_cons, Bool.false_eq_true, if_false, get0, sat_ok, isi_str (h a (by simp)), tru_bl, Option.some.injEq, exists_eq_left']
      cases a with
      | str x =>
        simp only [isSt, Bool.not_true, Bool.false_eq_true, if_false]
        refine so_nx (so_seq (so_if ?_))
        simp only [s_bin, s_def, s_call, s_cons, s_nil, s_var, s_c, s_lst, s_tup, s_test, s_tru, s_notT, s_andT, s_orT, s_if, s_neg, s_meth, s_and, s_or, s_not, s_chain, s_chain3, List.getElem?_cons_zero, List.getElem?_cons_succ, Option.some.injEq, exists_eq_left', sat_ok, add_int, sub_int, List.set_cons_succ, List.set_cons_zero, List.length_cons, List.length_nil, get0, eqOp_ss, W.bl.injEq]
        refine hif (fun hx => ?_) fun hx => ?_
        · have hx : x = "label" := by simpa using hx
          subst hx
          refine so_ret ?_
          simp only [s_bin, s_def, s_call, s_cons, s_nil, s_var, s_c, s_lst, s_tup, s_test, s_tru, s_notT, s_andT, s_orT, s_if, s_neg, s_meth, s_and, s_or, s_not, s_chain, s_chain3, List.getElem?_cons_zero, List.getElem?_cons_succ, Option.some.injEq, exists_eq_left', sat_ok, add_int, sub_int, List.set_cons_succ, List.set_cons_zero, List.length_cons, List.length_nil, len_tup]
          match r with
          | [] => simp [eqOp_int, itemOk, labB, fiB, juB, isStr]
          | b :: [] => simp [eqOp_int, itemOk, labB, fiB, juB, isStr, n_lf]
          | b :: c :: [] => simp [eqOp_int, itemOk, labB, fiB, juB, isStr]
          | b :: c :: e :: [] => simp [eqOp_int, itemOk, labB, fiB, juB, isStr, n_lj]
          | b :: c :: e :: f :: r => simp [eqOp_int, itemOk, labB, fiB, juB, isStr]; omega
        · have hx : ¬x = "label" := by simpa using hx
          refine so_nx (so_seq (so_if ?_))
          simp only [s_bin, s_def, s_call, s_cons, s_nil, s_var, s_c, s_lst, s_tup, s_test, s_tru, s_notT, s_andT, s_orT, s_if, s_neg, s_meth, s_and, s_or, s_not, s_chain, s_chain3, List.getElem?_cons_zero, List.getElem?_cons_succ, Option.some.injEq, exists_eq_left', sat_ok, add_int, sub_int, List.set_cons_succ, List.set_cons_zero, List.length_cons, List.length_nil, get0, eqOp_ss, W.bl.injEq]
          refine hif (fun hy => ?_) fun hy => ?_
          · have hy : x = "fill" := by simpa using hy
            subst hy
            refine so_ret ?_
            simp only [s_bin, s_def, s_call, s_cons, s_nil, s_var, s_c, s_lst, s_tup, s_test, s_tru, s_notT, s_andT, s_orT, s_if, s_neg, s_meth, s_and, s_or, s_not, s_chain, s_chain3, List.getElem?_cons_zero, List.getElem?_cons_succ, Option.some.injEq, exists_eq_left', sat_ok, add_int, sub_int, List.set_cons_succ, List.set_cons_zero, List.length_cons, List.length_nil, len_tup, tru_bl, get1]
            match r, h with
            | [], _ => simp [eqOp_int, truW, itemOk, labB, fiB, juB, isStr, hx]
            | b :: [], h =>
              simp [eqOp_int, truW, itemOk, labB, fiB, juB, isStr, get1, is_int_ok (h b (by simp)), hx]
              cases b <;> simp [betw, fillW, in_sizes]
              rename_i i
              by_cases hi : 2 ≤ i ∧ i ≤ 64
              · exact .inr ⟨hi, le_line (by decide)⟩
              · refine .inl ⟨by omega, ?_⟩
                have e1 : fillB i = false := by
                  cases hb : fillB i with
                  | false => rfl
                  | true => unfold fillB at hb; simp at hb; omega
                rw [e1]
                simp
                omega
            | b :: c :: [], _ => simp [eqOp_int, truW, itemOk, labB, fiB, juB, isStr, hx]
            | b :: c :: e :: [], _ => simp [eqOp_int, truW, itemOk, labB, fiB, juB, isStr, hx, n_fj]
            | b :: c :: e :: f :: r, _ => simp [eqOp_int, truW, itemOk, labB, fiB, juB, isStr, hx]; omega
          · have hy : ¬x = "fill" := by simpa using hy
            refine so_nx (so_seq (so_if ?_))
            simp only [s_bin, s_def, s_call, s_cons, s_nil, s_var, s_c, s_lst, s_tup, s_test, s_tru, s_notT, s_andT, s_orT, s_if, s_neg, s_meth, s_and, s_or, s_not, s_chain, s_chain3, List.getElem?_cons_zero, List.getElem?_cons_succ, Option.some.injEq, exists_eq_left', sat_ok, add_int, sub_int, List.set_cons_succ, List.set_cons_zero, List.length_cons, List.length_nil, get0, get1, neOp_ss, W.bl.injEq, len_tup, neOp_int, tru_bl]
            match r, h with
            | [], _ =>
              have q : ∀ N, (sRet (mC (W.bl false)) [some (W.tup [W.str x])] G).sat N fun a G' => a = W.bl (itemOk (W.tup [W.str x])) ∧ G' = G := fun N => so_ret (by simp [hx, hy, s_c, itemOk, labB, fiB, juB, isStr])
              simp [hx, hy]
              exact q _
            | b :: [], h =>
              have q : ∀ N, (sRet (mC (W.bl false)) [some (W.tup [W.str x, b])] G).sat N fun a G' => a = W.bl (itemOk (W.tup [W.str x, b])) ∧ G' = G := fun N => so_ret (by simp [hx, hy, s_c, itemOk, labB, fiB, juB, isStr])
              simp [hx, hy]
              first | exact q _ | exact fun _ => q _ | exact ⟨fun _ => q _, fun _ => q _⟩ | (split <;> exact q _)
            | b :: c :: [], _ =>
              have q : ∀ N, (sRet (mC (W.bl false)) [some (W.tup [W.str x, b, c])] G).sat N fun a G' => a = W.bl (itemOk (W.tup [W.str x, b, c])) ∧ G' = G := fun N => so_ret (by simp [hx, hy, s_c, itemOk, labB, fiB, juB, isStr])
              simp [hx, hy]
              first | exact q _ | (split <;> exact q _)
            | b :: c :: e :: [], h =>
              have hb := h b (by simp)
              have hc := h c (by simp)
              have he := h e (by simp)
              by_cases hj : x = "jump"
              · subst hj
                simp only [not_true, decide_true, Bool.not_true, Bool.false_eq_true, if_false, List.length_cons, List.length_nil, get1, sat_ok, isi_bool hb, isi_int hb, tru_bl, Option.some.injEq, exists_eq_left', show ((0 + 1 + 1 + 1 + 1 : Nat) : Int) = 4 from rfl]
                have q : ∀ N, (sRet (mC (W.bl false)) [some (W.tup [W.str "jump", b, c, e])] G).sat N fun a G' => a = W.bl (isInt b && sizesW c e) ∧ G' = G → True := fun N => so_ret (by simp [s_c])
                have fin : (sRet (mAnd
                        (mDef M_law_is_int
                          (mCons (mBin getW (mVar 0) (mC (W.int 2)))
                            (mCons (mC (W.int 1)) (mCons (mC (W.int 999)) mNil))))
                        (mAnd
                          (mDef M_law_is_int
                            (mCons (mBin getW (mVar 0) (mC (W.int 3)))
                              (mCons (mC (W.int 2)) (mCons (mC (W.int 999)) mNil))))
                          (mBin ltW (mBin getW (mVar 0) (mC (W.int 2))) (mBin getW (mVar 0) (mC (W.int 3)))))) [some (.tup [.str "jump", b, c, e])] G).sat (fun x G' => False) fun a G' => a = .bl (sizesW c e) ∧ G' = G := by
                  refine so_ret ?_
                  simp only [s_bin, s_def, s_call, s_cons, s_nil, s_var, s_c, s_lst, s_tup, s_test, s_tru, s_notT, s_andT, s_orT, s_if, s_neg, s_meth, s_and, s_or, s_not, s_chain, s_chain3, List.getElem?_cons_zero, List.getElem?_cons_succ, Option.some.injEq, exists_eq_left', sat_ok, add_int, sub_int, List.set_cons_succ, List.set_cons_zero, List.length_cons, List.length_nil, get2, get3, is_int_ok hc, is_int_ok he, tru_bl]
                  cases c <;> simp [betw, sizesW]
                  cases e <;> simp [betw, sizesW, cmpI]
                  rename_i i j
                  by_cases h1 : 1 ≤ i <;> by_cases h2 : i ≤ 999 <;> by_cases h3 : 2 ≤ j <;> by_cases h4 : j ≤ 999 <;> by_cases h5 : i < j <;> simp [h1, h2, h3, h4, h5] <;> omega
                have eo : itemOk (.tup [.str "jump", b, c, e]) = (isInt b && sizesW c e) := by simp [itemOk, labB, fiB, juB, isStr]
                rw [eo]
                cases b <;> simp [isBl, isInt] <;> first | exact so_ret (by simp [s_c]) | exact so_nx fin
              · have q : ∀ N, (sRet (mC (W.bl false)) [some (W.tup [W.str x, b, c, e])] G).sat N fun a G' => a = W.bl (itemOk (W.tup [W.str x, b, c, e])) ∧ G' = G := fun N => so_ret (by simp [hj, hx, hy, s_c, itemOk, labB, fiB, juB, isStr])
                simp [hj]
                exact q _
            | b :: c :: e :: f :: r, _ =>
              have q : ∀ N, (sRet (mC (W.bl false)) [some (W.tup (W.str x :: b :: c :: e :: f :: r))] G).sat N fun a G' => a = W.bl (itemOk (W.tup (W.str x :: b :: c :: e :: f :: r))) ∧ G' = G := fun N => so_ret (by simp [hx, hy, s_c, itemOk, labB, fiB, juB, isStr])
              simp [hx, hy]
              (try split) <;> first | exact q _ | (rw [if_neg (by omega)]; exact q _)
      | _ =>
        simp only [isSt, Bool.not_false, if_true]
        refine so_ret ?_
        simp [s_c, itemOk]
        match r with
        | [] => simp [labB, fiB, juB, isStr]
        | [_] => simp [labB, fiB, juB, isStr]
        | [_, _] => simp [labB, fiB, juB, isStr]
        | [_, _, _] => simp [labB, fiB, juB, isStr]
        | _ :: _ :: _ :: _ :: _ => simp [labB, fiB, juB, isStr]
  | _ =>
    simp only [isTup, Bool.not_false, if_true]
    refine so_ret ?_
    simp [s_c, itemOk]
end
end NS
/- part S5 -/
set_option maxHeartbeats 2000000
namespace NS
open PySem PySem.Spec PyProof.Rows L2 PL
/-! ### what is wrong with a skeleton -/
def isJump : W → Bool
  | .tup (a :: _) => isStr a "jump"
  | _ => false
def labT : W → Bool
  | .tup l => labB l
  | _ => false
def goalIx (ws : List W) (w : W) : Bool := match w with
  | .tup (_ :: .int t :: _) => decide (0 ≤ t) && (decide (t < ws.length) && ((ws[t.toNat]?).elim false labT))
  | _ => false
def firstBad (p : W → Bool) : Nat → List W → Option Nat
  | _, [] => none
  | i, w :: ws => if p w then firstBad p (i + 1) ws else some i
theorem firstBad_step {p : W → Bool} {ws : List W} {i : Nat} {w : W} (h : ws[i]? = some w) : firstBad p i (ws.drop i) = if p w then firstBad p (i + 1) (ws.drop (i + 1)) else some i := by
  have hl : i < ws.length := by
    rcases Nat.lt_or_ge i ws.length with q | q
    · exact q
    · rw [List.getElem?_eq_none_iff.mpr q] at h; cases h
  rw [List.getElem?_eq_getElem hl] at h
  cases h
  rw [List.drop_eq_getElem_cons hl]; rfl
theorem firstBad_end {p : W → Bool} {ws : List W} : firstBad p ws.length (ws.drop ws.length) = none := by simp [firstBad]
theorem firstBad_none {p : W → Bool} : ∀ {ws : List W} {i : Nat}, firstBad p i ws = none → ∀ w ∈ ws, p w = true
  | [], _, _, w, h => by cases h
  | x :: xs, i, e, w, h => by
    unfold firstBad at e
    split at e
    · rename_i hp
      rcases List.mem_cons.mp h with rfl | h
      · exact hp
      · exact firstBad_none e w h
    · cases e
def jumpsAt : Nat → List W → List Nat
  | _, [] => []
  | i, w :: ws => if isJump w then i :: jumpsAt (i + 1) ws else jumpsAt (i + 1) ws
def goodGoal (ws : List W) (w : W) : Bool := !isJump w || goalIx ws w
def skErr (w : W) : W := match w with
  | .tup ws => if 1 ≤ ws.length ∧ ws.length ≤ 24 then (match firstBad itemOk 0 ws with
    | some i => .tup [.str "item", .int i]
    | none => (match firstBad (goodGoal ws) 0 ws with
      | some i => .tup [.str "goal", .int i]
      | none => if 8 < (jumpsAt 0 ws).length then .str "jumps" else .non)) else .str "form"
  | _ => .str "form"
theorem jump_is {t p q : W} : isJump (.tup [.str "jump", t, p, q]) = true := by show decide (("jump" : Str) = "jump") = true; simp
theorem goal_of {ws : List W} {t : Int} {p q y : W} (h1 : 0 ≤ t) (h2 : t < ws.length) (hy : ws[t.toNat]? = some y) : goodGoal ws (.tup [.str "jump", .int t, p, q]) = labT y := by
  unfold goodGoal
  rw [jump_is]
  show (!true || (decide (0 ≤ t) && (decide (t < ws.length) && ((ws[t.toNat]?).elim false labT)))) = labT y
  rw [hy, decide_eq_true h1, decide_eq_true h2]; rfl
theorem goal_no {ws : List W} {t : Int} {p q : W} (h : ¬(0 ≤ t ∧ t < ws.length)) : goodGoal ws (.tup [.str "jump", .int t, p, q]) = false := by
  unfold goodGoal
  rw [jump_is]
  show (!true || (decide (0 ≤ t) && (decide (t < ws.length) && ((ws[t.toNat]?).elim false labT)))) = false
  by_cases h1 : 0 ≤ t
  · rw [decide_eq_false (show ¬t < ws.length from fun h2 => h ⟨h1, h2⟩)]; simp
  · rw [decide_eq_false h1]; simp
theorem labB_lab : labB [.str "label"] = true := by show decide (("label" : Str) = "label") = true; simp
theorem enT_at {G : Cells} {xs : List W} (i : Nat) : PIt.at G i (.enT xs) = some (xs.mapIdx fun i w => W.tup [.int i, w])[i]? := by
  simp only [PIt.at, List.getElem?_mapIdx]
theorem mapIdx_get {xs : List W} {i : Nat} {w : W} (h : (xs.mapIdx fun i w => W.tup [.int i, w])[i]? = some w) : ∃ x, xs[i]? = some x ∧ w = .tup [.int i, x] := by
  rw [List.getElem?_mapIdx] at h
  cases hx : xs[i]? with
  | none => rw [hx] at h; cases h
  | some x => rw [hx] at h; exact ⟨x, rfl, (Option.some.inj h).symm⟩
section
variable {S : List Nat} {G : Cells} {n m : Nat} {ns : List Nat} {w : W}
theorem item_shape (h : itemOk w = true) : w = .tup [.str "label"] ∨ (∃ i, w = .tup [.str "fill", .int i] ∧ fillB i = true) ∨ ∃ t a b, w = .tup [.str "jump", .int t, .int a, .int b] ∧ 1 ≤ a ∧ a < b ∧ b ≤ 999 := by
  have st : ∀ {a : W} {x : Str}, isStr a x = true → a = .str x := by
    intro a x h
    cases a with
    | str y => simp only [isStr, decide_eq_true_eq] at h; rw [h]
    | _ => cases h
  cases w with
  | tup ws =>
    match ws, h with
    | [], h => simp [itemOk, labB, fiB, juB] at h
    | [a], h => simp [itemOk, labB, fiB, juB] at h; rw [st h]; exact .inl rfl
    | [a, b], h =>
      simp [itemOk, labB, fiB, juB] at h
      rw [st h.1]
      cases b with
      | int i => exact .inr (.inl ⟨i, rfl, h.2⟩)
      | _ => exact absurd h.2 (by simp [fillW])
    | [a, b, c], h => simp [itemOk, labB, fiB, juB] at h
    | [a, b, c, d], h =>
      simp [itemOk, labB, fiB, juB] at h
      obtain ⟨h1, h2, h3⟩ := h
      rw [st h1]
      cases b with
      | int t =>
        cases c with
        | int x =>
          cases d with
          | int y => simp [sizesW] at h3; exact .inr (.inr ⟨t, x, y, rfl, by omega, by omega, by omega⟩)
          | _ => simp [sizesW] at h3
        | _ => simp [sizesW] at h3
      | _ => simp [isInt] at h2
    | _ :: _ :: _ :: _ :: _ :: _, h => simp [itemOk, labB, fiB, juB] at h
  | _ => cases h
theorem item_jump0 (h : itemOk w = true) : ∃ x r, w = .tup (.str x :: r) ∧ isJump w = decide (x = "jump") := by
  rcases item_shape h with rfl | ⟨i, rfl, _⟩ | ⟨t, a, b, rfl, _⟩ <;> exact ⟨_, _, rfl, rfl⟩
theorem fault_ok (h : gv S G (n :: m :: ns) w) (hl : ns.length < 50) : (M_law_fault [w] G).sat fun a G' => a = skErr w ∧ Fr [] G G' := by
  refine fun_sat rfl ?_
  show (B_law_fault [some w, none, none] G).sat _ _
  refine so_seq (so_if ?_)
  simp only [s_bin, s_def, s_call, s_cons, s_nil, s_var, s_c, s_lst, s_tup, s_test, s_tru, s_notT, s_andT, s_orT, s_if, s_neg, s_meth, s_and, s_or, s_not, s_chain, s_chain3, List.getElem?_cons_zero, List.getElem?_cons_succ, Option.some.injEq, exists_eq_left', sat_ok, add_int, sub_int, List.set_cons_succ, List.set_cons_zero, List.length_cons, List.length_nil, isi_tup h, tru_bl]
  cases w with
  | tup ws =>
    obtain ⟨h0, h⟩ := h
    have hg : ∀ (i : Nat) (x : W), ws[i]? = some x → gv S G (m :: ns) x := fun i x hx => h x (List.mem_of_getElem? hx)
    simp only [isTup, Bool.not_true, Bool.false_eq_true, if_false, if_true, len_tup, sat_ok, cmpI, W.bl.injEq, exists_eq_left']
    have form : ∀ N, ¬(1 ≤ ws.length ∧ ws.length ≤ 24) → (sRet (mC (.str "form")) [some (.tup ws), none, none] G).sat N fun a G' => a = skErr (.tup ws) ∧ Fr [] G G' := fun N hn => so_ret (by simp only [s_c, skErr, if_neg hn]; exact ⟨trivial, Fr.refl⟩)
    refine hif (fun hc => ?_) fun hc => hif (fun hc2 => ?_) fun hc2 => so_nx ?_
    · exact (form (fun _ _ => False) (by simp at hc; omega)).mono (fun _ _ h => h.elim) fun _ _ h => h
    · exact (form (fun _ _ => False) (by simp at hc2; omega)).mono (fun _ _ h => h.elim) fun _ _ h => h
    have hlen : 1 ≤ ws.length ∧ ws.length ≤ 24 := by simp at hc hc2; omega
    refine so_seq (so_for (ws.mapIdx fun i w => W.tup [.int i, w]) (fun i E G2 => G2 = G ∧ i ≤ ws.length ∧ firstBad itemOk 0 ws = firstBad itemOk i (ws.drop i) ∧ ∃ a b, E = [some (.tup ws), a, b]) ?_ ?_ ?_)
    · simp only [s_enum, s_bin, s_def, s_call, s_cons, s_nil, s_var, s_c, s_lst, s_tup, s_test, s_tru, s_notT, s_andT, s_orT, s_if, s_neg, s_meth, s_and, s_or, s_not, s_chain, s_chain3, List.getElem?_cons_zero, List.getElem?_cons_succ, Option.some.injEq, exists_eq_left', sat_ok, add_int, sub_int, List.set_cons_succ, List.set_cons_zero, List.length_cons, List.length_nil]
      exact .inr ⟨ws, rfl, by simp [PIt.len], ⟨by trivial, by omega, by trivial, none, none, by trivial⟩, fun i E' G' _ => enT_at i⟩
    · rintro i w E G2 hw ⟨rfl, hi, hf, a, b, rfl⟩
      obtain ⟨x, hx, rfl⟩ := mapIdx_get hw
      show (sIf _ _ _ [some (.tup ws), some (.int i), some x] G2).sat _ _
      refine so_if ?_
      simp only [s_bin, s_def, s_call, s_cons, s_nil, s_var, s_c, s_lst, s_tup, s_test, s_tru, s_notT, s_andT, s_orT, s_if, s_neg, s_meth, s_and, s_or, s_not, s_chain, s_chain3, List.getElem?_cons_zero, List.getElem?_cons_succ, Option.some.injEq, exists_eq_left', sat_ok, add_int, sub_int, List.set_cons_succ, List.set_cons_zero, List.length_cons, List.length_nil, law_is_item_ok (hg i x hx) (by omega), tru_bl]
      rw [firstBad_step hx] at hf
      have hil : i < ws.length := by
        rcases Nat.lt_or_ge i ws.length with q | q
        · exact q
        · rw [List.getElem?_eq_none_iff.mpr q] at hx; cases hx
      cases hok : itemOk x with
      | true =>
        rw [hok, if_pos rfl] at hf
        simp only [Bool.not_true, Bool.false_eq_true, if_false]
        exact so_nx ⟨rfl, by omega, hf, _, _, rfl⟩
      | false =>
        simp only [hok, Bool.false_eq_true, if_false] at hf
        simp only [Bool.not_false, if_true]
        refine so_ret ?_
        simp only [s_bin, s_def, s_call, s_cons, s_nil, s_var, s_c, s_lst, s_tup, s_test, s_tru, s_notT, s_andT, s_orT, s_if, s_neg, s_meth, s_and, s_or, s_not, s_chain, s_chain3, List.getElem?_cons_zero, List.getElem?_cons_succ, Option.some.injEq, exists_eq_left', sat_ok, add_int, sub_int, List.set_cons_succ, List.set_cons_zero, List.length_cons, List.length_nil]
        exact ⟨le_line (by decide), by simp [skErr, hlen, hf], Fr.refl⟩
    · rintro E G2 ⟨rfl, hi, hf, a, b, rfl⟩
      simp only [List.length_mapIdx] at hf
      rw [firstBad_end] at hf
      have hall := firstBad_none hf
      have hit : ∀ (i : Nat) (x : W), ws[i]? = some x → itemOk x = true := fun i x hx => hall x (List.mem_of_getElem? hx)
      refine so_seq (so_for (ws.mapIdx fun i w => W.tup [.int i, w]) (fun i E G3 => G3 = G2 ∧ i ≤ ws.length ∧ firstBad (goodGoal ws) 0 ws = firstBad (goodGoal ws) i (ws.drop i) ∧ ∃ a b, E = [some (.tup ws), a, b]) ?_ ?_ ?_)
      · simp only [s_enum, s_bin, s_def, s_call, s_cons, s_nil, s_var, s_c, s_lst, s_tup, s_test, s_tru, s_notT, s_andT, s_orT, s_if, s_neg, s_meth, s_and, s_or, s_not, s_chain, s_chain3, List.getElem?_cons_zero, List.getElem?_cons_succ, Option.some.injEq, exists_eq_left', sat_ok, add_int, sub_int, List.set_cons_succ, List.set_cons_zero, List.length_cons, List.length_nil]
        exact .inr ⟨ws, rfl, by simp [PIt.len], ⟨by trivial, by omega, by trivial, a, b, by trivial⟩, fun i E' G' _ => enT_at i⟩
      · rintro i w E G3 hw ⟨rfl, hi, hf2, a, b, rfl⟩
        obtain ⟨x, hx, rfl⟩ := mapIdx_get hw
        show (sIf _ _ _ [some (.tup ws), some (.int i), some x] G3).sat _ _
        have hil : i < ws.length := by
          rcases Nat.lt_or_ge i ws.length with q | q
          · exact q
          · rw [List.getElem?_eq_none_iff.mpr q] at hx; cases hx
        rw [firstBad_step hx] at hf2
        have bad : goodGoal ws x = false → ∀ N, (sRet (mTup (mCons (mC (.str "goal")) (mCons (mVar 1) (mNil)))) [some (.tup ws), some (.int i), some x] G3).sat N fun a G' => a = skErr (.tup ws) ∧ Fr [] G3 G' := by
          intro hb N
          simp only [hb, Bool.false_eq_true, if_false] at hf2
          refine so_ret ?_
          simp only [s_bin, s_def, s_call, s_cons, s_nil, s_var, s_c, s_lst, s_tup, s_test, s_tru, s_notT, s_andT, s_orT, s_if, s_neg, s_meth, s_and, s_or, s_not, s_chain, s_chain3, List.getElem?_cons_zero, List.getElem?_cons_succ, Option.some.injEq, exists_eq_left', sat_ok, add_int, sub_int, List.set_cons_succ, List.set_cons_zero, List.length_cons, List.length_nil]
          exact ⟨le_line (by decide), by simp [skErr, hlen, hf, hf2], Fr.refl⟩
        have good : goodGoal ws x = true → (sNext [some (.tup ws), some (.int i), some x] G3).sat (fun E G4 => G4 = G3 ∧ i + 1 ≤ ws.length ∧ firstBad (goodGoal ws) 0 ws = firstBad (goodGoal ws) (i + 1) (ws.drop (i + 1)) ∧ ∃ a b, E = [some (.tup ws), a, b]) fun a G' => a = skErr (.tup ws) ∧ Fr [] G3 G' := by
          intro hb
          simp only [hb, if_true] at hf2
          exact so_nx ⟨rfl, by omega, hf2, _, _, rfl⟩
        refine so_if ?_
        rcases item_shape (hit i x hx) with rfl | ⟨j, rfl, _⟩ | ⟨t, p, q, rfl, _⟩
        · simp only [s_bin, s_def, s_call, s_cons, s_nil, s_var, s_c, s_lst, s_tup, s_test, s_tru, s_notT, s_andT, s_orT, s_if, s_neg, s_meth, s_and, s_or, s_not, s_chain, s_chain3, List.getElem?_cons_zero, List.getElem?_cons_succ, Option.some.injEq, exists_eq_left', sat_ok, add_int, sub_int, List.set_cons_succ, List.set_cons_zero, List.length_cons, List.length_nil, get0, eqOp_ss, W.bl.injEq, n_lj, decide_false, Bool.false_eq_true, if_false]
          exact good (by simp [goodGoal, isJump, isStr, n_lj])
        · simp only [s_bin, s_def, s_call, s_cons, s_nil, s_var, s_c, s_lst, s_tup, s_test, s_tru, s_notT, s_andT, s_orT, s_if, s_neg, s_meth, s_and, s_or, s_not, s_chain, s_chain3, List.getElem?_cons_zero, List.getElem?_cons_succ, Option.some.injEq, exists_eq_left', sat_ok, add_int, sub_int, List.set_cons_succ, List.set_cons_zero, List.length_cons, List.length_nil, get0, eqOp_ss, W.bl.injEq, n_fj, decide_false, Bool.false_eq_true, if_false]
          exact good (by simp [goodGoal, isJump, isStr, n_fj])
        · simp only [s_bin, s_def, s_call, s_cons, s_nil, s_var, s_c, s_lst, s_tup, s_test, s_tru, s_notT, s_andT, s_orT, s_if, s_neg, s_meth, s_and, s_or, s_not, s_chain, s_chain3, List.getElem?_cons_zero, List.getElem?_cons_succ, Option.some.injEq, exists_eq_left', sat_ok, add_int, sub_int, List.set_cons_succ, List.set_cons_zero, List.length_cons, List.length_nil, get0, get1, eqOp_ss, W.bl.injEq, decide_true, if_true, cmpI, len_tup]
          by_cases h1 : 0 ≤ t
          · by_cases h2 : t < ws.length
            · simp only [h1, h2, decide_true, if_true, Bool.not_true, Bool.false_eq_true, if_false, W.bl.injEq, exists_eq_left']
              obtain ⟨y, hy1, hy2⟩ := get_tup (G := G3) h1 h2
              have hgy := goal_of (p := .int p) (q := .int q) h1 h2 hy1
              simp only [hy2, sat_ok]
              rcases item_shape (hit _ y hy1) with rfl | ⟨j, rfl, _⟩ | ⟨t', p', q', rfl, _⟩
              · simp only [get0, sat_ok, neOp_ss, W.bl.injEq, exists_eq_left', decide_true, Bool.not_true, Bool.false_eq_true, if_false]
                exact good (by rw [hgy]; exact labB_lab)
              · simp only [get0, sat_ok, neOp_ss, W.bl.injEq, exists_eq_left', n_fl, decide_false, Bool.not_false, if_true]
                exact bad (by rw [hgy]; rfl) _
              · simp only [get0, sat_ok, neOp_ss, W.bl.injEq, exists_eq_left', n_jl, decide_false, Bool.not_false, if_true]
                exact bad (by rw [hgy]; rfl) _
            · simp only [h1, h2, decide_true, decide_false, if_true, Bool.not_false, Bool.false_eq_true, if_false, W.bl.injEq, exists_eq_left']
              exact bad (goal_no (fun q => h2 q.2)) _
          · simp only [h1, decide_true, decide_false, if_true, Bool.not_false, Bool.false_eq_true, if_false, W.bl.injEq, exists_eq_left']
            exact bad (goal_no (fun q => h1 q.1)) _
      · rintro E G3 ⟨rfl, hi, hf2, a, b, rfl⟩
        simp only [List.length_mapIdx] at hf2
        rw [firstBad_end] at hf2
        refine so_ret ?_
        rw [s_if, s_test, s_bin, s_call, s_cons]
        refine lc_sat ws (fun G1 i acc G' => G1 = G3 ∧ Fr [G3.length] (G3 ++ [.lst []]) G' ∧ i ≤ ws.length ∧ acc.length + (jumpsAt i (ws.drop i)).length = (jumpsAt 0 ws).length ∧ acc.length ≤ i) ?_
        simp only [s_seq, s_bin, s_def, s_call, s_cons, s_nil, s_var, s_c, s_lst, s_tup, s_test, s_tru, s_notT, s_andT, s_orT, s_if, s_neg, s_meth, s_and, s_or, s_not, s_chain, s_chain3, List.getElem?_cons_zero, List.getElem?_cons_succ, Option.some.injEq, exists_eq_left', sat_ok, add_int, sub_int, List.set_cons_succ, List.set_cons_zero, List.length_cons, List.length_nil, itSeq]
        refine ⟨by simp [PIt.len], ⟨by trivial, Fr.refl, by omega, by simp, by simp⟩, fun i acc G' _ _ => rfl, ?_, ?_⟩
        · rintro i x acc G' hx ⟨_, f1, hi1, hj1, hj2⟩ hacc
          have hil : i < ws.length := by
            rcases Nat.lt_or_ge i ws.length with q | q
            · exact q
            · rw [List.getElem?_eq_none_iff.mpr q] at hx; cases hx
          have he : gSet 2 x (wipeE [some (.tup ws), a, b] [2]) G' = .ok [some (.tup ws), a, some x] G' := rfl
          rw [he, sat_ok]
          obtain ⟨y, r, rfl, hy⟩ := item_jump0 (hit i x hx)
          have hx' : ws[i] = .tup (.str y :: r) := by rw [List.getElem?_eq_getElem hil] at hx; exact Option.some.inj hx
          rw [List.drop_eq_getElem_cons hil, hx'] at hj1
          simp only [s_bin, s_def, s_call, s_cons, s_nil, s_var, s_c, s_lst, s_tup, s_test, s_tru, s_notT, s_andT, s_orT, s_if, s_neg, s_meth, s_and, s_or, s_not, s_chain, s_chain3, List.getElem?_cons_zero, List.getElem?_cons_succ, Option.some.injEq, exists_eq_left', sat_ok, add_int, sub_int, List.set_cons_succ, List.set_cons_zero, List.length_cons, List.length_nil, get0, eqOp_ss, W.bl.injEq]
          refine hif (fun hc => ?_) fun hc => ?_
          · simp only [jumpsAt, hy, hc, if_true, List.length_cons] at hj1
            refine ⟨hacc, by have := le_line (n := 30) (by omega); omega, by trivial, f1.trans (Fr.set (by simp)), by omega, by simp; omega, by simp; omega⟩
          · simp only [jumpsAt, hy, hc, if_false] at hj1
            exact ⟨hacc, by trivial, f1, by omega, by simpa using hj1, by omega⟩
        · rintro acc G' hacc ⟨_, f1, hi1, hj1, hj2⟩
          simp only [s_bin, s_def, s_call, s_cons, s_nil, s_var, s_c, s_lst, s_tup, s_test, s_tru, s_notT, s_andT, s_orT, s_if, s_neg, s_meth, s_and, s_or, s_not, s_chain, s_chain3, List.getElem?_cons_zero, List.getElem?_cons_succ, Option.some.injEq, exists_eq_left', sat_ok, add_int, sub_int, List.set_cons_succ, List.set_cons_zero, List.length_cons, List.length_nil, len_lst hacc, cmpI, W.bl.injEq]
          have hcount : acc.length = (jumpsAt 0 ws).length := by simpa [jumpsAt] using hj1
          have ff : Fr [] G3 G' := (Fr.push (S := []) (c := .lst [])).fresh (Nat.le_refl _) f1
          refine hif (fun hc => ?_) fun hc => ?_
          · exact ⟨by simp only [skErr, if_pos hlen, hf, hf2]; rw [if_pos (by simp at hc; omega)], ff⟩
          · exact ⟨by simp only [skErr, if_pos hlen, hf, hf2]; rw [if_neg (by simp at hc; omega)], ff⟩
  | _ =>
    simp only [isTup, Bool.not_false, if_true]
    exact so_ret (by simp only [s_c, skErr]; exact ⟨trivial, Fr.refl⟩)
end
end NS
/- part S6 -/
set_option maxHeartbeats 2000000
namespace NS
open PySem PySem.Spec PyProof.Rows L2 PL
def jumpsW (ws : List W) : List W := (jumpsAt 0 ws).map fun i : Nat => W.int i
theorem jumpsAt_mem : ∀ (xs : List W) (i j : Nat), j ∈ jumpsAt i xs → i ≤ j ∧ ∃ x, xs[j - i]? = some x ∧ isJump x = true
  | [], i, j, h => by cases h
  | x :: xs, i, j, h => by
    unfold jumpsAt at h
    have rest : j ∈ jumpsAt (i + 1) xs → i ≤ j ∧ ∃ y, (x :: xs)[j - i]? = some y ∧ isJump y = true := fun h => by
      obtain ⟨h1, y, h2, h3⟩ := jumpsAt_mem xs (i + 1) j h
      refine ⟨by omega, y, ?_, h3⟩
      rw [show j - i = (j - (i + 1)) + 1 from by omega]
      exact h2
    split at h
    · rename_i hx
      rcases List.mem_cons.mp h with rfl | h
      · exact ⟨Nat.le_refl _, x, by simp, hx⟩
      · exact rest h
    · exact rest h
theorem jumpsAt_len : ∀ (xs : List W) (i : Nat), (jumpsAt i xs).length ≤ xs.length
  | [], i => Nat.le_refl _
  | x :: xs, i => by
    have := jumpsAt_len xs (i + 1)
    unfold jumpsAt; split <;> simp <;> omega
theorem firstBad_find {p : W → Bool} (hp : ∀ x, isJump x = false → p x = true) : ∀ (xs : List W) (i : Nat) (f : Nat → Bool), (∀ k x, xs[k]? = some x → f (i + k) = p x) → firstBad p i xs = (jumpsAt i xs).find? fun j => !f j
  | [], i, f, _ => rfl
  | x :: xs, i, f, h => by
    have ih := firstBad_find hp xs (i + 1) f fun k y hy => by rw [show i + 1 + k = i + (k + 1) from by omega]; exact h (k + 1) y hy
    have hx : f i = p x := h 0 x rfl
    unfold firstBad jumpsAt
    cases hj : isJump x with
    | true =>
      simp only [if_true, List.find?_cons, hx, ih]
      cases p x <;> simp
    | false =>
      simp only [hp x hj, if_true, Bool.false_eq_true, if_false, ih]
section
variable {S : List Nat} {G : Cells} {n m : Nat} {ns : List Nat} {w : W} {ws : List W}
theorem jumps_lc {vs : List Nat} {a b : Option W} (hall : ∀ x ∈ ws, itemOk x = true) (hlen : ws.length ≤ 24) {Q : W → Cells → Prop}
    (h : ∀ G' k, G.length ≤ k → G'[k]? = some (.lst (jumpsW ws)) → Fr [] G G' → Q (.ref k) G') :
    (mLc (mEnum (mCons (mVar 0) (mNil))) (gTupW 2 (gsCons 1 (gsCons 2 (gsNil)))) (mTest (mBin eqOp (mBin getW (mVar 2) (mC (.int 0))) (mC (.str "jump")))) (mVar 1) [1, 2] [some (.tup ws), a, b] G).sat Q := by
  refine lc_sat (ws.mapIdx fun i w => W.tup [.int i, w]) (fun G1 i acc G' => Fr [G1.length] (G1 ++ [.lst []]) G' ∧ i ≤ ws.length ∧ acc ++ (jumpsAt i (ws.drop i)).map (fun i : Nat => W.int i) = jumpsW ws ∧ acc.length ≤ i) ?_
  simp only [s_enum, s_bin, s_def, s_call, s_cons, s_nil, s_var, s_c, s_lst, s_tup, s_test, s_tru, s_notT, s_andT, s_orT, s_if, s_neg, s_meth, s_and, s_or, s_not, s_chain, s_chain3, List.getElem?_cons_zero, List.getElem?_cons_succ, Option.some.injEq, exists_eq_left', sat_ok, add_int, sub_int, List.set_cons_succ, List.set_cons_zero, List.length_cons, List.length_nil]
  refine .inr ⟨ws, rfl, by simp [PIt.len], ⟨Fr.refl, by omega, by simp [jumpsW], by simp⟩, fun i acc G' _ _ => enT_at i, ?_, ?_⟩
  · rintro i w acc G' hw ⟨f1, hi, hj, hj2⟩ hacc
    obtain ⟨x, hx, rfl⟩ := mapIdx_get hw
    have hil : i < ws.length := by
      rcases Nat.lt_or_ge i ws.length with q | q
      · exact q
      · rw [List.getElem?_eq_none_iff.mpr q] at hx; cases hx
    have he : gTupW 2 (gsCons 1 (gsCons 2 gsNil)) (.tup [.int i, x]) (wipeE [some (.tup ws), a, b] [1, 2]) G' = .ok [some (.tup ws), some (.int i), some x] G' := rfl
    rw [he, sat_ok]
    obtain ⟨y, r, rfl, hy⟩ := item_jump0 (hall x (List.mem_of_getElem? hx))
    have hx' : ws[i] = .tup (.str y :: r) := by rw [List.getElem?_eq_getElem hil] at hx; exact Option.some.inj hx
    rw [List.drop_eq_getElem_cons hil, hx'] at hj
    simp only [s_bin, s_def, s_call, s_cons, s_nil, s_var, s_c, s_lst, s_tup, s_test, s_tru, s_notT, s_andT, s_orT, s_if, s_neg, s_meth, s_and, s_or, s_not, s_chain, s_chain3, List.getElem?_cons_zero, List.getElem?_cons_succ, Option.some.injEq, exists_eq_left', sat_ok, add_int, sub_int, List.set_cons_succ, List.set_cons_zero, List.length_cons, List.length_nil, get0, eqOp_ss, W.bl.injEq]
    refine hif (fun hc => ?_) fun hc => ?_
    · simp only [jumpsAt, hy, hc, if_true, List.map_cons] at hj
      refine ⟨hacc, by have := le_line (n := 30) (by omega); omega, f1.trans (Fr.set (by simp)), by omega, by simpa using hj, by simp; omega⟩
    · simp only [jumpsAt, hy, hc, if_false] at hj
      exact ⟨hacc, f1, by omega, by simpa using hj, by omega⟩
  · rintro acc G' hacc ⟨f1, hi, hj, hj2⟩
    simp only [List.length_mapIdx, List.drop_length, jumpsAt, List.map_nil, List.append_nil] at hj
    subst hj
    exact h G' _ (Nat.le_refl _) hacc ((Fr.push (S := []) (c := .lst [])).fresh (Nat.le_refl _) f1)
theorem jumps_of_ok (hall : ∀ x ∈ ws, itemOk x = true) (hlen : ws.length ≤ 24) : (Mjumps_of [.tup ws] G).sat fun a G' => a = .tup (jumpsW ws) ∧ Fr [] G G' := by
  refine fun_sat rfl ?_
  show (Bjumps_of [some (.tup ws), none, none] G).sat _ _
  refine so_ret ?_
  rw [s_call, s_cons]
  refine jumps_lc (vs := []) hall hlen fun G' k hk hg f => ?_
  simp only [s_nil, tupleW, rdL, hg, sat_ok]
  exact ⟨trivial, f⟩
theorem law_jumps_ok (hall : ∀ x ∈ ws, itemOk x = true) (hlen : ws.length ≤ 24) : (M_law_jumps [.tup ws] G).sat fun a G' => (∃ k, a = .ref k ∧ G'[k]? = some (.lst (jumpsW ws))) ∧ Fr [] G G' := by
  refine fun_sat rfl ?_
  show (B_law_jumps [some (.tup ws), none, none] G).sat _ _
  refine so_ret ?_
  exact jumps_lc (vs := []) hall hlen fun G' k hk hg f => ⟨⟨k, rfl, hg⟩, f⟩
theorem place_ok (h : ∀ x ∈ ws, gv S G (m :: ns) x) (hl : ns.length < 50) (hall : ∀ x ∈ ws, itemOk x = true) (t : Int) : M_is_place_of_label [.tup ws, .int t] G = .ok (.bl (decide (0 ≤ t) && (decide (t < ws.length) && (ws[t.toNat]?).elim false labT))) G := by
  refine sat_eq (fun_sat rfl ?_)
  show (B_is_place_of_label [some (.tup ws), some (.int t)] G).sat _ _
  refine so_ret ?_
  simp only [s_bin, s_def, s_call, s_cons, s_nil, s_var, s_c, s_lst, s_tup, s_test, s_tru, s_notT, s_andT, s_orT, s_if, s_neg, s_meth, s_and, s_or, s_not, s_chain, s_chain3, List.getElem?_cons_zero, List.getElem?_cons_succ, Option.some.injEq, exists_eq_left', sat_ok, add_int, sub_int, List.set_cons_succ, List.set_cons_zero, List.length_cons, List.length_nil, len_tup, cmpI, tru_bl, W.bl.injEq]
  by_cases h1 : 0 ≤ t
  · by_cases h2 : t < ws.length
    · obtain ⟨y, hy1, hy2⟩ := get_tup (G := G) h1 h2
      simp only [h1, h2, decide_true, if_true, hy2, sat_ok, hy1, Bool.true_and, W.bl.injEq, exists_eq_left', tru_bl, Option.some.injEq]
      have hy := List.mem_of_getElem? hy1
      obtain ⟨z, r, rfl, _⟩ := item_jump0 (hall y hy)
      rw [is_label_ok (h _ hy).2 (by omega)]
      exact ⟨rfl, rfl⟩
    · simp only [h1, h2, decide_true, decide_false, if_true, Bool.false_eq_true, if_false, sat_ok, Bool.true_and, Bool.false_and, W.bl.injEq, exists_eq_left', tru_bl, Option.some.injEq, and_self]
  · simp only [h1, decide_false, Bool.false_eq_true, if_false, sat_ok, Bool.false_and, W.bl.injEq, exists_eq_left', tru_bl, Option.some.injEq, and_self]
theorem skeleton_error_ok (h : gv S G (n :: m :: ns) w) (hl : ns.length < 50) : (Mskeleton_error [w] G).sat fun a G' => a = skErr w ∧ Fr [] G G' := by
  refine fun_sat rfl ?_
  show (Bskeleton_error [some w, none, none, none, none] G).sat _ _
  refine so_seq (so_if ?_)
  simp only [s_bin, s_def, s_call, s_cons, s_nil, s_var, s_c, s_lst, s_tup, s_test, s_tru, s_notT, s_andT, s_orT, s_if, s_neg, s_meth, s_and, s_or, s_not, s_chain, s_chain3, List.getElem?_cons_zero, List.getElem?_cons_succ, Option.some.injEq, exists_eq_left', sat_ok, add_int, sub_int, List.set_cons_succ, List.set_cons_zero, List.length_cons, List.length_nil, isi_tup h, tru_bl]
  cases w with
  | tup ws =>
    obtain ⟨h0, h⟩ := h
    have hg : ∀ (i : Nat) (x : W), ws[i]? = some x → gv S G (m :: ns) x := fun i x hx => h x (List.mem_of_getElem? hx)
    simp only [isTup, Bool.not_true, Bool.false_eq_true, if_false, if_true, len_tup, sat_ok, cmpI, W.bl.injEq, exists_eq_left']
    have form : ∀ N, ¬(1 ≤ ws.length ∧ ws.length ≤ 24) → (sRet (mC (.str "form")) [some (.tup ws), none, none, none, none] G).sat N fun a G' => a = skErr (.tup ws) ∧ Fr [] G G' := fun N hn => so_ret (by simp only [s_c, skErr, if_neg hn]; exact ⟨trivial, Fr.refl⟩)
    refine hif (fun hc => ?_) fun hc => ?_
    rotate_left
    · simp only [Bool.not_false, if_true]; exact (form (fun _ _ => False) (by simp at hc; omega)).mono (fun _ _ h => h.elim) fun _ _ h => h
    by_cases hc2 : ws.length ≤ 24
    rotate_left
    · rw [decide_eq_false (show ¬((ws.length : Int) ≤ 24) from by omega)]
      simp only [Bool.not_false, if_true]; exact (form (fun _ _ => False) (by omega)).mono (fun _ _ h => h.elim) fun _ _ h => h
    rw [decide_eq_true (show (ws.length : Int) ≤ 24 from by omega)]
    simp only [Bool.not_true, Bool.false_eq_true, if_false]
    refine so_nx ?_
    have hlen : 1 ≤ ws.length ∧ ws.length ≤ 24 := by simp at hc; omega
    refine so_seq (so_for (ws.mapIdx fun i w => W.tup [.int i, w]) (fun i E G2 => G2 = G ∧ i ≤ ws.length ∧ firstBad itemOk 0 ws = firstBad itemOk i (ws.drop i) ∧ ∃ a b, E = [some (.tup ws), a, b, none, none]) ?_ ?_ ?_)
    · simp only [s_enum, s_bin, s_def, s_call, s_cons, s_nil, s_var, s_c, s_lst, s_tup, s_test, s_tru, s_notT, s_andT, s_orT, s_if, s_neg, s_meth, s_and, s_or, s_not, s_chain, s_chain3, List.getElem?_cons_zero, List.getElem?_cons_succ, Option.some.injEq, exists_eq_left', sat_ok, add_int, sub_int, List.set_cons_succ, List.set_cons_zero, List.length_cons, List.length_nil]
      exact .inr ⟨ws, rfl, by simp [PIt.len], ⟨by trivial, by omega, by trivial, none, none, by trivial⟩, fun i E' G' _ => enT_at i⟩
    · rintro i w E G2 hw ⟨rfl, hi, hf, a, b, rfl⟩
      obtain ⟨x, hx, rfl⟩ := mapIdx_get hw
      show (sIf _ _ _ [some (.tup ws), some (.int i), some x, none, none] G2).sat _ _
      refine so_if ?_
      simp only [s_bin, s_def, s_call, s_cons, s_nil, s_var, s_c, s_lst, s_tup, s_test, s_tru, s_notT, s_andT, s_orT, s_if, s_neg, s_meth, s_and, s_or, s_not, s_chain, s_chain3, List.getElem?_cons_zero, List.getElem?_cons_succ, Option.some.injEq, exists_eq_left', sat_ok, add_int, sub_int, List.set_cons_succ, List.set_cons_zero, List.length_cons, List.length_nil, is_item_ok (hg i x hx) (by omega), tru_bl]
      rw [firstBad_step hx] at hf
      have hil : i < ws.length := by
        rcases Nat.lt_or_ge i ws.length with q | q
        · exact q
        · rw [List.getElem?_eq_none_iff.mpr q] at hx; cases hx
      cases hok : itemOk x with
      | true =>
        rw [hok, if_pos rfl] at hf
        simp only [Bool.not_true, Bool.false_eq_true, if_false]
        exact so_nx ⟨rfl, by omega, hf, _, _, rfl⟩
      | false =>
        simp only [hok, Bool.false_eq_true, if_false] at hf
        simp only [Bool.not_false, if_true]
        refine so_ret ?_
        simp only [s_bin, s_def, s_call, s_cons, s_nil, s_var, s_c, s_lst, s_tup, s_test, s_tru, s_notT, s_andT, s_orT, s_if, s_neg, s_meth, s_and, s_or, s_not, s_chain, s_chain3, List.getElem?_cons_zero, List.getElem?_cons_succ, Option.some.injEq, exists_eq_left', sat_ok, add_int, sub_int, List.set_cons_succ, List.set_cons_zero, List.length_cons, List.length_nil]
        exact ⟨le_line (by decide), by simp [skErr, hlen, hf], Fr.refl⟩
    · rintro E G2 ⟨rfl, hi, hf, a, b, rfl⟩
      simp only [List.length_mapIdx] at hf
      rw [firstBad_end] at hf
      have hall := firstBad_none hf
      refine so_seq (so_set ?_)
      simp only [s_bin, s_def, s_call, s_cons, s_nil, s_var, s_c, s_lst, s_tup, s_test, s_tru, s_notT, s_andT, s_orT, s_if, s_neg, s_meth, s_and, s_or, s_not, s_chain, s_chain3, List.getElem?_cons_zero, List.getElem?_cons_succ, Option.some.injEq, exists_eq_left', sat_ok, add_int, sub_int, List.set_cons_succ, List.set_cons_zero, List.length_cons, List.length_nil]
      refine (jumps_of_ok hall hlen.2).mono fun w G3 q => ?_
      obtain ⟨rfl, f3⟩ := q
      show (sSeq _ _ [some (.tup ws), a, b, some (.tup (jumpsW ws)), none] G3).sat _ _
      have hgg : ∀ x ∈ ws, gv S G3 (m :: ns) x := fun x hx => (h x hx).mono f3.of_nil
      have hfind := firstBad_find (p := goodGoal ws) (fun x hx => by simp [goodGoal, hx]) ws 0 (fun j => (ws[j]?).elim true (goodGoal ws)) (fun k x hx => by simp only [Nat.zero_add, hx, Option.elim_some])
      have hjl : (jumpsW ws).length = (jumpsAt 0 ws).length := by simp [jumpsW]
      refine so_seq (so_for (jumpsW ws) (fun i E G4 => G4 = G3 ∧ i ≤ (jumpsAt 0 ws).length ∧ firstBad (goodGoal ws) 0 ws = ((jumpsAt 0 ws).drop i).find? (fun j => !(ws[j]?).elim true (goodGoal ws)) ∧ ∃ c, E = [some (.tup ws), a, b, some (.tup (jumpsW ws)), c]) ?_ ?_ ?_)
      · simp only [s_seq, s_bin, s_def, s_call, s_cons, s_nil, s_var, s_c, s_lst, s_tup, s_test, s_tru, s_notT, s_andT, s_orT, s_if, s_neg, s_meth, s_and, s_or, s_not, s_chain, s_chain3, List.getElem?_cons_zero, List.getElem?_cons_succ, Option.some.injEq, exists_eq_left', sat_ok, add_int, sub_int, List.set_cons_succ, List.set_cons_zero, List.length_cons, List.length_nil, itSeq]
        exact ⟨by simp [PIt.len], ⟨by trivial, by omega, by simpa using hfind, none, by trivial⟩, fun i E' G' _ => rfl⟩
      · rintro i w E G4 hw ⟨rfl, hi, hf2, c, rfl⟩
        have hil : i < (jumpsAt 0 ws).length := by
          rcases Nat.lt_or_ge i (jumpsAt 0 ws).length with q | q
          · exact q
          · rw [List.getElem?_eq_none_iff.mpr (by omega)] at hw; cases hw
        obtain ⟨j, hj, rfl⟩ : ∃ j, (jumpsAt 0 ws)[i] = j ∧ w = .int (j : Nat) := by
          unfold jumpsW at hw
          rw [List.getElem?_map, List.getElem?_eq_getElem hil] at hw
          exact ⟨_, rfl, (Option.some.inj hw).symm⟩
        obtain ⟨_, x, hx, hxj⟩ := jumpsAt_mem ws 0 j (hj ▸ List.getElem_mem hil)
        simp only [Nat.sub_zero] at hx
        have hjl : j < ws.length := by
          rcases Nat.lt_or_ge j ws.length with q | q
          · exact q
          · rw [List.getElem?_eq_none_iff.mpr q] at hx; cases hx
        obtain ⟨y, hy1, hy2⟩ := get_tup (G := G4) (xs := ws) (i := (j : Int)) (by omega) (by omega)
        simp only [Int.toNat_natCast] at hy1
        rw [hx] at hy1
        cases hy1
        rw [List.drop_eq_getElem_cons hil, hj, List.find?_cons] at hf2
        simp only [hx, Option.elim_some] at hf2
        rcases item_shape (hall x (List.mem_of_getElem? hx)) with rfl | ⟨_, rfl, _⟩ | ⟨t, p, q, rfl, _⟩
        · simp [isJump, isStr, n_lj] at hxj
        · simp [isJump, isStr, n_fj] at hxj
        · show (sIf _ _ _ [some (.tup ws), a, b, some (.tup (jumpsW ws)), some (.int j)] G4).sat _ _
          refine so_if ?_
          simp only [s_bin, s_def, s_call, s_cons, s_nil, s_var, s_c, s_lst, s_tup, s_test, s_tru, s_notT, s_andT, s_orT, s_if, s_neg, s_meth, s_and, s_or, s_not, s_chain, s_chain3, List.getElem?_cons_zero, List.getElem?_cons_succ, Option.some.injEq, exists_eq_left', sat_ok, add_int, sub_int, List.set_cons_succ, List.set_cons_zero, List.length_cons, List.length_nil, hy2, get1, place_ok hgg hl hall, tru_bl]
          have hgo : goodGoal ws (.tup [.str "jump", .int t, .int p, .int q]) = (decide (0 ≤ t) && (decide (t < ws.length) && (ws[t.toNat]?).elim false labT)) := by
            unfold goodGoal; rw [jump_is]; rfl
          rw [← hgo]
          cases hgg2 : goodGoal ws (.tup [.str "jump", .int t, .int p, .int q]) with
          | true =>
            rw [hgg2] at hf2
            simp only [Bool.not_true, Bool.false_eq_true, if_false]
            exact so_nx ⟨rfl, by omega, hf2, _, rfl⟩
          | false =>
            rw [hgg2] at hf2
            simp only [Bool.not_false, if_true]
            refine so_ret ?_
            simp only [s_bin, s_def, s_call, s_cons, s_nil, s_var, s_c, s_lst, s_tup, s_test, s_tru, s_notT, s_andT, s_orT, s_if, s_neg, s_meth, s_and, s_or, s_not, s_chain, s_chain3, List.getElem?_cons_zero, List.getElem?_cons_succ, Option.some.injEq, exists_eq_left', sat_ok, add_int, sub_int, List.set_cons_succ, List.set_cons_zero, List.length_cons, List.length_nil]
            exact ⟨le_line (by decide), by simp only [Bool.not_false] at hf2; simp [skErr, hlen, hf, hf2], f3⟩
      · rintro E G4 ⟨rfl, hi, hf2, c, rfl⟩
        rw [hjl, List.drop_length] at hf2
        have hf2 : firstBad (goodGoal ws) 0 ws = none := hf2
        refine so_seq (so_if ?_)
        simp only [s_bin, s_def, s_call, s_cons, s_nil, s_var, s_c, s_lst, s_tup, s_test, s_tru, s_notT, s_andT, s_orT, s_if, s_neg, s_meth, s_and, s_or, s_not, s_chain, s_chain3, List.getElem?_cons_zero, List.getElem?_cons_succ, Option.some.injEq, exists_eq_left', sat_ok, add_int, sub_int, List.set_cons_succ, List.set_cons_zero, List.length_cons, List.length_nil, len_tup, cmpI, W.bl.injEq, hjl]
        refine hif (fun hc3 => ?_) fun hc3 => ?_
        · refine so_ret ?_
          simp only [s_c]
          refine ⟨?_, f3⟩
          simp only [decide_eq_true_eq] at hc3
          simp only [skErr, hlen, and_self, if_true, hf, hf2]
          rw [if_pos (by omega)]
        · refine so_nx (so_ret ?_)
          simp only [s_c]
          refine ⟨?_, f3⟩
          simp only [decide_eq_true_eq] at hc3
          simp only [skErr, hlen, and_self, if_true, hf, hf2]
          rw [if_neg (by omega)]
  | _ =>
    simp only [isTup, Bool.not_false, if_true]
    exact so_ret (by simp only [s_c, skErr]; exact ⟨trivial, Fr.refl⟩)
end
end NS
/- part S7 -/
set_option maxHeartbeats 2000000
namespace NS
open PySem PySem.Spec PyProof.Rows L2 PL
section
variable {S : List Nat} {G : Cells} {n m : Nat} {ns : List Nat} {w : W} {ws : List W}
theorem skErr_gv : gv S G [2] (skErr w) := by
  have sm : ∀ i : Nat, i < 24 → smallI (i : Int) = true := fun i hi => by unfold smallI; simp; omega
  have fb : ∀ (p : W → Bool) (xs : List W) (k i : Nat), firstBad p k xs = some i → i < k + xs.length := by
    intro p xs
    induction xs with
    | nil => intro k i h; cases h
    | cons x xs ih =>
      intro k i h
      unfold firstBad at h
      split at h
      · have := ih _ _ h; simp; omega
      · cases h; simp
  have st : ∀ x : Str, (x = "form" ∨ x = "item" ∨ x = "goal" ∨ x = "jumps") → (reprText x).length ≤ 40 ∧ x.length ≤ 40 := by
    rintro x (rfl | rfl | rfl | rfl) <;> decide +kernel
  have two : ∀ (x : Str) (i : Nat), (x = "form" ∨ x = "item" ∨ x = "goal" ∨ x = "jumps") → i < 24 → gv S G [2] (.tup [.str x, .int i]) := fun x i hx hi => ⟨by simp, fun w hw => by
    rcases List.mem_cons.mp hw with rfl | hw
    · exact gv.str (st x hx)
    · rw [List.mem_singleton.mp hw]; exact gv.int (sm i hi)⟩
  unfold skErr
  split
  · split
    · rename_i hl
      split
      · rename_i i hi
        have := fb _ _ _ _ hi
        exact two _ _ (.inr (.inl rfl)) (by omega)
      · split
        · rename_i i hi
          have := fb _ _ _ _ hi
          exact two _ _ (.inr (.inr (.inl rfl))) (by omega)
        · split
          · exact gv.str (st _ (.inr (.inr (.inr rfl))))
          · exact gv.non
    · exact gv.str (st _ (.inl rfl))
  · exact gv.str (st _ (.inl rfl))
theorem pair_repr {k : Nat} {t : W} (hk : G[k]? = some (.lst [t, t])) (hs : k ∉ S) (h : gv S G [2] t) : ∃ d e, dat G 59 t = some d ∧ e = PyData.shown (.list [d, d]) ∧ reprW G [.ref k] = .ok (.str e) G := by
  have g : gv S G [2, 2] (.ref k) := ⟨hs, .inr ⟨_, hk, by simp, fun w hw => by simp at hw; rw [hw]; exact h⟩⟩
  obtain ⟨x, h1, h2⟩ := gv_repr g (by decide) (by decide +kernel)
  obtain ⟨d, d1, _, _⟩ := gv_dat h 59 (by decide)
  have e : dat G 60 (.ref k) = (mapO (dat G 59) [t, t]).map PyData.list := by show (match G[k]? with | some (.lst ws) => _ | some (.rol ws) => _ | some (.dct kvs) => _ | none => _) = _; rw [hk]
  have e2 : mapO (dat G 59) [t, t] = some [d, d] := by simp only [mapO, d1]
  rw [e, e2] at h1
  have h1 : PyData.list [d, d] = x := Option.some.inj h1
  exact ⟨d, _, d1, rfl, by rw [h2, ← h1]⟩
theorem repr_same {G' : Cells} (h : gv S G (n :: m :: ns) w) (f : Fr S G G') (hl : ns.length < 50) (hb : Bd (n :: m :: ns) ≤ sizeLine) {x : Str} (hx : reprW G [w] = .ok (.str x) G) : reprW G' [w] = .ok (.str x) G' := by
  obtain ⟨d, h1, h2⟩ := gv_repr h (by simp; omega) hb
  obtain ⟨d', h1', h2'⟩ := gv_repr (h.mono f) (by simp; omega) hb
  have e := dat_mono f h 60
  rw [h1, h1'] at e
  cases e
  rw [h2] at hx
  have : W.str d.shown = .str x := by injection hx
  cases this
  exact h2'
theorem gv.drop {S : List Nat} {G : Cells} : ∀ {ns : List Nat} {w : W}, gv S G ns w → gv [] G ns w
  | [], w, h => by cases w <;> exact h
  | n :: ns, w, h => by
    cases w with
    | tup ws => exact ⟨h.1, fun w hw => gv.drop (h.2 w hw)⟩
    | ref m =>
      obtain ⟨hs, h⟩ := h
      exact ⟨by simp, h.elim .inl fun ⟨ws, q, h1, h2⟩ => .inr ⟨ws, q, h1, fun w hw => gv.drop (h2 w hw)⟩⟩
    | _ => exact h
theorem named_ok (F : PF) (named : Bool) {E : PEnv} {Q : W → Cells → Prop} (h0 : E[0]? = some (some w)) (h1 : E[1]? = some (some (.bl named))) (h : (F [w] G).sat Q) :
    (mIf (mTru (mVar 1)) (mDefK F [0] 0 1 mNil (mCons (mVar 0) (mNil))) (mDef F (mCons (mVar 0) (mNil))) E G).sat Q := by
  rw [s_if, s_tru, s_var]
  refine ⟨_, h1, named, rfl, ?_⟩
  cases named with
  | true =>
    rw [if_pos rfl]
    unfold mDefK mNil mCons mVar
    simp only [h0, Rs.bind_ok]
    exact h
  | false =>
    simp only [Bool.false_eq_true, if_false]
    rw [s_def, s_cons, s_var]
    exact ⟨w, h0, h⟩
theorem skErr_none (h : skErr w = .non) : ∃ ws, w = .tup ws ∧ ws.length ≤ 24 ∧ ∀ x ∈ ws, itemOk x = true := by
  unfold skErr at h
  split at h
  · rename_i ws
    split at h
    · rename_i hl
      split at h
      · cases h
      · rename_i hf
        exact ⟨ws, rfl, hl.2, firstBad_none hf⟩
    · cases h
  · cases h
theorem is_told_ok {named : Bool} (h : gv [] G (n :: m :: ns) w) (hl : ns.length < 50) (hb : Bd (n :: m :: ns) ≤ sizeLine) : (M_law_is_told [w, .bl named] G).sat fun a G' => a = .bl true ∧ Fr [] G G' := by
  refine fun_sat rfl ?_
  show (B_law_is_told [some w, some (.bl named), none, none, none, none] G).sat _ _
  obtain ⟨d, hd, hr⟩ := gv_repr h (by simp; omega) hb
  generalize hx : d.shown = x at hr
  refine so_seq (so_par ?_)
  simp only [s_bin, s_def, s_call, s_cons, s_nil, s_var, s_c, s_lst, s_tup, s_test, s_tru, s_notT, s_andT, s_orT, s_if, s_neg, s_meth, s_and, s_or, s_not, s_chain, s_chain3, List.getElem?_cons_zero, List.getElem?_cons_succ, Option.some.injEq, exists_eq_left', sat_ok, add_int, sub_int, List.set_cons_succ, List.set_cons_zero, List.length_cons, List.length_nil, hr]
  refine (fault_ok h hl).mono fun a G1 q => ?_
  obtain ⟨rfl, f1⟩ := q
  refine ⟨_, _, rfl, ?_⟩
  show (sSeq _ _ [some w, some (.bl named), some (.str x), some (skErr w), none, none] G1).sat _ _
  refine so_seq (so_set ?_)
  rw [s_lst, s_cons]
  refine named_ok _ named rfl rfl ?_
  refine (skeleton_error_ok (h.mono f1) hl).mono fun a G2 q => ?_
  obtain ⟨rfl, f2⟩ := q
  simp only [s_bin, s_def, s_call, s_cons, s_nil, s_var, s_c, s_lst, s_tup, s_test, s_tru, s_notT, s_andT, s_orT, s_if, s_neg, s_meth, s_and, s_or, s_not, s_chain, s_chain3, List.getElem?_cons_zero, List.getElem?_cons_succ, Option.some.injEq, exists_eq_left', sat_ok, add_int, sub_int, List.set_cons_succ, List.set_cons_zero, List.length_cons, List.length_nil]
  refine (skeleton_error_ok (h.mono (f1.trans f2)) hl).mono fun a G3 q => ?_
  obtain ⟨rfl, f3⟩ := q
  refine ⟨le_line (by decide), ?_⟩
  have hk4 := push_get G3 (.lst [skErr w, skErr w])
  have f4 : Fr [] G (G3 ++ [.lst [skErr w, skErr w]]) := f1.trans (f2.trans (f3.trans Fr.push))
  generalize hk : G3.length = k at *
  generalize G3 ++ [.lst [skErr w, skErr w]] = G4 at *
  refine so_seq (so_if ?_)
  obtain ⟨d1, e1, p1, p2, p3⟩ := pair_repr (S := []) hk4 (by simp) skErr_gv
  have f5 : Fr [] G4 (G4 ++ [.lst [skErr w, skErr w]]) := Fr.push
  obtain ⟨d2, e2, q1, q2, q3⟩ := pair_repr (S := []) (push_get G4 (.lst [skErr w, skErr w])) (by simp) skErr_gv
  have hdd : d1 = d2 := by
    have := dat_mono f5 (skErr_gv (S := []) (G := G4) (w := w)) 59
    rw [p1, q1] at this
    exact (Option.some.inj this).symm
  have hee : e1 = e2 := by rw [p2, q2, hdd]
  simp only [s_bin, s_def, s_call, s_cons, s_nil, s_var, s_c, s_lst, s_tup, s_test, s_tru, s_notT, s_andT, s_orT, s_if, s_neg, s_meth, s_and, s_or, s_not, s_chain, s_chain3, List.getElem?_cons_zero, List.getElem?_cons_succ, Option.some.injEq, exists_eq_left', sat_ok, add_int, sub_int, List.set_cons_succ, List.set_cons_zero, List.length_cons, List.length_nil, p3]
  refine ⟨le_line (by decide), ?_⟩
  have hr5 := repr_same h (f4.trans f5) hl hb hr
  simp only [q3, sat_ok, neOp_ss, W.bl.injEq, exists_eq_left', hee, decide_true, Bool.not_true, Bool.false_eq_true, if_false, hr5]
  have f45 := f4.trans f5
  generalize G4 ++ [.lst [skErr w, skErr w]] = G5 at *
  refine so_nx (so_seq (so_if ?_))
  rw [s_test, s_bin, s_var]
  refine ⟨_, rfl, ?_⟩
  rw [s_c]
  have his : isW true G5 (skErr w) .non = .ok (.bl (!(skErr w).isNone)) G5 := rfl
  rw [his]
  simp only [sat_ok, W.bl.injEq, exists_eq_left']
  cases hn : (skErr w).isNone with
  | false =>
    simp only [Bool.not_false, if_true]
    exact so_ret ⟨rfl, f45⟩
  | true =>
    have hnon : skErr w = .non := by
      cases hs : skErr w <;> rw [hs] at hn <;> first | rfl | cases hn
    obtain ⟨ws, rfl, hlen, hall⟩ := skErr_none hnon
    simp only [Bool.not_true, Bool.false_eq_true, if_false]
    refine so_nx (so_seq (so_set ?_))
    refine named_ok _ named rfl rfl ?_
    refine (jumps_of_ok hall hlen).mono fun a G6 q => ?_
    obtain ⟨rfl, f6⟩ := q
    show (sRet _ [some (.tup ws), some (.bl named), some (.str x), some (skErr (.tup ws)), some (.ref k), some (.tup (jumpsW ws))] G6).sat _ _
    refine so_ret ?_
    have jg : ∀ (G : Cells) (S : List Nat), gv S G [24, 0] (.tup (jumpsW ws)) := by
      intro G S
      refine ⟨by have := jumpsAt_len ws 0; simp [jumpsW]; omega, fun y hy => ?_⟩
      unfold jumpsW at hy
      obtain ⟨j, hj, rfl⟩ := List.mem_map.mp hy
      obtain ⟨_, z, hz, _⟩ := jumpsAt_mem ws 0 j hj
      have : j < ws.length := by
        rcases Nat.lt_or_ge j ws.length with q | q
        · exact q
        · simp only [Nat.sub_zero] at hz; rw [List.getElem?_eq_none_iff.mpr q] at hz; cases hz
      exact gv.int' ⟨by omega, by omega⟩
    obtain ⟨dj, dj1, dj2⟩ := gv_repr (jg G6 []) (by decide) (by decide +kernel)
    simp only [s_bin, s_def, s_call, s_cons, s_nil, s_var, s_c, s_lst, s_tup, s_test, s_tru, s_notT, s_andT, s_orT, s_if, s_neg, s_meth, s_and, s_or, s_not, s_chain, s_chain3, List.getElem?_cons_zero, List.getElem?_cons_succ, Option.some.injEq, exists_eq_left', sat_ok, add_int, sub_int, List.set_cons_succ, List.set_cons_zero, List.length_cons, List.length_nil, dj2]
    refine (law_jumps_ok hall hlen).mono fun a G7 q => ?_
    obtain ⟨⟨kk, rfl, hkk⟩, f7⟩ := q
    simp only [tupleW, rdL, hkk, sat_ok]
    rw [repr_same (jg G6 []) f7 (ns := []) (n := 24) (m := 0) (by decide) (by decide +kernel) dj2]
    simp only [sat_ok, eqOp_ss, decide_true, tru_bl, Option.some.injEq, exists_eq_left', if_true]
    rw [repr_same h (f45.trans (f6.trans f7)) hl hb hr]
    simp only [sat_ok, eqOp_ss, decide_true]
    exact ⟨trivial, f45.trans (f6.trans f7)⟩
end
end NS
/- part S8 -/
set_option maxHeartbeats 2000000
namespace NS
open PySem PySem.Spec PyProof.Rows L2 PL
/-! ### kinds of expressions -/
def LV (r d : Nat) (G : Cells) (lo k : Nat) (ns : List Nat) (w : W) : Prop := ∃ n ws, w = .ref n ∧ n ≠ r ∧ n ≠ d ∧ G[n]? = some (.lst ws) ∧ lo ≤ ws.length ∧ ws.length ≤ k ∧ ∀ x ∈ ws, gv [r, d] G ns x
theorem LV.mono {r d : Nat} {G G' : Cells} {lo k : Nat} {ns : List Nat} {w : W} (h : LV r d G lo k ns w) (f : Fr [r, d] G G') : LV r d G' lo k ns w := by
  obtain ⟨n, ws, rfl, h1, h2, h3, h4, h5, h6⟩ := h
  exact ⟨n, ws, rfl, h1, h2, f.get h3 (by simp [h1, h2]), h4, h5, fun x hx => (h6 x hx).mono f⟩
def Ty (r d c : Nat) (E : PEnv) (G0 : Cells) (m : ME) (P : Cells → W → Prop) : Prop := ∀ G, Fr [r, d] G0 G → RI r d c G → (m E G).sat fun w G' => P G' w ∧ RI r d c G' ∧ Fr [r, d] G G'
abbrev TyE (r d c : Nat) (E : PEnv) (G0 : Cells) (ns : List Nat) (m : ME) : Prop := Ty r d c E G0 m fun G w => gv [r, d] G ns w
abbrev TyL (r d c : Nat) (E : PEnv) (G0 : Cells) (lo k : Nat) (ns : List Nat) (m : ME) : Prop := Ty r d c E G0 m fun G w => LV r d G lo k ns w
def TyA (r d c : Nat) (E : PEnv) (G0 : Cells) (k : Nat) (ns : List Nat) (m : MA) : Prop := ∀ G, Fr [r, d] G0 G → RI r d c G → (m E G).sat fun ws G' => (ws.length = k ∧ ∀ x ∈ ws, gv [r, d] G' ns x) ∧ RI r d c G' ∧ Fr [r, d] G G'
section
variable {r d c : Nat} {E : PEnv} {G0 : Cells} {ns : List Nat}
theorem ty_var {i : Nat} {w : W} (h : E[i]? = some (some w)) (g : gv [r, d] G0 ns w) : TyE r d c E G0 ns (mVar i) := fun G f hr => by
  rw [s_var]; exact ⟨w, h, g.mono f, hr, Fr.refl⟩
theorem tl_var {i : Nat} {w : W} {lo k : Nat} (h : E[i]? = some (some w)) (g : LV r d G0 lo k ns w) : TyL r d c E G0 lo k ns (mVar i) := fun G f hr => by
  rw [s_var]; exact ⟨w, h, g.mono f, hr, Fr.refl⟩
theorem ty_pure {m : ME} {w : W} (h : ∀ G, m E G = .ok w G) (g : ∀ G, gv [r, d] G ns w) : TyE r d c E G0 ns m := fun G f hr => by
  rw [h]; exact ⟨g G, hr, Fr.refl⟩
theorem ty_str {x : Str} (h : (reprText x).length ≤ 40 ∧ x.length ≤ 40 := by decide +kernel) : TyE r d c E G0 ns (mC (.str x)) := ty_pure (fun _ => rfl) fun _ => gv.str h
theorem ty_int {i : Int} (h : smallI i = true := by decide +kernel) : TyE r d c E G0 ns (mC (.int i)) := ty_pure (fun _ => rfl) fun _ => gv.int h
theorem ty_bl {b : Bool} : TyE r d c E G0 ns (mC (.bl b)) := ty_pure (fun _ => rfl) fun _ => gv.bl
theorem ty_non : TyE r d c E G0 ns (mC .non) := ty_pure (fun _ => rfl) fun _ => gv.non
theorem ty_negc {i : Int} (h : smallI (-i) = true := by decide +kernel) : TyE r d c E G0 ns (mNeg (mC (.int i))) := ty_pure (fun _ => rfl) fun _ => gv.int h
theorem ta_nil : TyA r d c E G0 0 ns mNil := fun G f hr => by rw [s_nil]; exact ⟨⟨rfl, by simp⟩, hr, Fr.refl⟩
theorem ta_cons {a : ME} {k : Nat} {s : MA} (h : TyE r d c E G0 ns a) (h' : TyA r d c E G0 k ns s) : TyA r d c E G0 (k + 1) ns (mCons a s) := fun G f hr => by
  rw [s_cons]
  refine (h G f hr).mono fun w G1 q => ?_
  obtain ⟨q1, q2, q3⟩ := q
  refine (h' G1 (f.trans q3) q2).mono fun ws G2 p => ?_
  obtain ⟨⟨p1, p2⟩, p3, p4⟩ := p
  refine ⟨⟨by simp [p1], fun x hx => ?_⟩, p3, q3.trans p4⟩
  rcases List.mem_cons.mp hx with rfl | hx
  · exact q1.mono p4
  · exact p2 x hx
theorem ty_tup {m : MA} {k n : Nat} (h : TyA r d c E G0 k ns m) (hk : k ≤ n := by decide) (hn : n ≤ 1000 := by decide) : TyE r d c E G0 (n :: ns) (mTup m) := fun G f hr => by
  rw [s_tup]
  refine (h G f hr).mono fun ws G1 q => ?_
  obtain ⟨⟨q1, q2⟩, q3, q4⟩ := q
  exact ⟨le_line (by omega), ⟨by omega, q2⟩, q3, q4⟩
theorem tl_lst {m : MA} {k : Nat} (h : TyA r d c E G0 k ns m) (hn : k ≤ 1000 := by decide) : TyL r d c E G0 k k ns (mLst m) := fun G f hr => by
  rw [s_lst]
  refine (h G f hr).mono fun ws G1 q => ?_
  obtain ⟨⟨q1, q2⟩, q3, q4⟩ := q
  have hl := q3.lt
  exact ⟨le_line (by omega), ⟨_, ws, rfl, by omega, by omega, push_get _ _, by omega, by omega, fun x hx => (q2 x hx).mono Fr.push⟩, q3.push, q4.trans Fr.push⟩
theorem ty_lst {m : MA} {k n : Nat} (h : TyA r d c E G0 k ns m) (hk : k ≤ n := by decide) (hn : n ≤ 1000 := by decide) : TyE r d c E G0 (n :: ns) (mLst m) := fun G f hr => by
  refine (tl_lst h (by omega) G f hr).mono fun w G1 q => ?_
  obtain ⟨⟨n', ws, rfl, h1, h2, h3, h4, h5, h6⟩, q3, q4⟩ := q
  exact ⟨⟨by simp [h1, h2], .inr ⟨ws, h3, by omega, h6⟩⟩, q3, q4⟩
theorem ty_dict0 {n : Nat} : TyE r d c E G0 (n :: ns) mDict0 := fun G f hr => by
  have hl := hr.lt
  exact ⟨⟨by simp; omega, .inl (push_get _ _)⟩, hr.push, Fr.push⟩
theorem tl_add {a b : ME} {lo k lo' k' : Nat} (h : TyL r d c E G0 lo k ns a) (h' : TyL r d c E G0 lo' k' ns b) (hk : k + k' ≤ 1000 := by decide) : TyL r d c E G0 (lo + lo') (k + k') ns (mBin addW a b) := fun G f hr => by
  rw [s_bin]
  refine (h G f hr).mono fun w G1 q => ?_
  obtain ⟨q1, q2, q3⟩ := q
  refine (h' G1 (f.trans q3) q2).mono fun w2 G2 p => ?_
  obtain ⟨⟨n2, ws2, rfl, a1, a2, a3, a4, a5, a6⟩, p3, p4⟩ := p
  obtain ⟨n1, ws1, rfl, b1, b2, b3, b4, b5, b6⟩ := q1.mono p4
  have hl := p3.lt
  have hs : ws1.length + ws2.length ≤ sizeLine := le_line (by omega)
  have e : addW G2 (.ref n1) (.ref n2) = .ok (.ref G2.length) (G2 ++ [.lst (ws1 ++ ws2)]) := by unfold addW; simp only [b3, a3, hs, if_true]
  rw [e]
  refine ⟨⟨_, _, rfl, by omega, by omega, push_get _ _, by simp; omega, by simp; omega, fun x hx => ?_⟩, p3.push, (q3.trans p4).trans Fr.push⟩
  rcases List.mem_append.mp hx with hx | hx
  · exact (b6 x hx).mono Fr.push
  · exact (a6 x hx).mono Fr.push
theorem ty_pick {m : ME} {lo k : Nat} (h0 : E[0]? = some (some (.ref r))) (h : TyL r d c E G0 lo k ns m) (h1 : 1 ≤ lo := by decide) (h2 : k ≤ 1000 := by decide) : TyE r d c E G0 ns (mDef M_law_pick (mCons (mVar 0) (mCons m mNil))) := fun G f hr => by
  rw [s_def, s_cons, s_var]
  refine ⟨_, h0, ?_⟩
  rw [s_cons]
  refine (h G f hr).mono fun w G1 q => ?_
  obtain ⟨⟨n, ws, rfl, a1, a2, a3, a4, a5, a6⟩, q2, q3⟩ := q
  rw [s_nil]
  refine (pick_ok q2 a3 a1 a2 (by omega) (by omega)).mono fun w G2 p => ?_
  obtain ⟨p1, p2, p3⟩ := p
  exact ⟨(a6 w p1).mono p3, p2, q3.trans p3⟩
theorem lt_of_getW {xs : List W} {n : Nat} {c : W} (h : xs[n]? = some c) : n < xs.length := by
  rcases Nat.lt_or_ge n xs.length with q | q
  · exact q
  · rw [List.getElem?_eq_none_iff.mpr q] at h; cases h
/-- a comprehension over what is known, by a pure body -/
theorem tl_lc {mi : MI} {i : Nat} {m : ME} {ms : List Nat} {lo k : Nat} {E' : W → PEnv} (F : W → W) (hE : ∀ w, (wipeE E [i]).set i (some w) = E' w)
    (hi : ∀ G, Fr [r, d] G0 G → RI r d c G → (mi E G).sat fun pit G' => (∃ ws : List W, pit.len G' = ws.length ∧ (∀ j G2, Fr [r, d] G' G2 → pit.at G2 j = some ws[j]?) ∧ lo ≤ ws.length ∧ ws.length ≤ k ∧ ∀ x ∈ ws, gv [r, d] G' ms x) ∧ RI r d c G' ∧ Fr [r, d] G G')
    (hb : ∀ w G1, (m (E' w) G1).sat fun a G' => a = F w ∧ G' = G1) (hg : ∀ w G1, Fr [r, d] G0 G1 → gv [r, d] G1 ms w → gv [r, d] G1 ns (F w)) (hk : k ≤ 900 := by decide) : TyL r d c E G0 lo k ns (mLc mi (gSet i) mYes m [i]) := fun G f hr => by
  obtain ⟨pit, G1, e1, ⟨ws, l0, hat, l1, l2, hx⟩, hr1, f1⟩ := (hi G f hr).get
  have hl := hr1.lt
  refine lc_sat ws (fun G1 j acc G' => RI r d c G' ∧ Fr [G1.length] (G1 ++ [.lst []]) G' ∧ acc = (ws.take j).map F ∧ j ≤ ws.length) ?_
  rw [e1]
  refine ⟨l0, ⟨hr1.push, Fr.refl, by simp, by omega⟩, ?_, ?_, ?_⟩
  · rintro j acc G' ⟨_, f2, _, _⟩ _
    exact hat j G' ((Fr.push (S := [r, d]) (c := .lst [])).fresh (Nat.le_refl _) (f2.sub (by simp)))
  · rintro j w acc G' hw ⟨hr2, f2, rfl, hj⟩ hacc
    have hjl := lt_of_getW hw
    rw [show gSet i w (wipeE E [i]) G' = .ok ((wipeE E [i]).set i (some w)) G' from rfl, sat_ok, hE, show mYes (E' w) G' = .ok true G' from rfl, sat_ok, if_pos rfl, sat_eq (hb w G')]
    refine ⟨hacc, by have := le_line (n := 990) (by omega); simp; omega, hr2.setOther (by omega) (by omega) (by omega), f2.trans (Fr.set (by simp)), ?_, by omega⟩
    rw [List.getElem?_eq_getElem hjl] at hw
    rw [List.take_succ_eq_append_getElem hjl, Option.some.inj hw]; simp
  · rintro acc G' hacc ⟨hr2, f2, rfl, hj⟩
    have f3 : Fr [r, d] G1 G' := (Fr.push (S := [r, d]) (c := .lst [])).fresh (Nat.le_refl _) (f2.sub (by simp))
    refine ⟨⟨_, _, rfl, by omega, by omega, hacc, by simp; omega, by simp; omega, fun x hx' => ?_⟩, hr2, f1.trans f3⟩
    obtain ⟨y, hy, rfl⟩ := List.mem_map.mp hx'
    exact (hg y G1 (f.trans f1) (hx y (List.mem_of_mem_take hy))).mono f3
theorem ti_tup {m : MA} {k : Nat} {ms : List Nat} (h : TyA r d c E G0 k ms m) (hk : k ≤ 900 := by decide) : ∀ G, Fr [r, d] G0 G → RI r d c G → (mSeq (mTup m) E G).sat fun pit G' => (∃ ws : List W, pit.len G' = ws.length ∧ (∀ j G2, Fr [r, d] G' G2 → pit.at G2 j = some ws[j]?) ∧ k ≤ ws.length ∧ ws.length ≤ k ∧ ∀ x ∈ ws, gv [r, d] G' ms x) ∧ RI r d c G' ∧ Fr [r, d] G G' := fun G f hr => by
  rw [s_seq, s_tup]
  refine (h G f hr).mono fun ws G1 q => ?_
  obtain ⟨⟨q1, q2⟩, q3, q4⟩ := q
  exact ⟨le_line (by omega), ⟨ws, rfl, fun _ _ _ => rfl, by omega, by omega, q2⟩, q3, q4⟩
theorem ti_lst {m : ME} {lo k : Nat} {ms : List Nat} (h : TyL r d c E G0 lo k ms m) : ∀ G, Fr [r, d] G0 G → RI r d c G → (mSeq m E G).sat fun pit G' => (∃ ws : List W, pit.len G' = ws.length ∧ (∀ j G2, Fr [r, d] G' G2 → pit.at G2 j = some ws[j]?) ∧ lo ≤ ws.length ∧ ws.length ≤ k ∧ ∀ x ∈ ws, gv [r, d] G' ms x) ∧ RI r d c G' ∧ Fr [r, d] G G' := fun G f hr => by
  rw [s_seq]
  refine (h G f hr).mono fun w G1 q => ?_
  obtain ⟨⟨n, ws, rfl, a1, a2, a3, a4, a5, a6⟩, q3, q4⟩ := q
  have e : itSeq (.ref n) G1 = .ok (.lst n) G1 := by unfold itSeq rdL; simp only [a3]
  rw [e]
  exact ⟨⟨ws, by simp [PIt.len, rdL, a3], fun j G2 f2 => by have := f2.get a3 (by simp [a1, a2]); simp only [PIt.at, rdL, this, Option.map_some], a4, a5, a6⟩, q3, q4⟩
/-- a statement that sets a slot -/
theorem so_ty {m : ME} {i : Nat} {P : Cells → W → Prop} {G : Cells} {N : PEnv → Cells → Prop} {R : W → Cells → Prop} {b : MS} (h : Ty r d c E G0 m P) (f : Fr [r, d] G0 G) (hr : RI r d c G)
    (k : ∀ w G1, P G1 w → RI r d c G1 → Fr [r, d] G G1 → (b (E.set i (some w)) G1).sat N R) : (sSeq (sAsg m (gSet i)) b E G).sat N R :=
  so_seq (so_set ((h G f hr).mono fun w G1 q => k w G1 q.1 q.2.1 q.2.2))
end
end NS
/- part S9a -/
set_option maxHeartbeats 4000000
namespace NS
open PySem PySem.Spec PyProof.Rows L2 PL
theorem smallI_str : ∀ i : Int, smallI i = true → (reprText (Str.ofString (toString i))).length ≤ 40 := by
  intro i h
  unfold smallI at h
  simp only [Bool.or_eq_true, Bool.and_eq_true, decide_eq_true_eq, beq_iff_eq] at h
  rcases h with (⟨h1, h2⟩ | rfl) | rfl
  · have q : ∀ k : Fin 2001, (reprText (Str.ofString (toString ((k.val : Int) - 1000)))).length ≤ 40 := by decide +kernel
    have := q ⟨(i + 1000).toNat, by omega⟩
    have e : (((i + 1000).toNat : Nat) : Int) - 1000 = i := by omega
    simpa only [e] using this
  · decide +kernel
  · decide +kernel
end NS
/- part S9b -/
set_option maxHeartbeats 4000000
namespace NS
open PySem PySem.Spec PyProof.Rows L2 PL
section
variable {r d c : Nat} {E : PEnv} {G0 : Cells} {ns : List Nat}
theorem Ty.run {m : ME} {P : Cells → W → Prop} {G : Cells} {Q : W → Cells → Prop} (f : Fr [r, d] G0 G) (hr : RI r d c G) (k : ∀ w G', P G' w → RI r d c G' → Fr [r, d] G G' → Q w G') (h : Ty r d c E G0 m P) : (m E G).sat Q := (h G f hr).mono fun w G' q => k w G' q.1 q.2.1 q.2.2
theorem ty_tup' {m : MA} {k n : Nat} (h : TyA r d c E G0 k ns m) (hk : k ≤ n) (hn : n ≤ 1000) : TyE r d c E G0 (n :: ns) (mTup m) := ty_tup h hk hn
theorem ty_lst' {m : MA} {k n : Nat} (h : TyA r d c E G0 k ns m) (hk : k ≤ n) (hn : n ≤ 1000) : TyE r d c E G0 (n :: ns) (mLst m) := ty_lst h hk hn
theorem ty_via {m : ME} {w : W} (h : ∀ G, (m E G).sat fun a G' => a = w ∧ G' = G) (g : ∀ G, gv [r, d] G ns w) : TyE r d c E G0 ns m := ty_pure (fun G => sat_eq (h G)) g
theorem ty_pow30 : TyE r d c E G0 ns (mBin powW (mC (.int 10)) (mC (.int 30))) := ty_via (w := .int (10 ^ 30)) (fun G => by rw [s_bin, s_c, s_c]; exact ⟨rfl, rfl⟩) fun _ => gv.int (by decide +kernel)
theorem ty_npow30 : TyE r d c E G0 ns (mNeg (mBin powW (mC (.int 10)) (mC (.int 30)))) := ty_via (w := .int (-10 ^ 30)) (fun G => by rw [s_neg, s_bin, s_c, s_c]; exact ⟨10 ^ 30, rfl, rfl, rfl⟩) fun _ => gv.int (by decide +kernel)
theorem ty_sub_cv {i : Nat} {j x : Int} (h : E[i]? = some (some (.int x))) (g : smallI (j - x) = true) : TyE r d c E G0 ns (mBin subW (mC (.int j)) (mVar i)) :=
  ty_via (w := .int (j - x)) (fun G => by rw [s_bin, s_c, s_var]; exact ⟨_, h, rfl, rfl⟩) fun _ => gv.int g
theorem ty_sub_vc {i : Nat} {j x : Int} (h : E[i]? = some (some (.int x))) (g : smallI (x - j) = true) : TyE r d c E G0 ns (mBin subW (mVar i) (mC (.int j))) :=
  ty_via (w := .int (x - j)) (fun G => by rw [s_bin, s_var]; exact ⟨_, h, rfl, rfl⟩) fun _ => gv.int g
theorem ty_strof {i : Nat} {x : Int} (h : E[i]? = some (some (.int x))) (g : smallI x = true) : TyE r d c E G0 ns (mCall strW (mCons (mVar i) mNil)) :=
  ty_via (w := .str (toString x)) (fun G => by
    rw [s_call, s_cons, s_var]
    refine ⟨_, h, ?_⟩
    rw [s_nil]
    show (if x.natAbs.log2 < 1920 then _ else _ : Rs W).sat _
    rw [if_pos (smallI_show x g).1]
    exact ⟨rfl, rfl⟩) fun _ => gv.str ⟨smallI_str x g, (smallI_show x g).2⟩
theorem ty_listof {i n : Nat} {ws : List W} (h : E[i]? = some (some (.tup ws))) (g : ∀ x ∈ ws, gv [r, d] G0 ns x) (hl : ws.length ≤ n) : TyE r d c E G0 (n :: ns) (mCall listW (mCons (mVar i) mNil)) := fun G f hr => by
  rw [s_call, s_cons, s_var]
  refine ⟨_, h, ?_⟩
  have hlt := hr.lt
  exact ⟨⟨by simp; omega, .inr ⟨ws, push_get _ _, hl, fun x hx => (g x hx).mono (f.trans Fr.push)⟩⟩, hr.push, Fr.push⟩
theorem ty_cat {i n k : Nat} {ws : List W} {m : MA} (h : E[i]? = some (some (.tup ws))) (g : ∀ x ∈ ws, gv [r, d] G0 ns x) (h' : TyA r d c E G0 k ns m) (hl : ws.length + k ≤ n) (hn : n ≤ 1000 := by decide) : TyE r d c E G0 (n :: ns) (mBin addW (mVar i) (mTup m)) := fun G f hr => by
  rw [s_bin, s_var]
  refine ⟨_, h, ?_⟩
  rw [s_tup]
  refine (h' G f hr).mono fun us G1 q => ⟨le_line (by omega), ?_⟩
  obtain ⟨⟨q1, q2⟩, q3, q4⟩ := q
  have hs : ws.length + us.length ≤ sizeLine := le_line (by omega)
  have e : addW G1 (.tup ws) (.tup us) = .ok (.tup (ws ++ us)) G1 := by unfold addW; simp only [hs, if_true]
  rw [e]
  refine ⟨⟨by simp; omega, fun x hx => ?_⟩, q3, q4⟩
  rcases List.mem_append.mp hx with hx | hx
  · exact (g x hx).mono (f.trans q4)
  · exact q2 x hx
theorem itm_gv {w : W} (h : itm w) (G : Cells) : gv [r, d] G [5, 1] w := by
  have s1 : (reprText ("label" : Str)).length ≤ 40 ∧ ("label" : Str).length ≤ 40 := by decide +kernel
  have s2 : (reprText ("fill" : Str)).length ≤ 40 ∧ ("fill" : Str).length ≤ 40 := by decide +kernel
  have s3 : (reprText ("jump" : Str)).length ≤ 40 ∧ ("jump" : Str).length ≤ 40 := by decide +kernel
  rcases h with rfl | ⟨i, rfl, h1, h2⟩ | ⟨t, a, b, rfl, h1, h2, h3, h4, h5⟩
  · exact ⟨by simp, fun x hx => by rw [List.mem_singleton.mp hx]; exact gv.str s1⟩
  · refine ⟨by simp, fun x hx => ?_⟩
    simp only [List.mem_cons, List.not_mem_nil, or_false] at hx
    rcases hx with rfl | rfl
    · exact gv.str s2
    · exact gv.int' ⟨h1, h2⟩
  · refine ⟨by simp, fun x hx => ?_⟩
    simp only [List.mem_cons, List.not_mem_nil, or_false] at hx
    rcases hx with rfl | rfl | rfl | rfl
    · exact gv.str s3
    · exact gv.int h1
    · exact gv.int' ⟨by omega, by omega⟩
    · exact gv.int' ⟨by omega, by omega⟩
/-- the places that no label holds -/
theorem tl_enum {ws : List W} (h1 : E[1]? = some (some (.tup ws))) (hl : ws.length ≤ 24) (hw : ∀ x ∈ ws, itm x) (hE : ∀ x y, ((wipeE E [12, 11]).set 12 x).set 11 y = (E.set 12 x).set 11 y) (hEl : E.length = 13) :
    TyL r d c E G0 0 24 [] (mLc (mEnum (mCons (mVar 1) (mNil))) (gTupW 2 (gsCons 12 (gsCons 11 (gsNil)))) (mTest (mBin neOp (mBin getW (mVar 11) (mC (.int 0))) (mC (.str "label")))) (mVar 12) [12, 11]) := fun G f hr => by
  have hlt := hr.lt
  refine lc_sat (ws.mapIdx fun i w => W.tup [.int i, w]) (fun G1 i acc G' => Fr [G1.length] (G1 ++ [.lst []]) G' ∧ RI r d c G' ∧ i ≤ ws.length ∧ acc.length ≤ i ∧ ∀ x ∈ acc, ∃ j : Nat, x = .int j ∧ j < 24) ?_
  rw [s_enum, s_var]
  refine ⟨_, h1, .inr ⟨ws, rfl, by simp [PIt.len], ⟨Fr.refl, hr.push, by omega, by simp, by simp⟩, fun i acc G' _ _ => enT_at i, ?_, ?_⟩⟩
  · rintro i w acc G' hw' ⟨f1, hr1, hi, hj, hj2⟩ hacc
    obtain ⟨x, hx, rfl⟩ := mapIdx_get hw'
    have hil := lt_of_getW hx
    rw [show gTupW 2 (gsCons 12 (gsCons 11 gsNil)) (.tup [.int i, x]) (wipeE E [12, 11]) G' = .ok (((wipeE E [12, 11]).set 12 (some (.int i))).set 11 (some x)) G' from rfl, sat_ok, hE]
    have e11 : ((E.set 12 (some (.int i))).set 11 (some x))[11]? = some (some x) := by simp [hEl]
    have e12 : ((E.set 12 (some (.int i))).set 11 (some x))[12]? = some (some (.int i)) := by rw [List.getElem?_set_ne (by decide)]; simp [hEl]
    have hx0 : ∃ y rest, x = .tup (.str y :: rest) := by
      rcases hw x (List.mem_of_getElem? hx) with rfl | ⟨_, rfl, _⟩ | ⟨_, _, _, rfl, _⟩ <;> exact ⟨_, _, rfl⟩
    obtain ⟨y, rest, rfl⟩ := hx0
    rw [s_test, s_bin, s_bin, s_var]
    refine ⟨_, e11, ?_⟩
    simp only [s_c, get0, sat_ok, neOp_ss, W.bl.injEq, exists_eq_left', s_var]
    refine hif (fun hc => ?_) fun hc => ?_
    · refine ⟨_, e12, hacc, by have := le_line (n := 30) (by omega); omega, f1.trans (Fr.set (by simp)), hr1.setOther (by omega) (by omega) (by omega), by omega, by simp; omega, ?_⟩
      intro z hz
      rcases List.mem_append.mp hz with h | h
      · exact hj2 z h
      · exact ⟨i, List.mem_singleton.mp h, by omega⟩
    · exact ⟨hacc, f1, hr1, by omega, by omega, hj2⟩
  · rintro acc G' hacc ⟨f1, hr1, hi, hj, hj2⟩
    simp only [List.length_mapIdx] at hj
    refine ⟨⟨_, acc, rfl, by omega, by omega, hacc, by omega, by omega, fun x hx => ?_⟩, hr1, (Fr.push (S := [r, d]) (c := .lst [])).fresh (Nat.le_refl _) (f1.sub (by simp))⟩
    obtain ⟨j, rfl, hj⟩ := hj2 x hx
    exact gv.int' ⟨by omega, by omega⟩
end
end NS
/- part S9 -/
set_option maxHeartbeats 4000000
namespace NS
open PySem PySem.Spec PyProof.Rows L2 PL
theorem l51 {S : List Nat} {G : Cells} {w : W} (h : gv S G [1] w) : gv S G [1] w := h
theorem odd_ok {r d c : Nat} {G : Cells} {ws : List W} {w : W} (h : RI r d c G) (hl : ws.length ≤ 24) (hws : ∀ x ∈ ws, itm x) (hw : itm w) :
    (M_law_odd_item [.ref r, .tup ws, w] G).sat fun w G' => gv [r, d] G' [5, 1] w ∧ RI r d c G' ∧ Fr [r, d] G G' := by
  refine fun_sat rfl ?_
  show (B_law_odd_item [some (.ref r), some (.tup ws), some w, none, none, none, none, none, none, none, none, none, none] G).sat _ _
  refine so_seq (so_set ?_)
  simp only [s_bin, s_def, s_call, s_cons, s_nil, s_var, s_c, s_lst, s_tup, s_test, s_tru, s_notT, s_andT, s_orT, s_if, s_neg, s_meth, s_and, s_or, s_not, s_chain, s_chain3, List.getElem?_cons_zero, List.getElem?_cons_succ, Option.some.injEq, exists_eq_left', sat_ok, add_int, sub_int, List.set_cons_succ, List.set_cons_zero, List.length_cons, List.length_nil, len_tup]
  have hsz : smallI (ws.length : Int) = true := by unfold smallI; simp; omega
  refine so_ty (P := fun G w => LV r d G 12 12 [5, 1] w) (c := c) (G0 := G) (tl_lst ?a1) Fr.refl h fun v1 G1 p1 h1 f1 => ?_
  case a1 =>
    (repeat' (first | exact ty_str | exact ty_int | exact ty_negc | exact ty_non | exact ty_bl | exact ty_dict0 | exact ta_nil | exact ty_pow30 | exact ty_npow30 | apply ta_cons | apply ty_tup' | apply ty_lst' | exact ty_var rfl (gv.int ‹_›) | exact ty_var rfl (gv.str (by decide +kernel)) | exact ty_sub_cv rfl (by unfold smallI; simp; omega) | exact ty_sub_vc rfl (by unfold smallI; simp; omega)))
    all_goals decide
  refine so_ty (P := fun G w => LV r d G 25 25 [5, 1] w) (c := c) (G0 := G1) (tl_add (lo := 23) (k := 23) (lo' := 2) (k' := 2) (tl_add (lo := 12) (k := 12) (lo' := 11) (k' := 11) (tl_var rfl p1) (tl_lc (ms := [1]) (fun x => .tup [.str "fill", x]) (fun _ => rfl) (ti_tup ?a2) ?b2 ?c2)) (tl_lst ?d2)) Fr.refl h1 fun v2 G2 p2 h2 f2 => ?_
  case a2 =>
    (repeat' (first | exact ty_str | exact ty_int | exact ty_negc | exact ty_non | exact ty_bl | exact ty_dict0 | exact ta_nil | exact ty_pow30 | exact ty_npow30 | apply ta_cons | apply ty_tup' | apply ty_lst' | exact ty_var rfl (gv.int ‹_›) | exact ty_var rfl (gv.str (by decide +kernel)) | exact ty_sub_cv rfl (by unfold smallI; simp; omega) | exact ty_sub_vc rfl (by unfold smallI; simp; omega)))
    all_goals decide
  case b2 => intro w G1; simp [s_tup, s_cons, s_var, s_c, s_nil, wipeE, le_line]
  case c2 =>
    intro x G1 _ hx
    refine ⟨by simp, fun y hy => ?_⟩
    simp only [List.mem_cons, List.not_mem_nil, or_false] at hy
    rcases hy with rfl | rfl
    · exact gv.str (by decide +kernel)
    · exact hx
  case d2 =>
    (repeat' (first | exact ty_str | exact ty_int | exact ty_negc | exact ty_non | exact ty_bl | exact ty_dict0 | exact ta_nil | exact ty_pow30 | exact ty_npow30 | apply ta_cons | apply ty_tup' | apply ty_lst' | exact ty_var rfl (gv.int ‹_›) | exact ty_var rfl (gv.str (by decide +kernel)) | exact ty_sub_cv rfl (by unfold smallI; simp; omega) | exact ty_sub_vc rfl (by unfold smallI; simp; omega)))
    all_goals decide
  refine so_ty (P := fun G w => LV r d G 30 30 [5, 1] w) (c := c) (G0 := G2) (tl_add (lo := 25) (k := 25) (lo' := 5) (k' := 5) (tl_var rfl p2) (tl_lst ?a3)) Fr.refl h2 fun v3 G3 p3 h3 f3 => ?_
  case a3 =>
    (repeat' (first | exact ty_str | exact ty_int | exact ty_negc | exact ty_non | exact ty_bl | exact ty_dict0 | exact ta_nil | exact ty_pow30 | exact ty_npow30 | apply ta_cons | apply ty_tup' | apply ty_lst' | exact ty_var rfl (gv.int ‹_›) | exact ty_var rfl (gv.str (by decide +kernel)) | exact ty_sub_cv rfl (by unfold smallI; simp; omega) | exact ty_sub_vc rfl (by unfold smallI; simp; omega)))
    all_goals decide
  have f123 := f1.trans (f2.trans f3)
  refine so_seq (so_if ?_)
  have fin1 : ∀ N, (sRet (mDef M_law_pick (mCons (mVar 0) (mCons (mVar 4) (mNil)))) [some (.ref r), some (.tup ws), some w, some (.int ws.length), some v3, none, none, none, none, none, none, none, none] G3).sat N fun w G' => gv [r, d] G' [5, 1] w ∧ RI r d c G' ∧ Fr [r, d] G G' := by
    intro N
    refine so_ret (Ty.run (G0 := G3) (P := fun G w => gv [r, d] G [5, 1] w) Fr.refl h3 (fun w G' q1 q2 q3 => ⟨q1, q2, f123.trans q3⟩) ?_)
    exact ty_pick (lo := 30) (k := 30) rfl (tl_var rfl p3)
  rcases hw with rfl | ⟨i, rfl, i1, i2⟩ | ⟨t, a, b, rfl, t1, a1, a2, b1, b2⟩
  · show ((mTest (mBin neOp (mBin getW (mVar 2) (mC (.int 0))) (mC (.str "jump")))) [some (.ref r), some (.tup ws), some (.tup [.str "label"]), some (.int ws.length), some v3, none, none, none, none, none, none, none, none] G3).sat _
    simp only [s_bin, s_def, s_call, s_cons, s_nil, s_var, s_c, s_lst, s_tup, s_test, s_tru, s_notT, s_andT, s_orT, s_if, s_neg, s_meth, s_and, s_or, s_not, s_chain, s_chain3, List.getElem?_cons_zero, List.getElem?_cons_succ, Option.some.injEq, exists_eq_left', sat_ok, add_int, sub_int, List.set_cons_succ, List.set_cons_zero, List.length_cons, List.length_nil, get0, neOp_ss, W.bl.injEq, n_lj, decide_false, Bool.not_false, if_true]
    exact fin1 _
  · show ((mTest (mBin neOp (mBin getW (mVar 2) (mC (.int 0))) (mC (.str "jump")))) [some (.ref r), some (.tup ws), some (.tup [.str "fill", .int i]), some (.int ws.length), some v3, none, none, none, none, none, none, none, none] G3).sat _
    simp only [s_bin, s_def, s_call, s_cons, s_nil, s_var, s_c, s_lst, s_tup, s_test, s_tru, s_notT, s_andT, s_orT, s_if, s_neg, s_meth, s_and, s_or, s_not, s_chain, s_chain3, List.getElem?_cons_zero, List.getElem?_cons_succ, Option.some.injEq, exists_eq_left', sat_ok, add_int, sub_int, List.set_cons_succ, List.set_cons_zero, List.length_cons, List.length_nil, get0, neOp_ss, W.bl.injEq, n_fj, decide_false, Bool.not_false, if_true]
    exact fin1 _
  show ((mTest (mBin neOp (mBin getW (mVar 2) (mC (.int 0))) (mC (.str "jump")))) [some (.ref r), some (.tup ws), some (.tup [.str "jump", .int t, .int a, .int b]), some (.int ws.length), some v3, none, none, none, none, none, none, none, none] G3).sat _
  simp only [s_bin, s_def, s_call, s_cons, s_nil, s_var, s_c, s_lst, s_tup, s_test, s_tru, s_notT, s_andT, s_orT, s_if, s_neg, s_meth, s_and, s_or, s_not, s_chain, s_chain3, List.getElem?_cons_zero, List.getElem?_cons_succ, Option.some.injEq, exists_eq_left', sat_ok, add_int, sub_int, List.set_cons_succ, List.set_cons_zero, List.length_cons, List.length_nil, get0, neOp_ss, W.bl.injEq, decide_true, Bool.not_true, Bool.false_eq_true, if_false]
  refine so_nx (so_seq (so_asg ?_))
  rw [s_var]
  refine ⟨_, rfl, ?_⟩
  have sa : smallI a = true := by unfold smallI; simp; omega
  have sb : smallI b = true := by unfold smallI; simp; omega
  have ge : gv [r, d] G3 [5, 1] (.tup [.str "jump", .int t, .int a, .int b]) := itm_gv (.inr (.inr ⟨t, a, b, rfl, t1, a1, a2, b1, b2⟩)) G3
  show (sSeq _ _ [some (.ref r), some (.tup ws), some (.tup [.str "jump", .int t, .int a, .int b]), some (.int ws.length), some v3, some (.str "jump"), some (.int t), some (.int a), some (.int b), none, none, none, none] G3).sat _ _
  refine so_ty (P := fun G w => LV r d G 4 4 [5, 1] w) (c := c) (G0 := G3) (tl_lst ?a4) Fr.refl h3 fun v4 G4 p4 h4 f4 => ?_
  case a4 =>
    (repeat' (first | exact ty_str | exact ty_int | exact ty_negc | exact ty_non | exact ty_bl | exact ty_dict0 | exact ta_nil | exact ty_pow30 | exact ty_npow30 | apply ta_cons | apply ty_tup' | apply ty_lst' | exact ty_var rfl (gv.int ‹_›) | exact ty_var rfl (gv.str (by decide +kernel)) | exact ty_sub_cv rfl (by unfold smallI; simp; omega) | exact ty_sub_vc rfl (by unfold smallI; simp; omega)))
    all_goals decide
  refine so_ty (P := fun G w => LV r d G 9 9 [5, 1] w) (c := c) (G0 := G4) (tl_add (lo := 4) (k := 4) (lo' := 5) (k' := 5) (tl_var rfl p4) (tl_lst ?a5)) Fr.refl h4 fun v5 G5 p5 h5 f5 => ?_
  case a5 =>
    (repeat' (first | exact ty_cat (k := 1) rfl (ge.mono f4).2 (ta_cons ty_int ta_nil) (by simp) | exact ty_listof rfl (ge.mono f4).2 (by simp) | (first | exact ty_str | exact ty_int | exact ty_negc | exact ty_non | exact ty_bl | exact ty_dict0 | exact ta_nil | exact ty_pow30 | exact ty_npow30 | apply ta_cons | apply ty_tup' | apply ty_lst' | exact ty_var rfl (gv.int ‹_›) | exact ty_var rfl (gv.str (by decide +kernel)) | exact ty_sub_cv rfl (by unfold smallI; simp; omega) | exact ty_sub_vc rfl (by unfold smallI; simp; omega))))
    all_goals decide
  refine so_ty (P := fun G w => LV r d G 13 13 [5, 1] w) (c := c) (G0 := G5) (tl_add (lo := 9) (k := 9) (lo' := 4) (k' := 4) (tl_var rfl p5) (tl_lst ?a6)) Fr.refl h5 fun v6 G6 p6 h6 f6 => ?_
  case a6 =>
    (repeat' (first | exact ty_strof rfl t1 | (first | exact ty_str | exact ty_int | exact ty_negc | exact ty_non | exact ty_bl | exact ty_dict0 | exact ta_nil | exact ty_pow30 | exact ty_npow30 | apply ta_cons | apply ty_tup' | apply ty_lst' | exact ty_var rfl (gv.int ‹_›) | exact ty_var rfl (gv.str (by decide +kernel)) | exact ty_sub_cv rfl (by unfold smallI; simp; omega) | exact ty_sub_vc rfl (by unfold smallI; simp; omega))))
    all_goals decide
  refine so_ty (P := fun G w => LV r d G 17 17 [5, 1] w) (c := c) (G0 := G6) (tl_add (lo := 13) (k := 13) (lo' := 4) (k' := 4) (tl_var rfl p6) (tl_lc (ms := [1]) (fun x => .tup [.str "jump", .int t, x, .int b]) (fun _ => rfl) (ti_tup ?a7) ?b7 ?c7)) Fr.refl h6 fun v7 G7 p7 h7 f7 => ?_
  case a7 =>
    (repeat' (first | exact ty_str | exact ty_int | exact ty_negc | exact ty_non | exact ty_bl | exact ty_dict0 | exact ta_nil | exact ty_pow30 | exact ty_npow30 | apply ta_cons | apply ty_tup' | apply ty_lst' | exact ty_var rfl (gv.int ‹_›) | exact ty_var rfl (gv.str (by decide +kernel)) | exact ty_sub_cv rfl (by unfold smallI; simp; omega) | exact ty_sub_vc rfl (by unfold smallI; simp; omega)))
    all_goals decide
  case b7 => intro w G1; simp [s_tup, s_cons, s_var, s_c, s_nil, wipeE, le_line]
  case c7 =>
    intro x G1 _ hx
    refine ⟨by simp, fun y hy => ?_⟩
    simp only [List.mem_cons, List.not_mem_nil, or_false] at hy
    rcases hy with rfl | rfl | rfl | rfl
    · exact gv.str (by decide +kernel)
    · exact gv.int t1
    · exact hx
    · exact gv.int sb
  refine so_ty (P := fun G w => LV r d G 20 20 [5, 1] w) (c := c) (G0 := G7) (tl_add (lo := 17) (k := 17) (lo' := 3) (k' := 3) (tl_var rfl p7) (tl_lst ?a8)) Fr.refl h7 fun v8 G8 p8 h8 f8 => ?_
  case a8 =>
    (repeat' (first | exact ty_str | exact ty_int | exact ty_negc | exact ty_non | exact ty_bl | exact ty_dict0 | exact ta_nil | exact ty_pow30 | exact ty_npow30 | apply ta_cons | apply ty_tup' | apply ty_lst' | exact ty_var rfl (gv.int ‹_›) | exact ty_var rfl (gv.str (by decide +kernel)) | exact ty_sub_cv rfl (by unfold smallI; simp; omega) | exact ty_sub_vc rfl (by unfold smallI; simp; omega)))
    all_goals decide
  refine so_ty (P := fun G w => LV r d G 7 7 [] w) (c := c) (G0 := G8) (tl_lst ?a9) Fr.refl h8 fun v9 G9 p9 h9 f9 => ?_
  case a9 =>
    (repeat' (first | exact ty_str | exact ty_int | exact ty_negc | exact ty_non | exact ty_bl | exact ty_dict0 | exact ta_nil | exact ty_pow30 | exact ty_npow30 | apply ta_cons | apply ty_tup' | apply ty_lst' | exact ty_var rfl (gv.int ‹_›) | exact ty_var rfl (gv.str (by decide +kernel)) | exact ty_sub_cv rfl (by unfold smallI; simp; omega) | exact ty_sub_vc rfl (by unfold smallI; simp; omega)))
    all_goals decide
  refine so_ty (P := fun G w => LV r d G 7 31 [] w) (c := c) (G0 := G9) (tl_add (lo := 7) (k := 7) (lo' := 0) (k' := 24) (tl_var rfl p9) (tl_enum rfl hl hws (fun _ _ => rfl) rfl)) Fr.refl h9 fun v10 G10 p10 h10 f10 => ?_
  have f310 := f4.trans (f5.trans (f6.trans (f7.trans (f8.trans (f9.trans f10)))))
  refine so_ret (Ty.run (G0 := G10) (P := fun G w => gv [r, d] G [5, 1] w) Fr.refl h10 (fun w G' q1 q2 q3 => ⟨q1, q2, f123.trans (f310.trans q3)⟩) (ty_pick (lo := 28) (k := 52) rfl (tl_add (lo := 27) (k := 51) (lo' := 1) (k' := 1) (tl_add (lo := 20) (k := 20) (lo' := 7) (k' := 31) (tl_var rfl (p8.mono (f9.trans f10))) (tl_lc (ms := []) (fun x => .tup [.str "jump", x, .int a, .int b]) (fun _ => rfl) (ti_lst (tl_var rfl p10)) ?b11 ?c11)) (tl_lst (ta_cons (ty_pick (lo := 30) (k := 30) rfl (tl_var rfl (p3.mono f310))) ta_nil)))))
  case b11 => intro w G1; simp [s_tup, s_cons, s_var, s_c, s_nil, wipeE, le_line]
  case c11 =>
    intro x G1 _ hx
    refine ⟨by simp, fun y hy => ?_⟩
    simp only [List.mem_cons, List.not_mem_nil, or_false] at hy
    rcases hy with rfl | rfl | rfl | rfl
    · exact gv.str (by decide +kernel)
    · exact hx.wide (.nil _)
    · exact gv.int sa
    · exact gv.int sb
end NS
/- part Sa -/
set_option maxHeartbeats 4000000
namespace NS
open PySem PySem.Spec PyProof.Rows L2 PL
def TT (r d : Nat) (G : Cells) (k : Nat) (ns : List Nat) (w : W) : Prop := ∃ ws, w = .tup ws ∧ ws.length ≤ k ∧ ∀ x ∈ ws, gv [r, d] G ns x
theorem TT.mono {r d : Nat} {G G' : Cells} {k : Nat} {ns : List Nat} {w : W} (h : TT r d G k ns w) (f : Fr [r, d] G G') : TT r d G' k ns w := by
  obtain ⟨ws, rfl, h1, h2⟩ := h
  exact ⟨ws, rfl, h1, fun x hx => (h2 x hx).mono f⟩
section
variable {r d c : Nat} {E : PEnv} {G0 : Cells} {ns : List Nat}
theorem Ty.weak {m : ME} {P P' : Cells → W → Prop} (h : Ty r d c E G0 m P) (k : ∀ G w, P G w → P' G w) : Ty r d c E G0 m P' := fun G f hr => (h G f hr).mono fun w G' q => ⟨k _ _ q.1, q.2⟩
theorem ty_of_tt {m : ME} {k n : Nat} (h : Ty r d c E G0 m fun G w => TT r d G k ns w) (hk : k ≤ n) : TyE r d c E G0 (n :: ns) m := h.weak fun G w ⟨ws, e, h1, h2⟩ => by subst e; exact ⟨by omega, h2⟩
theorem tt_var {i k : Nat} {w : W} (h : E[i]? = some (some w)) (g : TT r d G0 k ns w) : Ty r d c E G0 (mVar i) fun G w => TT r d G k ns w := fun G f hr => by
  rw [s_var]; exact ⟨w, h, g.mono f, hr, Fr.refl⟩
theorem tt_tup {m : MA} {k : Nat} (h : TyA r d c E G0 k ns m) (hn : k ≤ 1000) : Ty r d c E G0 (mTup m) fun G w => TT r d G k ns w := fun G f hr => by
  rw [s_tup]
  refine (h G f hr).mono fun ws G1 q => ?_
  obtain ⟨⟨q1, q2⟩, q3, q4⟩ := q
  exact ⟨le_line (by omega), ⟨ws, rfl, by omega, q2⟩, q3, q4⟩
theorem tt_add {a b : ME} {k k' : Nat} (h : Ty r d c E G0 a fun G w => TT r d G k ns w) (h' : Ty r d c E G0 b fun G w => TT r d G k' ns w) (hk : k + k' ≤ 1000) : Ty r d c E G0 (mBin addW a b) fun G w => TT r d G (k + k') ns w := fun G f hr => by
  rw [s_bin]
  refine (h G f hr).mono fun w G1 q => ?_
  obtain ⟨q1, q2, q3⟩ := q
  refine (h' G1 (f.trans q3) q2).mono fun w2 G2 p => ?_
  obtain ⟨⟨us, rfl, a1, a2⟩, p3, p4⟩ := p
  obtain ⟨ws, rfl, b1, b2⟩ := q1.mono p4
  have hs : ws.length + us.length ≤ sizeLine := le_line (by omega)
  have e : addW G2 (.tup ws) (.tup us) = .ok (.tup (ws ++ us)) G2 := by unfold addW; simp only [hs, if_true]
  rw [e]
  refine ⟨⟨_, rfl, by simp; omega, fun x hx => ?_⟩, p3, q3.trans p4⟩
  rcases List.mem_append.mp hx with hx | hx
  · exact b2 x hx
  · exact a2 x hx
theorem flat_mem {x y : W} : ∀ n : Nat, y ∈ (List.replicate n [x]).flatten → y = x := by
  intro n
  induction n with
  | zero => intro h; simp at h
  | succ n ih =>
    intro h
    rw [List.replicate_succ, List.flatten_cons] at h
    rcases List.mem_append.mp h with h | h
    · exact List.mem_singleton.mp h
    · exact ih h
theorem flat_len {x : W} : ∀ n : Nat, (List.replicate n [x]).flatten.length = n := by
  intro n
  induction n with
  | zero => rfl
  | succ n ih => rw [List.replicate_succ, List.flatten_cons, List.length_append, ih]; simp; omega
theorem tt_rep {a : ME} {b : ME} {k : Nat} (h : TyE r d c E G0 ns a) (h' : Ty r d c E G0 b fun _ w => ∃ i : Int, w = .int i ∧ 1 ≤ i ∧ i ≤ k) (hk : k ≤ 100) : Ty r d c E G0 (mBin mulW (mTup (mCons a mNil)) b) fun G w => TT r d G k ns w := fun G f hr => by
  rw [s_bin, s_tup, s_cons]
  refine (h G f hr).mono fun w G1 q => ?_
  obtain ⟨q1, q2, q3⟩ := q
  rw [s_nil]
  refine ⟨le_line (by simp), ?_⟩
  refine (h' G1 (f.trans q3) q2).mono fun w2 G2 p => ?_
  obtain ⟨⟨i, rfl, i1, i2⟩, p3, p4⟩ := p
  have key : mulW G2 (.tup [w]) (.int i) = .ok (.tup (List.replicate i.toNat [w]).flatten) G2 := by
    unfold mulW
    by_cases h1 : i = 1
    · subst h1; rfl
    · have e1 : ((([w] : List W).isEmpty || i == 1) && decide (-(2 ^ 62) ≤ i) && decide (i ≤ 2 ^ 62)) = false := by simp [h1]
      have e2 : (!([w] : List W).isEmpty && decide (2 ≤ i) && decide (i ≤ 1000) && decide (([w] : List W).length ≤ 1000)) = true := by simp; omega
      simp only [e1, e2, Bool.false_eq_true, if_false, if_true]
  rw [key]
  refine ⟨⟨_, rfl, by rw [flat_len]; omega, fun x hx => ?_⟩, p3, q3.trans p4⟩
  rw [flat_mem _ hx]; exact q1.mono p4
theorem ti_c {i : Int} {k : Nat} (h : 1 ≤ i ∧ i ≤ k) : Ty r d c E G0 (mC (.int i)) fun _ w => ∃ i : Int, w = .int i ∧ 1 ≤ i ∧ i ≤ k := fun G f hr => ⟨⟨i, rfl, h⟩, hr, Fr.refl⟩
theorem tt_cut {i k : Nat} {lo hi : MO} {w : W} (h : E[i]? = some (some w)) (g : TT r d G0 k ns w) (hlo : ∀ G, ∃ o, lo E G = .ok o G) (hhi : ∀ G, ∃ o, hi E G = .ok o G) : Ty r d c E G0 (mCut (mVar i) lo hi) fun G w => TT r d G k ns w := fun G f hr => by
  rw [s_cut, s_var]
  refine ⟨w, h, ?_⟩
  obtain ⟨o1, e1⟩ := hlo G
  obtain ⟨o2, e2⟩ := hhi G
  obtain ⟨ws, rfl, g1, g2⟩ := g.mono f
  rw [e1, sat_ok, e2, sat_ok]
  refine ⟨⟨cutW ws o1 o2, rfl, ?_, fun x hx => ?_⟩, hr, Fr.refl⟩
  · unfold cutW; rw [List.length_take, List.length_drop]; omega
  · unfold cutW at hx; exact g2 x (List.mem_of_mem_drop (List.mem_of_mem_take hx))
end
def skl (ws : List W) : Prop := 1 ≤ ws.length ∧ ws.length ≤ 24 ∧ ∀ w ∈ ws, itm w
abbrev NSV : List Nat := [60, 60, 5, 1]
theorem w51 {S : List Nat} {G : Cells} {w : W} (h : gv S G [5, 1] w) : gv S G [60, 5, 1] w := h.wide (.cons (by decide) (.cons (by decide) (.nil _)))
theorem skl_tt {r d : Nat} {G : Cells} {ws : List W} (h : skl ws) : TT r d G 24 [60, 5, 1] (.tup ws) := ⟨ws, rfl, h.2.1, fun x hx => w51 (itm_gv (h.2.2 x hx) G)⟩
theorem spoilt_ok {r d c : Nat} {G : Cells} {ws : List W} (h : RI r d c G) (hs : skl ws) :
    (M_law_spoilt [.ref r, .tup ws] G).sat fun w G' => gv [r, d] G' NSV w ∧ RI r d c G' ∧ Fr [r, d] G G' := by
  have hl := hs.1
  have hl2 := hs.2.1
  refine fun_sat rfl ?_
  show (B_law_spoilt [some (.ref r), some (.tup ws), none, none, none, none] G).sat _ _
  refine so_seq (so_par ?_)
  simp only [s_bin, s_def, s_call, s_cons, s_nil, s_var, s_c, s_lst, s_tup, s_test, s_tru, s_notT, s_andT, s_orT, s_if, s_neg, s_meth, s_and, s_or, s_not, s_chain, s_chain3, List.getElem?_cons_zero, List.getElem?_cons_succ, Option.some.injEq, exists_eq_left', sat_ok, add_int, sub_int, List.set_cons_succ, List.set_cons_zero, List.length_cons, List.length_nil, len_tup]
  refine (draw_ok h (by omega) (by omega)).mono fun w G1 q => ?_
  obtain ⟨⟨p, rfl, p1, p2⟩, h1, f1⟩ := q
  refine (draw_ok h1 (by decide) (by decide)).mono fun w G2 q => ?_
  obtain ⟨⟨kk, rfl, k1, k2⟩, h2, f2⟩ := q
  have f12 := f1.trans f2
  refine ⟨_, _, rfl, ?_⟩
  show (sSeq _ _ [some (.ref r), some (.tup ws), some (.int p), some (.int kk), none, none] G2).sat _ _
  refine so_seq (so_if ?_)
  simp only [s_bin, s_def, s_call, s_cons, s_nil, s_var, s_c, s_lst, s_tup, s_test, s_tru, s_notT, s_andT, s_orT, s_if, s_neg, s_meth, s_and, s_or, s_not, s_chain, s_chain3, List.getElem?_cons_zero, List.getElem?_cons_succ, Option.some.injEq, exists_eq_left', sat_ok, add_int, sub_int, List.set_cons_succ, List.set_cons_zero, List.length_cons, List.length_nil, eqOp_int, W.bl.injEq]
  refine hif (fun hc => ?_) fun hc => ?_
  · refine so_ty (P := fun G w => LV r d G 9 9 NSV w) (c := c) (G0 := G2) (tl_lst ?a1) Fr.refl h2 fun v G3 p3 h3 f3 => ?_
    case a1 =>
      refine ta_cons (ty_listof rfl (fun x hx => w51 (itm_gv (hs.2.2 x hx) _)) (by omega)) ?_
      refine ta_cons (ty_tup' ta_nil (by decide) (by decide)) (ta_cons ty_non (ta_cons ?_ (ta_cons ty_str (ta_cons ty_int (ta_cons ty_dict0 (ta_cons ?_ (ta_cons ?_ ta_nil)))))))
      · refine ty_of_tt (k := 48) ?_ (by decide)
        exact tt_add (k := 24) (k' := 24) (tt_var rfl (skl_tt hs)) (tt_rep (ty_tup' (ta_cons ty_str ta_nil) (by decide) (by decide)) (ti_c (by decide)) (by decide)) (by decide)
      · exact ty_tup' (ta_cons (ty_of_tt (tt_var rfl ⟨ws, rfl, hl2, fun x hx => itm_gv (hs.2.2 x hx) _⟩) (by decide)) ta_nil) (by decide) (by decide)
      · exact ty_of_tt (tt_rep (k := 25) (ty_tup' (ta_cons ty_str ta_nil) (by decide) (by decide)) (ti_c (by decide)) (by decide)) (by decide)
    refine so_ret (Ty.run (G0 := G3) (P := fun G w => gv [r, d] G NSV w) Fr.refl h3 (fun w G' q1 q2 q3 => ⟨q1, q2, f12.trans (f3.trans q3)⟩) ?_)
    exact ty_pick (lo := 9) (k := 9) rfl (tl_var rfl p3)
  refine so_nx (so_seq (so_if ?_))
  simp only [s_bin, s_def, s_call, s_cons, s_nil, s_var, s_c, s_lst, s_tup, s_test, s_tru, s_notT, s_andT, s_orT, s_if, s_neg, s_meth, s_and, s_or, s_not, s_chain, s_chain3, List.getElem?_cons_zero, List.getElem?_cons_succ, Option.some.injEq, exists_eq_left', sat_ok, add_int, sub_int, List.set_cons_succ, List.set_cons_zero, List.length_cons, List.length_nil, eqOp_int, W.bl.injEq]
  have cutA : Ty r d c [some (.ref r), some (.tup ws), some (.int p), some (.int kk), none, none] G2 (mCut (mVar 1) (mNoPart) (mPart (mVar 2))) fun G w => TT r d G 24 [60, 5, 1] w := tt_cut rfl (skl_tt hs) (fun G => ⟨none, rfl⟩) (fun G => ⟨some p, rfl⟩)
  have cutB : Ty r d c [some (.ref r), some (.tup ws), some (.int p), some (.int kk), none, none] G2 (mCut (mVar 1) (mPart (mBin addW (mVar 2) (mC (.int 1)))) (mNoPart)) fun G w => TT r d G 24 [60, 5, 1] w := tt_cut rfl (skl_tt hs) (fun G => ⟨some (p + 1), rfl⟩) (fun G => ⟨none, rfl⟩)
  refine hif (fun hc => ?_) fun hc => ?_
  · refine so_ret (Ty.run (G0 := G2) (P := fun G w => gv [r, d] G NSV w) Fr.refl h2 (fun w G' q1 q2 q3 => ⟨q1, q2, f12.trans q3⟩) ?_)
    exact ty_of_tt (tt_add cutA cutB (by decide)) (by decide)
  refine so_nx (so_seq (so_if ?_))
  simp only [s_bin, s_def, s_call, s_cons, s_nil, s_var, s_c, s_lst, s_tup, s_test, s_tru, s_notT, s_andT, s_orT, s_if, s_neg, s_meth, s_and, s_or, s_not, s_chain, s_chain3, List.getElem?_cons_zero, List.getElem?_cons_succ, Option.some.injEq, exists_eq_left', sat_ok, add_int, sub_int, List.set_cons_succ, List.set_cons_zero, List.length_cons, List.length_nil, eqOp_int, W.bl.injEq]
  refine hif (fun hc => ?_) fun hc => ?_
  · have sp : smallI p = true := by unfold smallI; simp; omega
    refine so_ty (P := fun G w => gv [r, d] G [60, 5, 1] w) (c := c) (G0 := G2) (ty_tup' (k := 4) ?a2 (by decide) (by decide)) Fr.refl h2 fun v G3 p3 h3 f3 => ?_
    case a2 =>
      refine ta_cons ty_str (ta_cons (ty_pick (lo := 3) (k := 3) rfl (tl_lst (ta_cons ty_int (ta_cons (ty_var rfl (gv.int sp)) (ta_cons ?_ ta_nil))))) (ta_cons ty_int (ta_cons ty_int ta_nil)))
      exact ty_via (w := .int ws.length) (fun G => by rw [s_call, s_cons, s_var]; exact ⟨_, rfl, rfl, rfl⟩) fun G => gv.int' ⟨by omega, by omega⟩
    refine so_ret (Ty.run (G0 := G3) (P := fun G w => gv [r, d] G NSV w) Fr.refl h3 (fun w G' q1 q2 q3 => ⟨q1, q2, f12.trans (f3.trans q3)⟩) ?_)
    refine ty_of_tt (k := 24 + 9) (tt_add (tt_var rfl (skl_tt hs)) (tt_rep (k := 9) (ty_var rfl p3) ?_ (by decide)) (by decide)) (by decide)
    intro G4 f4 h4
    simp only [s_bin, s_def, s_call, s_cons, s_nil, s_var, s_c, s_lst, s_tup, s_test, s_tru, s_notT, s_andT, s_orT, s_if, s_neg, s_meth, s_and, s_or, s_not, s_chain, s_chain3, List.getElem?_cons_zero, List.getElem?_cons_succ, Option.some.injEq, exists_eq_left', sat_ok, add_int, sub_int, List.set_cons_succ, List.set_cons_zero, List.length_cons, List.length_nil]
    refine (draw_ok h4 (by decide) (by decide)).mono fun w G5 q => ?_
    obtain ⟨⟨j, rfl, j1, j2⟩, h5, f5⟩ := q
    exact ⟨⟨1 + j, rfl, by omega, by omega⟩, h5, f5⟩
  refine so_nx (so_ret (Ty.run (G0 := G2) (P := fun G w => gv [r, d] G NSV w) Fr.refl h2 (fun w G' q1 q2 q3 => ⟨q1, q2, f12.trans q3⟩) ?_))
  refine ty_of_tt (k := 24 + 1 + 24) (tt_add (tt_add cutA (tt_tup (k := 1) (ta_cons ?_ ta_nil) (by decide)) (by decide)) cutB (by decide)) (by decide)
  intro G4 f4 h4
  obtain ⟨y, y1, y2⟩ := get_tup (G := G4) (xs := ws) (i := p) p1 p2
  simp only [s_bin, s_def, s_call, s_cons, s_nil, s_var, s_c, s_lst, s_tup, s_test, s_tru, s_notT, s_andT, s_orT, s_if, s_neg, s_meth, s_and, s_or, s_not, s_chain, s_chain3, List.getElem?_cons_zero, List.getElem?_cons_succ, Option.some.injEq, exists_eq_left', sat_ok, add_int, sub_int, List.set_cons_succ, List.set_cons_zero, List.length_cons, List.length_nil, y2]
  refine (odd_ok h4 hl2 hs.2.2 (hs.2.2 y (List.mem_of_getElem? y1))).mono fun w G5 q => ?_
  exact ⟨w51 q.1, q.2.1, q.2.2⟩
end NS
/- part Sb -/
set_option maxHeartbeats 4000000
namespace NS
open PySem PySem.Spec PyProof.Rows L2 PL
theorem s_disp {m : MPs} {E : PEnv} {G : Cells} {Q : W → Cells → Prop} (h : (m E (G ++ [.dct []])).sat fun ps G' => G'[G.length]? = some (.dct []) ∧ ps.length ≤ 15 ∧ Q (.ref G.length) (G'.set G.length (.dct (mergeW [] ps)))) : (mDisp m E G).sat Q := by
  unfold mDisp
  refine h.bind fun ps G' q => ?_
  obtain ⟨h1, h2, h3⟩ := q
  simp only [h1, h2, if_true]
  exact h3
theorem s_mpCons {mk mv : ME} {r : MPs} {E : PEnv} {G : Cells} {Q : List (Key × W) → Cells → Prop} : (mpCons mk mv r E G).sat Q = (mk E G).sat fun x G1 => (mv E G1).sat fun y G2 => (r E G2).sat fun ps G3 => ∃ k, keyW x = some k ∧ Q ((k, y) :: ps) G3 := by
  unfold mpCons; rw [sat_bind]; congr; funext x G1; rw [sat_bind]; congr; funext y G2; rw [sat_bind]; congr; funext ps G3; cases keyW x <;> simp
theorem s_mpNil {E : PEnv} {G : Cells} {Q : List (Key × W) → Cells → Prop} : (mpNil E G).sat Q = Q [] G := rfl
theorem add_lst {G : Cells} {n m : Nat} {xs ys : List W} (h : G[n]? = some (.lst xs)) (h' : G[m]? = some (.lst ys)) (hl : xs.length + ys.length ≤ 1000) : addW G (.ref n) (.ref m) = .ok (.ref G.length) (G ++ [.lst (xs ++ ys)]) := by
  have := le_line hl
  unfold addW; simp only [h, h', this, if_true]
theorem reel_ok (ns : List Int) (hns : ns.length ≤ 63) :
    (M_law_reel [.ref 0] [.rol (ns.map W.int)]).sat fun w G => ∃ r d c, w = .ref r ∧ RI r d c G := by
  refine fun_sat rfl ?_
  show (B_law_reel [some (.ref 0), none, none, none, none] [.rol (ns.map W.int)]).sat _ _
  refine so_seq (so_par ?_)
  rw [s_cons]
  have hcut : ∀ x ∈ cutW (ns.map W.int) none (some 63), ∃ i, x = .int i := by
    intro x hx
    unfold cutW at hx
    obtain ⟨i, _, rfl⟩ := List.mem_map.mp (List.mem_of_mem_drop (List.mem_of_mem_take hx))
    exact ⟨i, rfl⟩
  have hcl : (cutW (ns.map W.int) none (some 63)).length ≤ 63 := by
    unfold cutW; rw [List.length_take, List.length_drop, List.length_map]; omega
  have ecut : cutOp [.rol (ns.map W.int)] (.ref 0) none (some 63) = .ok (.ref 1) [.rol (ns.map W.int), .lst (cutW (ns.map W.int) none (some 63))] := rfl
  generalize cutW (ns.map W.int) none (some 63) = cw at *
  refine lc_sat cw (fun G1 j acc G' => Fr [G1.length] (G1 ++ [.lst []]) G' ∧ ∃ xs : List Int, acc = xs.map W.int ∧ xs.length = j ∧ j ≤ 63) ?_
  rw [s_seq, s_cut, s_var]
  refine ⟨_, rfl, ?_⟩
  rw [s_nopart, s_part, s_c]
  refine ⟨63, rfl, ?_⟩
  rw [ecut, sat_ok]
  show Rs.sat (Rs.ok (PIt.lst 1) _) _
  rw [sat_ok]
  refine ⟨rfl, ⟨Fr.refl, [], rfl, rfl, by omega⟩, ?_, ?_, ?_⟩
  · rintro j acc G' ⟨f, _⟩ _
    have := f.get (n := 1) (c := .lst cw) rfl (by simp)
    simp only [PIt.at, rdL, this, Option.map_some]
  · rintro j w acc G' hw ⟨f, xs, rfl, rfl, hj⟩ hacc
    obtain ⟨x, rfl⟩ := hcut w (List.mem_of_getElem? hw)
    have hjl := lt_of_getW hw
    show ((mIf (mTest (mBin geW (mVar 3) (mC (.int 0)))) (mBin mulW (mC (.int 2)) (mVar 3)) (mBin subW (mBin mulW (mNeg (mC (.int 2))) (mVar 3)) (mC (.int 1)))) [some (.ref 0), none, none, some (.int x), none] G').sat _
    have fin : ∀ y : Int, G'[2]? = some (.lst (xs.map W.int)) ∧ (xs.map W.int).length < sizeLine ∧ Fr [2] ([.rol (ns.map W.int), .lst cw] ++ [.lst []]) (G'.set 2 (.lst (xs.map W.int ++ [.int y]))) ∧ ∃ zs : List Int, xs.map W.int ++ [.int y] = zs.map W.int ∧ zs.length = xs.length + 1 ∧ xs.length + 1 ≤ 63 := fun y =>
      ⟨hacc, by have := le_line (n := 90) (by omega); simp only [List.length_map]; omega, f.trans (Fr.set (by simp)), xs ++ [y], by simp, by simp, by omega⟩
    simp only [s_bin, s_def, s_call, s_cons, s_nil, s_var, s_c, s_lst, s_tup, s_test, s_tru, s_notT, s_andT, s_orT, s_if, s_neg, s_meth, s_and, s_or, s_not, s_chain, s_chain3, List.getElem?_cons_zero, List.getElem?_cons_succ, Option.some.injEq, exists_eq_left', sat_ok, add_int, sub_int, List.set_cons_succ, List.set_cons_zero, List.length_cons, List.length_nil, cmpI, W.bl.injEq, W.int.injEq, mul_int (mulOk_l (i := 2) (j := x) (by decide)), mul_int (mulOk_l (i := -2) (j := x) (by decide))]
    refine hif (fun _ => fin _) fun _ => fin _
  rintro acc G1 hacc ⟨f, xs, rfl, hx1, hx2⟩
  have g0 := f.get (n := 0) (c := .rol (ns.map W.int)) rfl (by simp)
  have elen : lenW G1 [.ref 0] = .ok (.int (ns.map W.int).length) G1 := by unfold lenW; simp only [g0]
  simp only [s_bin, s_def, s_call, s_cons, s_nil, s_var, s_c, s_lst, s_tup, s_test, s_tru, s_notT, s_andT, s_orT, s_if, s_neg, s_meth, s_and, s_or, s_not, s_chain, s_chain3, List.getElem?_cons_zero, List.getElem?_cons_succ, Option.some.injEq, exists_eq_left', sat_ok, add_int, sub_int, List.set_cons_succ, List.set_cons_zero, List.length_cons, List.length_nil, elen]
  refine ⟨_, _, rfl, ?_⟩
  have hn1 : G1[2]? = some (.lst (xs.map W.int)) := hacc
  have hxl : xs.length ≤ 63 := by omega
  show (sSeq _ _ [some (.ref 0), some (.ref 2), some (.int ((ns.map W.int).length + 7)), none, none] G1).sat _ _
  have hs0 : 0 ≤ (((ns.map W.int).length : Int) + 7) ∧ (((ns.map W.int).length : Int) + 7) < 2 ^ 32 := by simp; omega
  generalize (((ns.map W.int).length : Int) + 7) = s0 at *
  refine so_seq (so_for (xs.map W.int) (fun i E G2 => G2 = G1 ∧ ∃ s x3, 0 ≤ s ∧ s < 2 ^ 32 ∧ E = [some (.ref 0), some (.ref 2), some (.int s), x3, none]) ?_ ?_ ?_)
  · simp only [s_seq, s_bin, s_def, s_call, s_cons, s_nil, s_var, s_c, s_lst, s_tup, s_test, s_tru, s_notT, s_andT, s_orT, s_if, s_neg, s_meth, s_and, s_or, s_not, s_chain, s_chain3, List.getElem?_cons_zero, List.getElem?_cons_succ, Option.some.injEq, exists_eq_left', sat_ok, add_int, sub_int, List.set_cons_succ, List.set_cons_zero, List.length_cons, List.length_nil, itSeq, rdL, hn1]
    refine ⟨by simp [PIt.len, rdL, hn1], ⟨by trivial, s0, none, hs0.1, hs0.2, rfl⟩, ?_⟩
    rintro i E' G' ⟨rfl, _⟩
    simp only [PIt.at, rdL, hn1, Option.map_some]
  · rintro i w E G2 hw ⟨rfl, s, x3, s1, s2, rfl⟩
    obtain ⟨x, _, rfl⟩ := List.mem_map.mp (List.mem_of_getElem? hw)
    show (sAsg _ (gSet 2) [some (.ref 0), some (.ref 2), some (.int s), some (.int x), none] G2).sat _ _
    refine so_set ?_
    simp only [s_bin, s_def, s_call, s_cons, s_nil, s_var, s_c, s_lst, s_tup, s_test, s_tru, s_notT, s_andT, s_orT, s_if, s_neg, s_meth, s_and, s_or, s_not, s_chain, s_chain3, List.getElem?_cons_zero, List.getElem?_cons_succ, Option.some.injEq, exists_eq_left', sat_ok, add_int, sub_int, List.set_cons_succ, List.set_cons_zero, List.length_cons, List.length_nil, mul_int (mulOk_r (i := s) (j := 69069) (by decide)), mul_int (mulOk_r (i := x) (j := 11) (by decide)), int_int, mod_int (show (0 : Int) < 4294967291 from by decide)]
    exact ⟨trivial, _, _, Int.emod_nonneg _ (by decide), Int.lt_trans (Int.emod_lt_of_pos _ (by decide)) (by decide), rfl⟩
  rintro E G2 ⟨rfl, s, x3, s1, s2, rfl⟩
  refine so_seq (so_set ?_)
  refine lc_sat (xs.map W.int) (fun G1 j acc G' => Fr [G1.length] (G1 ++ [.lst []]) G' ∧ ∃ zs : List Int, acc = zs.map W.int ∧ zs.length ≤ j ∧ j ≤ 63) ?_
  simp only [s_seq, s_bin, s_def, s_call, s_cons, s_nil, s_var, s_c, s_lst, s_tup, s_test, s_tru, s_notT, s_andT, s_orT, s_if, s_neg, s_meth, s_and, s_or, s_not, s_chain, s_chain3, List.getElem?_cons_zero, List.getElem?_cons_succ, Option.some.injEq, exists_eq_left', sat_ok, add_int, sub_int, List.set_cons_succ, List.set_cons_zero, List.length_cons, List.length_nil, itSeq, rdL, hn1]
  have h2l := lt_of_get hn1
  refine ⟨by simp [PIt.len, rdL, hn1], ⟨Fr.refl, [], rfl, by simp, by omega⟩, ?_, ?_, ?_⟩
  · rintro j acc G' ⟨f, _⟩ _
    have := f.get (List.getElem?_append_left h2l ▸ hn1) (by simp; omega)
    simp only [PIt.at, rdL, this, Option.map_some]
  · rintro j w acc G' hw ⟨f, zs, rfl, hz1, hz2⟩ hacc
    obtain ⟨x, _, rfl⟩ := List.mem_map.mp (List.mem_of_getElem? hw)
    have hjl := lt_of_getW hw
    rw [show gSet 3 (W.int x) (wipeE [some (.ref 0), some (.ref 2), some (.int s), x3, none] [3]) G' = .ok [some (.ref 0), some (.ref 2), some (.int s), some (.int x), none] G' from rfl, sat_ok]
    simp only [s_bin, s_def, s_call, s_cons, s_nil, s_var, s_c, s_lst, s_tup, s_test, s_tru, s_notT, s_andT, s_orT, s_if, s_neg, s_meth, s_and, s_or, s_not, s_chain, s_chain3, List.getElem?_cons_zero, List.getElem?_cons_succ, Option.some.injEq, exists_eq_left', sat_ok, add_int, sub_int, List.set_cons_succ, List.set_cons_zero, List.length_cons, List.length_nil, cmpI, W.bl.injEq, show ∀ G, powW G (.int 10) (.int 18) = .ok (.int (10 ^ 18)) G from fun _ => rfl]
    refine hif (fun _ => ?_) fun _ => ?_
    · exact ⟨hacc, by have := le_line (n := 90) (by omega); simp only [List.length_map]; omega, f.trans (Fr.set (by simp)), zs ++ [x], by simp, by simp; omega, by simp at hjl; omega⟩
    · exact ⟨hacc, f, zs, rfl, by omega, by simp at hjl; omega⟩
  rintro acc G3 hacc3 ⟨f3, zs, rfl, hz1, hz2⟩
  have hd3 := hacc3
  have hx3 := f3.get (List.getElem?_append_left h2l ▸ hn1) (by simp; omega)
  have hdl := lt_of_get hd3
  have hne : G2.length ≠ 2 := by omega
  generalize G2.length = dd at *
  show (sRet _ [some (.ref 0), some (.ref 2), some (.int s), x3, some (.ref dd)] G3).sat _ _
  refine so_ret (s_disp ?_)
  simp only [s_mpCons, s_mpNil, s_bin, s_def, s_call, s_cons, s_nil, s_var, s_c, s_lst, s_tup, s_test, s_tru, s_notT, s_andT, s_orT, s_if, s_neg, s_meth, s_and, s_or, s_not, s_chain, s_chain3, List.getElem?_cons_zero, List.getElem?_cons_succ, Option.some.injEq, exists_eq_left', sat_ok, add_int, sub_int, List.set_cons_succ, List.set_cons_zero, List.length_cons, List.length_nil, show ∀ x : Str, keyW (.str x) = some (.inr x) from fun _ => rfl]
  have hx4 : (G3 ++ [Cell.dct []])[2]? = some (.lst (xs.map W.int)) := by rw [List.getElem?_append_left (by omega)]; exact hx3
  rw [len_lst hx4]
  simp only [sat_ok, mul_int (mulOk_l (i := 2) (by decide)), add_int]
  refine ⟨le_line (by decide), ?_⟩
  have hx5 : (G3 ++ [Cell.dct []] ++ [Cell.lst [.int (2 * ((xs.map W.int).length : Int) + 1)]])[2]? = some (.lst (xs.map W.int)) := by rw [List.getElem?_append_left (by simp; omega)]; exact hx4
  have eadd := add_lst hx5 (push_get (G3 ++ [Cell.dct []]) (.lst [.int (2 * ((xs.map W.int).length : Int) + 1)])) (by simp; omega)
  rw [eadd]
  simp only [sat_ok]
  refine ⟨by rw [List.getElem?_append_left (by simp), List.getElem?_append_left (by simp)]; exact push_get _ _, by simp, G3.length, dd, G3.length + 2, rfl, ⟨s, 0, zs, xs ++ [2 * ((xs.map W.int).length : Int) + 1], by omega, by omega, by omega, ?_, ?_, by omega, ?_, by simp, by simp; omega, s1, s2⟩⟩
  · rw [set_get (c := .dct []) (by rw [List.getElem?_append_left (by simp), List.getElem?_append_left (by simp)]; exact push_get _ _)]
    simp only [List.length_append, List.length_cons, List.length_nil]
    rfl
  · rw [List.getElem?_set_ne (by omega), List.getElem?_append_left (by simp; omega), List.getElem?_append_left (by simp; omega), List.getElem?_append_left (by omega)]
    exact hd3
  · rw [List.getElem?_set_ne (by omega), show G3.length + 2 = (G3 ++ [Cell.dct []] ++ [Cell.lst [.int (2 * ((xs.map W.int).length : Int) + 1)]]).length from by simp, push_get]
    simp
end NS
/- part Sc -/
set_option maxHeartbeats 4000000
namespace NS
open PySem PySem.Spec PyProof.Rows L2 PL
theorem skl_gv {r d : Nat} {G : Cells} {ws : List W} (h : skl ws) : gv [r, d] G NSV (.tup ws) := by
  obtain ⟨us, e, h1, h2⟩ := skl_tt (r := r) (d := d) (G := G) h
  cases e
  exact ⟨by omega, h2⟩
theorem bdv : Bd NSV ≤ sizeLine := by decide +kernel
theorem itm_of {S : List Nat} {G : Cells} {ns : List Nat} {w : W} {n : Nat} (h : itemOk w = true) (g : gv S G (n :: ns) w) : itm w := by
  rcases item_shape h with rfl | ⟨i, rfl, hi⟩ | ⟨t, a, b, rfl, h1, h2, h3⟩
  · exact .inl rfl
  · refine .inr (.inl ⟨i, rfl, ?_⟩)
    unfold fillB at hi; simp at hi; omega
  · have ht := (g.2 (.int t) (by simp)).int_inv
    exact .inr (.inr ⟨t, a, b, rfl, ht, by omega, by omega, by omega, by omega⟩)
/-- what is told of one value, whatever is around -/
theorem told_any {r d c : Nat} {G : Cells} {w : W} {b : Bool} (h : RI r d c G) (g : gv [r, d] G NSV w) : (M_law_is_told [w, .bl b] G).sat fun a G' => a = .bl true ∧ RI r d c G' ∧ Fr [r, d] G G' :=
  (is_told_ok (n := 60) (m := 60) (ns := [5, 1]) (NS.gv.drop g) (by decide) bdv).mono fun a G' q => ⟨q.1, h.keep q.2, q.2.of_nil⟩
def Blaw1 : MS := sSeq (sFor (mRng1 (mCons (mC (.int 8)) (mNil))) (gSet 2) (sSeq (sAsg (mDef M_law_skeleton (mCons (mVar 1) (mCons (mDef M_law_pick (mCons (mVar 1) (mCons (mLst (mCons (mC (.int 3)) (mCons (mC (.int 6)) (mCons (mC (.int 12)) (mCons (mC (.int 24)) (mNil)))))) (mNil)))) (mNil)))) (gSet 3)) (sSeq (sAsg (mLst (mCons (mVar 3) (mCons (mDef M_law_spoilt (mCons (mVar 1) (mCons (mVar 3) (mNil)))) (mCons (mDef M_law_spoilt (mCons (mVar 1) (mCons (mVar 3) (mNil)))) (mCons (mDef M_law_spoilt (mCons (mVar 1) (mCons (mVar 3) (mNil)))) (mNil)))))) (gSet 4)) (sSeq (sAsg (mDef M_law_spoilt (mCons (mVar 1) (mCons (mVar 3) (mNil)))) (gSet 5)) (sSeq (sIf (mOrT (mTest (mBin (isW false) (mDef M_law_fault (mCons (mVar 5) (mNil))) (mC .non))) (mTest (mBin eqOp (mBin getW (mDef M_law_fault (mCons (mVar 5) (mNil))) (mC (.int 0))) (mC (.str "goal"))))) (sAsg (mDef M_law_spoilt (mCons (mVar 1) (mCons (mVar 5) (mNil)))) (gSet 5)) (sNext)) (sFor (mSeq (mBin addW (mVar 4) (mLst (mCons (mVar 5) (mNil))))) (gSet 6) (sIf (mNotT (mTru (mDef M_law_is_told (mCons (mVar 6) (mCons (mBin eqOp (mBin modW (mVar 2) (mC (.int 3))) (mC (.int 1))) (mNil)))))) (sRet (mC (.bl false))) (sNext)))))))) (sSeq (sAsg (mBin addW (mBin addW (mTup (mCons (mTup (mCons (mC (.str "label")) (mNil))) (mNil))) (mBin mulW (mTup (mCons (mTup (mCons (mC (.str "jump")) (mCons (mC (.int 0)) (mCons (mC (.int 1)) (mCons (mC (.int 999)) (mNil)))))) (mNil))) (mC (.int 8)))) (mBin mulW (mTup (mCons (mTup (mCons (mC (.str "fill")) (mCons (mC (.int 64)) (mNil)))) (mNil))) (mC (.int 15)))) (gSet 7)) (sSeq (sAsg (mLst (mCons (mVar 7) (mCons (mBin addW (mVar 7) (mTup (mCons (mTup (mCons (mC (.str "label")) (mNil))) (mNil)))) (mCons (mBin addW (mCut (mVar 7) (mNoPart) (mPart (mC (.int 9)))) (mTup (mCons (mTup (mCons (mC (.str "jump")) (mCons (mC (.int 0)) (mCons (mC (.int 1)) (mCons (mC (.int 2)) (mNil)))))) (mNil)))) (mCons (mTup (mCons (mTup (mCons (mC (.str "jump")) (mCons (mC (.int 0)) (mCons (mC (.int 1)) (mCons (mC (.int 2)) (mNil)))))) (mNil))) (mCons (mTup (mCons (mTup (mCons (mC (.str "fill")) (mCons (mC (.int 2)) (mNil)))) (mNil))) (mCons (mTup (mCons (mTup (mCons (mC (.str "label")) (mNil))) (mNil))) (mNil)))))))) (gSet 8)) (sSeq (sAsg (mBin addW (mVar 8) (mLst (mCons (mBin addW (mBin mulW (mTup (mCons (mTup (mCons (mC (.str "label")) (mNil))) (mNil))) (mC (.int 24))) (mTup (mCons (mC .non) (mNil)))) (mCons (mBin addW (mTup (mCons (mTup (mCons (mC (.str "fill")) (mCons (mC (.int 3)) (mNil)))) (mNil))) (mVar 7)) (mCons (mBin addW (mCut (mVar 7) (mNoPart) (mPart (mC (.int 5)))) (mTup (mCons (mTup (mCons (mC (.str "fill")) (mCons (mC (.int 3)) (mNil)))) (mCons (mC .non) (mCons (mTup (mCons (mC (.str "jump")) (mCons (mC (.int 9)) (mCons (mC (.int 1)) (mCons (mC (.int 2)) (mNil)))))) (mNil)))))) (mNil)))))) (gSet 8)) (sRet (mBin eqOp (mLc (mSeq (mVar 8)) (gSet 6) (mNotT (mTru (mDef M_law_is_told (mCons (mVar 6) (mCons (mC (.bl false)) (mNil)))))) (mVar 6) [6]) (mLst (mNil)))))))
def Blaw2 : MS := sSeq (sAsg (mBin addW (mBin addW (mTup (mCons (mTup (mCons (mC (.str "label")) (mNil))) (mNil))) (mBin mulW (mTup (mCons (mTup (mCons (mC (.str "jump")) (mCons (mC (.int 0)) (mCons (mC (.int 1)) (mCons (mC (.int 999)) (mNil)))))) (mNil))) (mC (.int 8)))) (mBin mulW (mTup (mCons (mTup (mCons (mC (.str "fill")) (mCons (mC (.int 64)) (mNil)))) (mNil))) (mC (.int 15)))) (gSet 7)) (sSeq (sAsg (mLst (mCons (mVar 7) (mCons (mBin addW (mVar 7) (mTup (mCons (mTup (mCons (mC (.str "label")) (mNil))) (mNil)))) (mCons (mBin addW (mCut (mVar 7) (mNoPart) (mPart (mC (.int 9)))) (mTup (mCons (mTup (mCons (mC (.str "jump")) (mCons (mC (.int 0)) (mCons (mC (.int 1)) (mCons (mC (.int 2)) (mNil)))))) (mNil)))) (mCons (mTup (mCons (mTup (mCons (mC (.str "jump")) (mCons (mC (.int 0)) (mCons (mC (.int 1)) (mCons (mC (.int 2)) (mNil)))))) (mNil))) (mCons (mTup (mCons (mTup (mCons (mC (.str "fill")) (mCons (mC (.int 2)) (mNil)))) (mNil))) (mCons (mTup (mCons (mTup (mCons (mC (.str "label")) (mNil))) (mNil))) (mNil)))))))) (gSet 8)) (sSeq (sAsg (mBin addW (mVar 8) (mLst (mCons (mBin addW (mBin mulW (mTup (mCons (mTup (mCons (mC (.str "label")) (mNil))) (mNil))) (mC (.int 24))) (mTup (mCons (mC .non) (mNil)))) (mCons (mBin addW (mTup (mCons (mTup (mCons (mC (.str "fill")) (mCons (mC (.int 3)) (mNil)))) (mNil))) (mVar 7)) (mCons (mBin addW (mCut (mVar 7) (mNoPart) (mPart (mC (.int 5)))) (mTup (mCons (mTup (mCons (mC (.str "fill")) (mCons (mC (.int 3)) (mNil)))) (mCons (mC .non) (mCons (mTup (mCons (mC (.str "jump")) (mCons (mC (.int 9)) (mCons (mC (.int 1)) (mCons (mC (.int 2)) (mNil)))))) (mNil)))))) (mNil)))))) (gSet 8)) (sRet (mBin eqOp (mLc (mSeq (mVar 8)) (gSet 6) (mNotT (mTru (mDef M_law_is_told (mCons (mVar 6) (mCons (mC (.bl false)) (mNil)))))) (mVar 6) [6]) (mLst (mNil))))))
theorem law2_ok {r d c : Nat} {G : Cells} {a b e g h' k : Option W} {z : Option W} (h : RI r d c G) : (Blaw2 [z, some (.ref r), a, b, e, g, h', none, none] G).sat (fun _ _ => False) fun w G' => w = .bl true := by
  unfold Blaw2
  refine so_ty (P := fun G w => TT r d G 24 [60, 5, 1] w) (c := c) (G0 := G) (tt_add (k := 1 + 8) (k' := 15) (tt_add (k := 1) (k' := 8) (tt_tup (k := 1) ?a1 (by decide)) (tt_rep ?a2 (ti_c (by decide)) (by decide)) (by decide)) (tt_rep ?a3 (ti_c (by decide)) (by decide)) (by decide)) Fr.refl h fun v7 G1 p7 h1 f1 => ?_
  case a1 =>
    (repeat' (first | exact ty_str | exact ty_int | exact ty_negc | exact ty_non | exact ty_bl | exact ty_dict0 | exact ta_nil | exact ty_pow30 | exact ty_npow30 | apply ta_cons | apply ty_tup' | apply ty_lst' | exact ty_var rfl (gv.int ‹_›) | exact ty_var rfl (gv.str (by decide +kernel)) | exact ty_sub_cv rfl (by unfold smallI; simp; omega) | exact ty_sub_vc rfl (by unfold smallI; simp; omega)))
    all_goals decide
  case a2 =>
    (repeat' (first | exact ty_str | exact ty_int | exact ty_negc | exact ty_non | exact ty_bl | exact ty_dict0 | exact ta_nil | exact ty_pow30 | exact ty_npow30 | apply ta_cons | apply ty_tup' | apply ty_lst' | exact ty_var rfl (gv.int ‹_›) | exact ty_var rfl (gv.str (by decide +kernel)) | exact ty_sub_cv rfl (by unfold smallI; simp; omega) | exact ty_sub_vc rfl (by unfold smallI; simp; omega)))
    all_goals decide
  case a3 =>
    (repeat' (first | exact ty_str | exact ty_int | exact ty_negc | exact ty_non | exact ty_bl | exact ty_dict0 | exact ta_nil | exact ty_pow30 | exact ty_npow30 | apply ta_cons | apply ty_tup' | apply ty_lst' | exact ty_var rfl (gv.int ‹_›) | exact ty_var rfl (gv.str (by decide +kernel)) | exact ty_sub_cv rfl (by unfold smallI; simp; omega) | exact ty_sub_vc rfl (by unfold smallI; simp; omega)))
    all_goals decide
  have cutc : ∀ n : Int, Ty r d c [z, some (.ref r), a, b, e, g, h', some v7, none] G1 (mCut (mVar 7) (mNoPart) (mPart (mC (.int n)))) fun G w => TT r d G 24 [60, 5, 1] w := fun n => tt_cut rfl p7 (fun G => ⟨none, rfl⟩) (fun G => ⟨some n, rfl⟩)
  have v7e : ∀ n : Nat, 24 ≤ n → TyE r d c [z, some (.ref r), a, b, e, g, h', some v7, none] G1 (n :: [60, 5, 1]) (mVar 7) := fun n hn => ty_of_tt (tt_var rfl p7) hn
  refine so_ty (P := fun G w => LV r d G 6 6 NSV w) (c := c) (G0 := G1) (tl_lst (ta_cons (v7e _ (by decide)) (ta_cons (ty_of_tt (k := 24 + 1) (tt_add (tt_var rfl p7) (tt_tup (k := 1) ?b1 (by decide)) (by decide)) (by decide)) (ta_cons (ty_of_tt (k := 24 + 1) (tt_add (cutc 9) (tt_tup (k := 1) ?b2 (by decide)) (by decide)) (by decide)) (ta_cons ?b3 (ta_cons ?b4 (ta_cons ?b5 ta_nil))))))) Fr.refl h1 fun v8 G2 p8 h2 f2 => ?_
  case b1 =>
    (repeat' (first | exact ty_str | exact ty_int | exact ty_negc | exact ty_non | exact ty_bl | exact ty_dict0 | exact ta_nil | exact ty_pow30 | exact ty_npow30 | apply ta_cons | apply ty_tup' | apply ty_lst' | exact ty_var rfl (gv.int ‹_›) | exact ty_var rfl (gv.str (by decide +kernel)) | exact ty_sub_cv rfl (by unfold smallI; simp; omega) | exact ty_sub_vc rfl (by unfold smallI; simp; omega)))
    all_goals decide
  case b2 =>
    (repeat' (first | exact ty_str | exact ty_int | exact ty_negc | exact ty_non | exact ty_bl | exact ty_dict0 | exact ta_nil | exact ty_pow30 | exact ty_npow30 | apply ta_cons | apply ty_tup' | apply ty_lst' | exact ty_var rfl (gv.int ‹_›) | exact ty_var rfl (gv.str (by decide +kernel)) | exact ty_sub_cv rfl (by unfold smallI; simp; omega) | exact ty_sub_vc rfl (by unfold smallI; simp; omega)))
    all_goals decide
  case b3 =>
    (repeat' (first | exact ty_str | exact ty_int | exact ty_negc | exact ty_non | exact ty_bl | exact ty_dict0 | exact ta_nil | exact ty_pow30 | exact ty_npow30 | apply ta_cons | apply ty_tup' | apply ty_lst' | exact ty_var rfl (gv.int ‹_›) | exact ty_var rfl (gv.str (by decide +kernel)) | exact ty_sub_cv rfl (by unfold smallI; simp; omega) | exact ty_sub_vc rfl (by unfold smallI; simp; omega)))
    all_goals decide
  case b4 =>
    (repeat' (first | exact ty_str | exact ty_int | exact ty_negc | exact ty_non | exact ty_bl | exact ty_dict0 | exact ta_nil | exact ty_pow30 | exact ty_npow30 | apply ta_cons | apply ty_tup' | apply ty_lst' | exact ty_var rfl (gv.int ‹_›) | exact ty_var rfl (gv.str (by decide +kernel)) | exact ty_sub_cv rfl (by unfold smallI; simp; omega) | exact ty_sub_vc rfl (by unfold smallI; simp; omega)))
    all_goals decide
  case b5 =>
    (repeat' (first | exact ty_str | exact ty_int | exact ty_negc | exact ty_non | exact ty_bl | exact ty_dict0 | exact ta_nil | exact ty_pow30 | exact ty_npow30 | apply ta_cons | apply ty_tup' | apply ty_lst' | exact ty_var rfl (gv.int ‹_›) | exact ty_var rfl (gv.str (by decide +kernel)) | exact ty_sub_cv rfl (by unfold smallI; simp; omega) | exact ty_sub_vc rfl (by unfold smallI; simp; omega)))
    all_goals decide
  have p7' := p7.mono f2
  refine so_ty (P := fun G w => LV r d G 9 9 NSV w) (c := c) (G0 := G2) (tl_add (lo := 6) (k := 6) (lo' := 3) (k' := 3) (tl_var rfl p8) (tl_lst (ta_cons (ty_of_tt (k := 24 + 1) (tt_add (tt_rep ?c1 (ti_c (by decide)) (by decide)) (tt_tup (k := 1) ?c2 (by decide)) (by decide)) (by decide)) (ta_cons (ty_of_tt (k := 1 + 24) (tt_add (tt_tup (k := 1) ?c3 (by decide)) (tt_var rfl p7') (by decide)) (by decide)) (ta_cons (ty_of_tt (k := 24 + 3) (tt_add (tt_cut rfl p7' (fun G => ⟨none, rfl⟩) (fun G => ⟨some 5, rfl⟩)) (tt_tup (k := 3) ?c4 (by decide)) (by decide)) (by decide)) ta_nil))))) Fr.refl h2 fun v9 G3 p9 h3 f3 => ?_
  case c1 =>
    (repeat' (first | exact ty_str | exact ty_int | exact ty_negc | exact ty_non | exact ty_bl | exact ty_dict0 | exact ta_nil | exact ty_pow30 | exact ty_npow30 | apply ta_cons | apply ty_tup' | apply ty_lst' | exact ty_var rfl (gv.int ‹_›) | exact ty_var rfl (gv.str (by decide +kernel)) | exact ty_sub_cv rfl (by unfold smallI; simp; omega) | exact ty_sub_vc rfl (by unfold smallI; simp; omega)))
    all_goals decide
  case c2 =>
    (repeat' (first | exact ty_str | exact ty_int | exact ty_negc | exact ty_non | exact ty_bl | exact ty_dict0 | exact ta_nil | exact ty_pow30 | exact ty_npow30 | apply ta_cons | apply ty_tup' | apply ty_lst' | exact ty_var rfl (gv.int ‹_›) | exact ty_var rfl (gv.str (by decide +kernel)) | exact ty_sub_cv rfl (by unfold smallI; simp; omega) | exact ty_sub_vc rfl (by unfold smallI; simp; omega)))
    all_goals decide
  case c3 =>
    (repeat' (first | exact ty_str | exact ty_int | exact ty_negc | exact ty_non | exact ty_bl | exact ty_dict0 | exact ta_nil | exact ty_pow30 | exact ty_npow30 | apply ta_cons | apply ty_tup' | apply ty_lst' | exact ty_var rfl (gv.int ‹_›) | exact ty_var rfl (gv.str (by decide +kernel)) | exact ty_sub_cv rfl (by unfold smallI; simp; omega) | exact ty_sub_vc rfl (by unfold smallI; simp; omega)))
    all_goals decide
  case c4 =>
    (repeat' (first | exact ty_str | exact ty_int | exact ty_negc | exact ty_non | exact ty_bl | exact ty_dict0 | exact ta_nil | exact ty_pow30 | exact ty_npow30 | apply ta_cons | apply ty_tup' | apply ty_lst' | exact ty_var rfl (gv.int ‹_›) | exact ty_var rfl (gv.str (by decide +kernel)) | exact ty_sub_cv rfl (by unfold smallI; simp; omega) | exact ty_sub_vc rfl (by unfold smallI; simp; omega)))
    all_goals decide
  obtain ⟨n, ws, rfl, n1, n2, hn, l1, l2, hws⟩ := p9
  refine so_ret ?_
  rw [s_bin]
  refine lc_sat ws (fun G1 i acc G' => RI r d c G' ∧ Fr [r, d, G1.length] (G1 ++ [.lst []]) G' ∧ acc = []) ?_
  simp only [s_seq, s_bin, s_def, s_call, s_cons, s_nil, s_var, s_c, s_lst, s_tup, s_test, s_tru, s_notT, s_andT, s_orT, s_if, s_neg, s_meth, s_and, s_or, s_not, s_chain, s_chain3, List.getElem?_cons_zero, List.getElem?_cons_succ, Option.some.injEq, exists_eq_left', sat_ok, add_int, sub_int, List.set_cons_succ, List.set_cons_zero, List.length_cons, List.length_nil, itSeq, rdL, hn]
  have hnl := lt_of_get hn
  have hlt := h3.lt
  refine ⟨by simp [PIt.len, rdL, hn], ⟨h3.push, Fr.refl, by trivial⟩, ?_, ?_, ?_⟩
  · rintro i acc G' ⟨_, f, _⟩ _
    have := f.get (List.getElem?_append_left hnl ▸ hn) (by simp [n1, n2]; omega)
    simp only [PIt.at, rdL, this, Option.map_some]
  · rintro i w acc G' hw ⟨hr, f, rfl⟩ hacc
    rw [show gSet 6 w (wipeE [z, some (.ref r), a, b, e, g, h', some v7, some (.ref n)] [6]) G' = .ok [z, some (.ref r), a, b, e, g, some w, some v7, some (.ref n)] G' from rfl, sat_ok]
    have gw : gv [r, d] G' NSV w := (hws w (List.mem_of_getElem? hw)).mono ((Fr.push (S := [r, d]) (c := .lst [])).fresh (n := G3.length) (Nat.le_refl _) (f.sub (by simp)))
    simp only [s_notT, s_tru, s_def, s_cons, s_nil, s_var, s_c, List.getElem?_cons_zero, List.getElem?_cons_succ, Option.some.injEq, exists_eq_left', sat_ok]
    refine (told_any hr gw).mono fun x G4 q => ?_
    obtain ⟨rfl, hr4, f4⟩ := q
    refine ⟨true, rfl, ?_⟩
    simp only [Bool.not_true, Bool.false_eq_true, if_false]
    exact ⟨f4.get hacc (by simp; omega), hr4, f.trans (f4.sub (by simp)), trivial⟩
  · rintro acc G' hacc ⟨hr, f, rfl⟩
    simp only [s_lst, s_nil, List.length_nil, Nat.zero_le, true_and]
    have e1 : eqOp (G' ++ [.lst []]) (.ref G3.length) (.ref G'.length) = .ok (.bl true) (G' ++ [.lst []]) := by
      have d1 := dat_ints (ds := []) (G := G' ++ [.lst []]) (n := G3.length) ((Fr.push (S := [])).get hacc (by simp))
      have d2 := dat_ints (ds := []) (push_get G' (.lst []))
      have hs : SeqAt.shaped (.list []) = true := shaped_ints []
      have : eqW (G' ++ [.lst []]) (.ref G3.length) (.ref G'.length) = some true := by
        unfold eqW; rw [d1, d2]; simp only [List.map_nil, hs, Bool.and_self, if_true]; rfl
      have hs' : eqS (.ref G3.length) (.ref G'.length) = none := rfl
      unfold eqOp; rw [hs', this]
    rw [e1]
    trivial
theorem skErr_cases (w : W) : (skErr w = .non ∧ ∃ ws, w = .tup ws ∧ 1 ≤ ws.length ∧ ws.length ≤ 24 ∧ ∀ x ∈ ws, itemOk x = true) ∨ skErr w = .str "form" ∨ skErr w = .str "jumps" ∨ (∃ i : Nat, skErr w = .tup [.str "item", .int i]) ∨ (∃ i : Nat, skErr w = .tup [.str "goal", .int i]) ∧ ∃ ws, w = .tup ws ∧ 1 ≤ ws.length ∧ ws.length ≤ 24 ∧ ∀ x ∈ ws, itemOk x = true := by
  unfold skErr
  split
  · rename_i ws
    split
    · rename_i hl
      split
      · exact .inr (.inr (.inr (.inl ⟨_, rfl⟩)))
      · rename_i hf
        have hall := firstBad_none hf
        split
        · exact .inr (.inr (.inr (.inr ⟨⟨_, rfl⟩, ws, rfl, hl.1, hl.2, hall⟩)))
        · split
          · exact .inr (.inr (.inl rfl))
          · exact .inl ⟨rfl, ws, rfl, hl.1, hl.2, hall⟩
    · exact .inr (.inl rfl)
  · exact .inr (.inl rfl)
theorem get_form (G : Cells) : getW G (.str "form") (.int 0) = .ok (.str "f") G := rfl
theorem get_jumps (G : Cells) : getW G (.str "jumps") (.int 0) = .ok (.str "j") G := rfl
theorem ty_spoilt {r d c : Nat} {E : PEnv} {G0 : Cells} {i : Nat} {ws : List W} (h1 : E[1]? = some (some (.ref r))) (h2 : E[i]? = some (some (.tup ws))) (hs : skl ws) : TyE r d c E G0 NSV (mDef M_law_spoilt (mCons (mVar 1) (mCons (mVar i) (mNil)))) := fun G f hr => by
  rw [s_def, s_cons, s_var]
  refine ⟨_, h1, ?_⟩
  rw [s_cons, s_var]
  exact ⟨_, h2, spoilt_ok hr hs⟩
def Bin1 : MS := sSeq (sIf (mOrT (mTest (mBin (isW false) (mDef M_law_fault (mCons (mVar 5) (mNil))) (mC .non))) (mTest (mBin eqOp (mBin getW (mDef M_law_fault (mCons (mVar 5) (mNil))) (mC (.int 0))) (mC (.str "goal"))))) (sAsg (mDef M_law_spoilt (mCons (mVar 1) (mCons (mVar 5) (mNil)))) (gSet 5)) (sNext)) (sFor (mSeq (mBin addW (mVar 4) (mLst (mCons (mVar 5) (mNil))))) (gSet 6) (sIf (mNotT (mTru (mDef M_law_is_told (mCons (mVar 6) (mCons (mBin eqOp (mBin modW (mVar 2) (mC (.int 3))) (mC (.int 1))) (mNil)))))) (sRet (mC (.bl false))) (sNext)))
def Bin2 : MS := sFor (mSeq (mBin addW (mVar 4) (mLst (mCons (mVar 5) (mNil))))) (gSet 6) (sIf (mNotT (mTru (mDef M_law_is_told (mCons (mVar 6) (mCons (mBin eqOp (mBin modW (mVar 2) (mC (.int 3))) (mC (.int 1))) (mNil)))))) (sRet (mC (.bl false))) (sNext))
theorem so_for' {mi : MI} {g : MG} {b : MS} {E : PEnv} {G : Cells} {N : PEnv → Cells → Prop} {R : W → Cells → Prop} (J : Cells → List W → Prop) (I : Cells → List W → Nat → PEnv → Cells → Prop)
    (h : (mi E G).sat fun pit G1 => ∃ xs, J G1 xs ∧ pit.len G1 = xs.length ∧ I G1 xs 0 E G1 ∧ ∀ i E' G', I G1 xs i E' G' → pit.at G' i = some xs[i]?)
    (hstep : ∀ G1 xs, J G1 xs → ∀ i w E G, xs[i]? = some w → I G1 xs i E G → (g w E G).sat fun E1 G2 => (b E1 G2).sat (I G1 xs (i + 1)) R)
    (hend : ∀ G1 xs, J G1 xs → ∀ E G, I G1 xs xs.length E G → N E G) : (sFor mi g b E G).sat N R := by
  unfold sFor; rw [so_lift]
  refine h.mono fun pit G1 q => ?_
  obtain ⟨xs, h0, h1, h2, h3⟩ := q
  rw [h1]
  exact forL_sat h3 (hstep G1 xs h0) (hend G1 xs h0) _ 0 E G1 h2 (by omega)
theorem in2_ok {r d c : Nat} {G : Cells} {z b e k : Option W} {j : Int} {v4 v5 : W} (h : RI r d c G) (h4 : LV r d G 4 4 NSV v4) (h5 : gv [r, d] G NSV v5) : (Bin2 [z, some (.ref r), some (.int j), b, some v4, some v5, k, none, none] G).sat (fun E G' => RI r d c G' ∧ ∃ a b e g k, E = [z, some (.ref r), a, b, e, g, k, none, none]) fun w G' => w = .bl true := by
  unfold Bin2
  refine so_for' (fun G1 ws => RI r d c G1 ∧ ws.length ≤ 900 ∧ ∃ n, n ≠ r ∧ n ≠ d ∧ G1[n]? = some (.lst ws) ∧ ∀ x ∈ ws, gv [r, d] G1 NSV x) (fun G1 ws i E G => RI r d c G ∧ Fr [r, d] G1 G ∧ ∃ k, E = [z, some (.ref r), some (.int j), b, some v4, some v5, k, none, none]) ?_ ?_ ?_
  · rw [s_seq]
    refine Ty.run (G0 := G) (c := c) (P := fun G w => LV r d G 5 5 NSV w) Fr.refl h (fun w G' q1 q2 q3 => ?_) (tl_add (lo := 4) (k := 4) (lo' := 1) (k' := 1) (tl_var rfl h4) (tl_lst (ta_cons (ty_var rfl h5) ta_nil)))
    obtain ⟨n, ws, rfl, n1, n2, hn, l1, l2, hws⟩ := q1
    have e : itSeq (.ref n) G' = .ok (.lst n) G' := by unfold itSeq rdL; simp only [hn]
    rw [e, sat_ok]
    refine ⟨ws, ⟨q2, by omega, n, n1, n2, hn, hws⟩, by simp [PIt.len, rdL, hn], ⟨q2, Fr.refl, k, rfl⟩, ?_⟩
    rintro i E2 G2 ⟨_, f2, _⟩
    have := f2.get hn (by simp [n1, n2])
    simp only [PIt.at, rdL, this, Option.map_some]
  · rintro G1 ws ⟨_, _, n, n1, n2, hn, hws⟩ i w E G2 hw ⟨hr, f, k', rfl⟩
    have gw : gv [r, d] G2 NSV w := (hws w (List.mem_of_getElem? hw)).mono f
    show (sIf _ _ _ [z, some (.ref r), some (.int j), b, some v4, some v5, some w, none, none] G2).sat _ _
    refine so_if ?_
    simp only [s_bin, s_def, s_call, s_cons, s_nil, s_var, s_c, s_lst, s_tup, s_test, s_tru, s_notT, s_andT, s_orT, s_if, s_neg, s_meth, s_and, s_or, s_not, s_chain, s_chain3, List.getElem?_cons_zero, List.getElem?_cons_succ, Option.some.injEq, exists_eq_left', sat_ok, add_int, sub_int, List.set_cons_succ, List.set_cons_zero, List.length_cons, List.length_nil, mod_int (show (0 : Int) < 3 from by decide), eqOp_int]
    refine (told_any hr gw).mono fun x G4 q => ?_
    obtain ⟨rfl, hr4, f4⟩ := q
    refine ⟨true, rfl, ?_⟩
    simp only [Bool.not_true, Bool.false_eq_true, if_false]
    exact so_nx ⟨hr4, f.trans f4, some w, rfl⟩
  · rintro G1 ws _ E G2 ⟨hr, f, k', rfl⟩
    exact ⟨hr, _, _, _, _, _, rfl⟩
theorem law_true_of (G0 : Cells) (z : Option W) {r d c : Nat} (h : RI r d c G0) : (Blaw1 [z, some (.ref r), none, none, none, none, none, none, none] G0).sat (fun _ _ => False) fun w G' => w = .bl true := by
  unfold Blaw1
  refine so_seq (so_for ((List.range 8).map fun i : Nat => W.int (0 + i)) (fun i E G => RI r d c G ∧ ∃ a b e g k, E = [z, some (.ref r), a, b, e, g, k, none, none]) ?_ ?_ ?_)
  · simp only [s_rng1, s_c, W.int.injEq, exists_eq_left']
    refine ⟨by decide, by simp [PIt.len], ⟨h, none, none, none, none, none, rfl⟩, ?_⟩
    intro i E' G' _
    simp only [PIt.at, List.getElem?_map]
    by_cases hi : i < 8
    · simp [hi]
    · simp [hi, List.getElem?_eq_none_iff.mpr (show (List.range 8).length ≤ i from by simp; omega)]
  · rintro i w E G hw ⟨hr, a, b, e, g, k, rfl⟩
    obtain ⟨j, rfl⟩ : ∃ j : Int, w = .int j := by
      have := List.mem_of_getElem? hw
      obtain ⟨x, _, rfl⟩ := List.mem_map.mp this
      exact ⟨_, rfl⟩
    show (sSeq _ _ [z, some (.ref r), some (.int j), b, e, g, k, none, none] G).sat _ _
    refine so_seq (so_set ?_)
    simp only [s_bin, s_def, s_call, s_cons, s_nil, s_var, s_c, s_lst, s_tup, s_test, s_tru, s_notT, s_andT, s_orT, s_if, s_neg, s_meth, s_and, s_or, s_not, s_chain, s_chain3, List.getElem?_cons_zero, List.getElem?_cons_succ, Option.some.injEq, exists_eq_left', sat_ok, add_int, sub_int, List.set_cons_succ, List.set_cons_zero, List.length_cons, List.length_nil]
    refine ⟨le_line (by decide), ?_⟩
    have hlt := hr.lt
    refine (pick_ok hr.push (push_get _ _) (by omega) (by omega) (by simp) (by simp)).mono fun w G1 q => ?_
    obtain ⟨hw1, hr1, f1⟩ := q
    obtain ⟨mo, rfl, mo1, mo2⟩ : ∃ mo, w = .int mo ∧ 1 ≤ mo ∧ mo ≤ 24 := by
      simp only [List.mem_cons, List.not_mem_nil, or_false] at hw1
      rcases hw1 with rfl | rfl | rfl | rfl <;> exact ⟨_, rfl, by decide, by decide⟩
    refine (skeleton_ok hr1 mo1 mo2).mono fun w G2 q => ?_
    obtain ⟨⟨ws, rfl, hs⟩, hr2, f2⟩ := q
    have hs : skl ws := hs
    show (sSeq _ _ [z, some (.ref r), some (.int j), some (.tup ws), e, g, k, none, none] G2).sat _ _
    refine so_ty (P := fun G w => LV r d G 4 4 NSV w) (c := c) (G0 := G2) (tl_lst (ta_cons (ty_var rfl (skl_gv hs)) (ta_cons (ty_spoilt rfl rfl hs) (ta_cons (ty_spoilt rfl rfl hs) (ta_cons (ty_spoilt rfl rfl hs) ta_nil))))) Fr.refl hr2 fun v4 G3 p4 hr3 f3 => ?_
    refine so_ty (P := fun G w => gv [r, d] G NSV w) (c := c) (G0 := G3) (ty_spoilt rfl rfl hs) Fr.refl hr3 fun v5 G4 p5 hr4 f4 => ?_
    show (sSeq (sIf _ _ _) _ [z, some (.ref r), some (.int j), some (.tup ws), some v4, some v5, k, none, none] G4).sat _ _
    have p44 := p4.mono f4
    have fin : ∀ (G5 : Cells) (v : W), RI r d c G5 → Fr [r, d] G4 G5 → gv [r, d] G5 NSV v → (Bin2 [z, some (.ref r), some (.int j), some (.tup ws), some v4, some v, k, none, none] G5).sat (fun E G' => RI r d c G' ∧ ∃ a b e g k, E = [z, some (.ref r), a, b, e, g, k, none, none]) fun w G' => w = .bl true := fun G5 v hr5 f5 gv5 => in2_ok (e := none) hr5 (p44.mono f5) gv5
    have again : ∀ (G5 : Cells) (us : List W), v5 = .tup us → 1 ≤ us.length → us.length ≤ 24 → (∀ x ∈ us, itemOk x = true) → RI r d c G5 → Fr [r, d] G4 G5 → (sAsg (mDef M_law_spoilt (mCons (mVar 1) (mCons (mVar 5) (mNil)))) (gSet 5) [z, some (.ref r), some (.int j), some (.tup ws), some v4, some v5, k, none, none] G5).sat (fun E1 G1 => (Bin2 E1 G1).sat (fun E G' => RI r d c G' ∧ ∃ a b e g k, E = [z, some (.ref r), a, b, e, g, k, none, none]) fun w G' => w = .bl true) fun w G' => w = .bl true := by
      intro G5 us e u1 u2 uall hr5 f5
      subst e
      have hs5 : skl us := ⟨u1, u2, fun x hx => itm_of (uall x hx) ((p5.2 x hx))⟩
      refine so_set (Ty.run (G0 := G5) (c := c) (P := fun G w => gv [r, d] G NSV w) Fr.refl hr5 (fun w G' q1 q2 q3 => ?_) (ty_spoilt rfl rfl hs5))
      exact fin G' w q2 (f5.trans q3) q1
    refine so_seq (so_if ?_)
    simp only [s_bin, s_def, s_call, s_cons, s_nil, s_var, s_c, s_lst, s_tup, s_test, s_tru, s_notT, s_andT, s_orT, s_if, s_neg, s_meth, s_and, s_or, s_not, s_chain, s_chain3, List.getElem?_cons_zero, List.getElem?_cons_succ, Option.some.injEq, exists_eq_left', sat_ok, add_int, sub_int, List.set_cons_succ, List.set_cons_zero, List.length_cons, List.length_nil]
    refine (fault_ok (n := 60) (m := 60) (ns := [5, 1]) p5 (by decide)).mono fun a G5 q => ?_
    obtain ⟨rfl, f5⟩ := q
    have his : isW false G5 (skErr v5) .non = .ok (.bl (skErr v5).isNone) G5 := rfl
    simp only [his, sat_ok, W.bl.injEq, exists_eq_left']
    have hr5 := hr4.keep f5
    rcases skErr_cases v5 with ⟨e0, us, e1, u1, u2, u3⟩ | e0 | e0 | ⟨i5, e0⟩ | ⟨⟨i5, e0⟩, us, e1, u1, u2, u3⟩
    · rw [e0]
      simp only [W.isNone, if_true]
      exact again G5 us e1 u1 u2 u3 hr5 f5.of_nil
    all_goals
      have hno : (skErr v5).isNone = false := by rw [e0]; rfl
      simp only [hno, Bool.false_eq_true, if_false]
      refine (fault_ok (n := 60) (m := 60) (ns := [5, 1]) (p5.mono f5.of_nil) (by decide)).mono fun a G6 q => ?_
      obtain ⟨rfl, f6⟩ := q
      have hr6 := hr5.keep f6
      have f56 : Fr [r, d] G4 G6 := (f5.trans f6).of_nil
      rw [e0]
    · rw [get_form]
      simp only [sat_ok, eqOp_ss, W.bl.injEq, exists_eq_left', show ¬(("f" : Str) = "goal") from by decide +kernel, decide_false, Bool.false_eq_true, if_false]
      exact so_nx (fin G6 v5 hr6 f56 (p5.mono f56))
    · rw [get_jumps]
      simp only [sat_ok, eqOp_ss, W.bl.injEq, exists_eq_left', show ¬(("j" : Str) = "goal") from by decide +kernel, decide_false, Bool.false_eq_true, if_false]
      exact so_nx (fin G6 v5 hr6 f56 (p5.mono f56))
    · simp only [get0, sat_ok, eqOp_ss, W.bl.injEq, exists_eq_left', show ¬(("item" : Str) = "goal") from by decide +kernel, decide_false, Bool.false_eq_true, if_false]
      exact so_nx (fin G6 v5 hr6 f56 (p5.mono f56))
    · simp only [get0, sat_ok, eqOp_ss, W.bl.injEq, exists_eq_left', decide_true, if_true]
      exact again G6 us e1 u1 u2 u3 hr6 f56
  · rintro E G ⟨hr, a, b, e, g, k, rfl⟩
    exact law2_ok (k := none) hr
theorem law_true (ns : List Int) (hns : ns.length ≤ 63) : ∃ G, Mlaw [.ref 0] [.rol (ns.map W.int)] = .ok (.bl true) G := by
  have q : (Mlaw [.ref 0] [.rol (ns.map W.int)]).sat fun w _ => w = .bl true := by
    refine fun_sat rfl ?_
    show (Blaw [some (.ref 0), none, none, none, none, none, none, none, none] [.rol (ns.map W.int)]).sat _ _
    refine so_seq (so_set ?_)
    simp only [s_def, s_cons, s_nil, s_var, List.getElem?_cons_zero, Option.some.injEq, exists_eq_left', sat_ok]
    refine (reel_ok ns hns).mono fun w G q => ?_
    obtain ⟨r, d, c, rfl, hr⟩ := q
    exact (law_true_of G (some (.ref 0)) hr).mono (fun _ _ h => h.elim) fun _ _ h => h
  obtain ⟨w, G, e, rfl⟩ := q.get
  exact ⟨G, e⟩
end NS
/- part K01o -/
set_option maxHeartbeats 4000000
namespace NS
open PySem PySem.Spec PyProof.Rows L2 PL
structure Txt (K : Fg) (mg : Str → Option Value) : Prop where
  z_bool : mg "bool" = none
  z_enumerate : mg "enumerate" = none
  z_int : mg "int" = none
  z_isinstance : mg "isinstance" = none
  z_len : mg "len" = none
  z_list : mg "list" = none
  z_range : mg "range" = none
  z_repr : mg "repr" = none
  z_str : mg "str" = none
  z_tuple : mg "tuple" = none
  c_FILL_SIZES : ∃ a : Addr, mg "FILL_SIZES" = some (.ref a) ∧ ∀ H : Hp, SqT K H a [.int 2, .int 4, .int 8, .int 16, .int 32, .int 64]
  c_MAX_ITEMS : ∃ t, mg "MAX_ITEMS" = some (.int 24 t)
  c_MAX_JUMPS : ∃ t, mg "MAX_JUMPS" = some (.int 8 t)
  c_MAX_SIZE : ∃ t, mg "MAX_SIZE" = some (.int 999 t)
  f_is_integer : ∃ a fd, mg "is_integer" = some (.ref a) ∧ Fun K "is_integer" "is_integer" (topS 4) a fd
  f_jumps_of : ∃ a fd, mg "jumps_of" = some (.ref a) ∧ Fun K "jumps_of" "jumps_of" (topS 8) a fd
  f__is_label : ∃ a fd, mg "_is_label" = some (.ref a) ∧ Fun K "_is_label" "_is_label" (topS 10) a fd
  f__is_fill_size : ∃ a fd, mg "_is_fill_size" = some (.ref a) ∧ Fun K "_is_fill_size" "_is_fill_size" (topS 12) a fd
  f__is_fill : ∃ a fd, mg "_is_fill" = some (.ref a) ∧ Fun K "_is_fill" "_is_fill" (topS 11) a fd
  f__are_sizes : ∃ a fd, mg "_are_sizes" = some (.ref a) ∧ Fun K "_are_sizes" "_are_sizes" (topS 14) a fd
  f__is_jump : ∃ a fd, mg "_is_jump" = some (.ref a) ∧ Fun K "_is_jump" "_is_jump" (topS 13) a fd
  f__is_item : ∃ a fd, mg "_is_item" = some (.ref a) ∧ Fun K "_is_item" "_is_item" (topS 9) a fd
  f__is_place_of_label : ∃ a fd, mg "_is_place_of_label" = some (.ref a) ∧ Fun K "_is_place_of_label" "_is_place_of_label" (topS 15) a fd
  f_skeleton_error : ∃ a fd, mg "skeleton_error" = some (.ref a) ∧ Fun K "skeleton_error" "skeleton_error" (topS 7) a fd
  f__law_reel : ∃ a fd, mg "_law_reel" = some (.ref a) ∧ Fun K "_law_reel" "_law_reel" (topS 17) a fd
  f__law_draw : ∃ a fd, mg "_law_draw" = some (.ref a) ∧ Fun K "_law_draw" "_law_draw" (topS 18) a fd
  f__law_pick : ∃ a fd, mg "_law_pick" = some (.ref a) ∧ Fun K "_law_pick" "_law_pick" (topS 19) a fd
  f__law_sizes : ∃ a fd, mg "_law_sizes" = some (.ref a) ∧ Fun K "_law_sizes" "_law_sizes" (topS 20) a fd
  f__law_skeleton : ∃ a fd, mg "_law_skeleton" = some (.ref a) ∧ Fun K "_law_skeleton" "_law_skeleton" (topS 21) a fd
  f__law_is_int : ∃ a fd, mg "_law_is_int" = some (.ref a) ∧ Fun K "_law_is_int" "_law_is_int" (topS 22) a fd
  f__law_is_item : ∃ a fd, mg "_law_is_item" = some (.ref a) ∧ Fun K "_law_is_item" "_law_is_item" (topS 23) a fd
  f__law_fault : ∃ a fd, mg "_law_fault" = some (.ref a) ∧ Fun K "_law_fault" "_law_fault" (topS 24) a fd
  f__law_jumps : ∃ a fd, mg "_law_jumps" = some (.ref a) ∧ Fun K "_law_jumps" "_law_jumps" (topS 25) a fd
  f__law_odd_item : ∃ a fd, mg "_law_odd_item" = some (.ref a) ∧ Fun K "_law_odd_item" "_law_odd_item" (topS 26) a fd
  f__law_spoilt : ∃ a fd, mg "_law_spoilt" = some (.ref a) ∧ Fun K "_law_spoilt" "_law_spoilt" (topS 27) a fd
  f__law_is_told : ∃ a fd, mg "_law_is_told" = some (.ref a) ∧ Fun K "_law_is_told" "_law_is_told" (topS 28) a fd
  f_law : ∃ a fd, mg "law" = some (.ref a) ∧ Fun K "law" "law" (topS 29) a fd
section
variable {P : Program} {w : World} {K : Fg} {mg : Str → Option Value} {base : Heap}
theorem scis_integer : FnScope ["value"] ["value"] (defScope (topS 4)) := ⟨rfl, rfl, rfl, by decide +kernel, rfl, by decide +kernel, by decide +kernel⟩
theorem okis_integer (T : Txt K mg) (S : SysD base) : OkF P w K mg base "is_integer" (topS 4) ["value"] 1 Mis_integer := by
  obtain ⟨a, fd, hm, F⟩ := T.f_is_integer
  have q : ∀ (cdv : Value) (A : Around) (outer : List Env) (s : Shared) (H : Hp) (E : XK), GC (cxOf (L2.CX P w) P w K mg base ["value"] "is_integer" (defScope (topS 4)) a cdv A outer s H E) (wishOf mg K E) 0 → HB (cxOf (L2.CX P w) P w K mg base ["value"] "is_integer" (defScope (topS 4)) a cdv A outer s H E) (wishOf mg K E) (defBody (topS 4)) Bis_integer := by
    intro cdv A outer s H E c
    exact hb_one (hs_ret (he_and (he_callB cg_isi rfl T.z_isinstance (by decide +kernel) (ha_cons (he_var (i := 0) rfl (Or.inl rfl)) (ha_cons (he_type rfl T.z_int (by decide +kernel)) (ha_nil)))) (he_one (he_not (he_callB cg_isi rfl T.z_isinstance (by decide +kernel) (ha_cons (he_var (i := 0) rfl (Or.inl rfl)) (ha_cons (he_type rfl T.z_bool (by decide +kernel)) (ha_nil))))))))
  have q2 := fnG_fun (b := Bis_integer) F scis_integer S q
  have q3 := F.binds (ps := ["value"]) (fun _ _ _ _ _ _ us hl => match us, hl with | [_], _ => rfl)
  exact ⟨a, fd, F, hm, F.kp, q3, q2⟩

theorem scjumps_of : FnScope ["skeleton", "place", "item"] ["skeleton"] (defScope (topS 8)) := ⟨rfl, rfl, rfl, by decide +kernel, rfl, by decide +kernel, by decide +kernel⟩
theorem okjumps_of (T : Txt K mg) (S : SysD base) : OkF P w K mg base "jumps_of" (topS 8) ["skeleton"] 1 Mjumps_of := by
  obtain ⟨a, fd, hm, F⟩ := T.f_jumps_of
  have q : ∀ (cdv : Value) (A : Around) (outer : List Env) (s : Shared) (H : Hp) (E : XK), GC (cxOf (L2.CX P w) P w K mg base ["skeleton", "place", "item"] "jumps_of" (defScope (topS 8)) a cdv A outer s H E) (wishOf mg K E) 0 → HB (cxOf (L2.CX P w) P w K mg base ["skeleton", "place", "item"] "jumps_of" (defScope (topS 8)) a cdv A outer s H E) (wishOf mg K E) (defBody (topS 8)) Bjumps_of := by
    intro cdv A outer s H E c
    exact hb_one (hs_ret (he_callTy cg_tuple rfl T.z_tuple (by decide +kernel) (ha_cons (he_lc (own := [("place", 1), ("item", 2)]) c (hi_enum rfl T.z_enumerate (ha_cons (he_var (i := 0) rfl (Or.inl rfl)) (ha_nil))) (by kernel_rfl) (fun s1 H1 C1 cl1 fp1 => hg_tup (sl := [1, 2]) (GC.blk c s1 H1 _ _ fp1).calm (hgs_cons (GC.blk c s1 H1 _ _ fp1).nd rfl (Or.inl rfl) (by decide) (hgs_cons (GC.blk c s1 H1 _ _ fp1).nd rfl (Or.inl rfl) (by decide) (hgs_nil)))) (fun s1 H1 C1 cl1 fp1 => hts_one (ht_cmp (og_eq (GC.blk c s1 H1 _ _ fp1)) (he_ix (GC.blk c s1 H1 _ _ fp1).hu (he_var (i := 2) rfl (Or.inl rfl)) (he_int) (fun _ _ => rfl)) (he_str) (nomark _))) (fun s1 H1 C1 cl1 fp1 => he_var (i := 1) rfl (Or.inl rfl))) (ha_nil))))
  have q2 := fnG_fun (b := Bjumps_of) F scjumps_of S q
  have q3 := F.binds (ps := ["skeleton"]) (fun _ _ _ _ _ _ us hl => match us, hl with | [_], _ => rfl)
  exact ⟨a, fd, F, hm, F.kp, q3, q2⟩

theorem sc_is_label : FnScope ["item"] ["item"] (defScope (topS 10)) := ⟨rfl, rfl, rfl, by decide +kernel, rfl, by decide +kernel, by decide +kernel⟩
theorem ok_is_label (T : Txt K mg) (S : SysD base) : OkF P w K mg base "_is_label" (topS 10) ["item"] 1 M_is_label := by
  obtain ⟨a, fd, hm, F⟩ := T.f__is_label
  have q : ∀ (cdv : Value) (A : Around) (outer : List Env) (s : Shared) (H : Hp) (E : XK), GC (cxOf (L2.CX P w) P w K mg base ["item"] "_is_label" (defScope (topS 10)) a cdv A outer s H E) (wishOf mg K E) 0 → HB (cxOf (L2.CX P w) P w K mg base ["item"] "_is_label" (defScope (topS 10)) a cdv A outer s H E) (wishOf mg K E) (defBody (topS 10)) B_is_label := by
    intro cdv A outer s H E c
    exact hb_one (hs_ret (he_and (he_cmp (og_eq c) (he_callB cg_len rfl T.z_len (by decide +kernel) (ha_cons (he_var (i := 0) rfl (Or.inl rfl)) (ha_nil))) (he_int) (nomark _)) (he_one (he_cmp (og_eq c) (he_ix c.hu (he_var (i := 0) rfl (Or.inl rfl)) (he_int) (fun _ _ => rfl)) (he_str) (nomark _)))))
  have q2 := fnG_fun (b := B_is_label) F sc_is_label S q
  have q3 := F.binds (ps := ["item"]) (fun _ _ _ _ _ _ us hl => match us, hl with | [_], _ => rfl)
  exact ⟨a, fd, F, hm, F.kp, q3, q2⟩

theorem sc_is_fill_size : FnScope ["value"] ["value"] (defScope (topS 12)) := ⟨rfl, rfl, rfl, by decide +kernel, rfl, by decide +kernel, by decide +kernel⟩
theorem ok_is_fill_size (T : Txt K mg) (S : SysD base) : OkF P w K mg base "_is_fill_size" (topS 12) ["value"] 2 M_is_fill_size := by
  obtain ⟨a0, fd0, F0, g0, k0, b0, h0⟩ := okis_integer (P := P) (w := w) (base := base) T S
  obtain ⟨a, fd, hm, F⟩ := T.f__is_fill_size
  have q : ∀ (cdv : Value) (A : Around) (outer : List Env) (s : Shared) (H : Hp) (E : XK), GC (cxOf (L2.CX P w) P w K mg base ["value"] "_is_fill_size" (defScope (topS 12)) a cdv A outer s H E) (wishOf mg K E) 1 → HB (cxOf (L2.CX P w) P w K mg base ["value"] "_is_fill_size" (defScope (topS 12)) a cdv A outer s H E) (wishOf mg K E) (defBody (topS 12)) B_is_fill_size := by
    intro cdv A outer s H E c
    exact hb_one (hs_ret (he_and (he_call (h0.mono (by decide)) c rfl g0 k0 b0 (ha_cons (he_var (i := 0) rfl (Or.inl rfl)) (ha_nil))) (he_one (he_cmp (og_in c) (he_var (i := 0) rfl (Or.inl rfl)) ((by obtain ⟨a, hm, q⟩ := T.c_FILL_SIZES; exact he_glob (v := .ref a) rfl hm rfl fun _ _ => .tup (q _) (.cons (.int 2) (.cons (.int 4) (.cons (.int 8) (.cons (.int 16) (.cons (.int 32) (.cons (.int 64) .nil)))))))) (by rfl)))))
  have q2 := fnG_fun (b := B_is_fill_size) F sc_is_fill_size S q
  have q3 := F.binds (ps := ["value"]) (fun _ _ _ _ _ _ us hl => match us, hl with | [_], _ => rfl)
  exact ⟨a, fd, F, hm, F.kp, q3, q2⟩

theorem sc_is_fill : FnScope ["item"] ["item"] (defScope (topS 11)) := ⟨rfl, rfl, rfl, by decide +kernel, rfl, by decide +kernel, by decide +kernel⟩
theorem ok_is_fill (T : Txt K mg) (S : SysD base) : OkF P w K mg base "_is_fill" (topS 11) ["item"] 3 M_is_fill := by
  obtain ⟨a0, fd0, F0, g0, k0, b0, h0⟩ := ok_is_fill_size (P := P) (w := w) (base := base) T S
  obtain ⟨a, fd, hm, F⟩ := T.f__is_fill
  have q : ∀ (cdv : Value) (A : Around) (outer : List Env) (s : Shared) (H : Hp) (E : XK), GC (cxOf (L2.CX P w) P w K mg base ["item"] "_is_fill" (defScope (topS 11)) a cdv A outer s H E) (wishOf mg K E) 2 → HB (cxOf (L2.CX P w) P w K mg base ["item"] "_is_fill" (defScope (topS 11)) a cdv A outer s H E) (wishOf mg K E) (defBody (topS 11)) B_is_fill := by
    intro cdv A outer s H E c
    exact hb_one (hs_ret (he_and (he_cmp (og_eq c) (he_callB cg_len rfl T.z_len (by decide +kernel) (ha_cons (he_var (i := 0) rfl (Or.inl rfl)) (ha_nil))) (he_int) (nomark _)) (he_and (he_cmp (og_eq c) (he_ix c.hu (he_var (i := 0) rfl (Or.inl rfl)) (he_int) (fun _ _ => rfl)) (he_str) (nomark _)) (he_one (he_call (h0.mono (by decide)) c rfl g0 k0 b0 (ha_cons (he_ix c.hu (he_var (i := 0) rfl (Or.inl rfl)) (he_int) (fun _ _ => rfl)) (ha_nil)))))))
  have q2 := fnG_fun (b := B_is_fill) F sc_is_fill S q
  have q3 := F.binds (ps := ["item"]) (fun _ _ _ _ _ _ us hl => match us, hl with | [_], _ => rfl)
  exact ⟨a, fd, F, hm, F.kp, q3, q2⟩

theorem sc_are_sizes : FnScope ["short", "long"] ["short", "long"] (defScope (topS 14)) := ⟨rfl, rfl, rfl, by decide +kernel, rfl, by decide +kernel, by decide +kernel⟩
theorem ok_are_sizes (T : Txt K mg) (S : SysD base) : OkF P w K mg base "_are_sizes" (topS 14) ["short", "long"] 2 M_are_sizes := by
  obtain ⟨a0, fd0, F0, g0, k0, b0, h0⟩ := okis_integer (P := P) (w := w) (base := base) T S
  obtain ⟨a, fd, hm, F⟩ := T.f__are_sizes
  have q : ∀ (cdv : Value) (A : Around) (outer : List Env) (s : Shared) (H : Hp) (E : XK), GC (cxOf (L2.CX P w) P w K mg base ["short", "long"] "_are_sizes" (defScope (topS 14)) a cdv A outer s H E) (wishOf mg K E) 1 → HB (cxOf (L2.CX P w) P w K mg base ["short", "long"] "_are_sizes" (defScope (topS 14)) a cdv A outer s H E) (wishOf mg K E) (defBody (topS 14)) B_are_sizes := by
    intro cdv A outer s H E c
    exact hb_one (hs_ret (he_and (he_call (h0.mono (by decide)) c rfl g0 k0 b0 (ha_cons (he_var (i := 0) rfl (Or.inl rfl)) (ha_nil))) (he_and (he_call (h0.mono (by decide)) c rfl g0 k0 b0 (ha_cons (he_var (i := 1) rfl (Or.inl rfl)) (ha_nil))) (he_one (he_chain3 og_le og_lt og_le (he_int) (he_var (i := 0) rfl (Or.inl rfl)) (he_var (i := 1) rfl (Or.inl rfl)) ((by obtain ⟨_, hm⟩ := T.c_MAX_SIZE; exact he_glob (v := .int 999) rfl hm ⟨_, rfl⟩ fun _ _ => .int 999)))))))
  have q2 := fnG_fun (b := B_are_sizes) F sc_are_sizes S q
  have q3 := F.binds (ps := ["short", "long"]) (fun _ _ _ _ _ _ us hl => match us, hl with | [_, _], _ => rfl)
  exact ⟨a, fd, F, hm, F.kp, q3, q2⟩

theorem sc_is_jump : FnScope ["item"] ["item"] (defScope (topS 13)) := ⟨rfl, rfl, rfl, by decide +kernel, rfl, by decide +kernel, by decide +kernel⟩
theorem ok_is_jump (T : Txt K mg) (S : SysD base) : OkF P w K mg base "_is_jump" (topS 13) ["item"] 3 M_is_jump := by
  obtain ⟨a0, fd0, F0, g0, k0, b0, h0⟩ := okis_integer (P := P) (w := w) (base := base) T S
  obtain ⟨a1, fd1, F1, g1, k1, b1, h1⟩ := ok_are_sizes (P := P) (w := w) (base := base) T S
  obtain ⟨a, fd, hm, F⟩ := T.f__is_jump
  have q : ∀ (cdv : Value) (A : Around) (outer : List Env) (s : Shared) (H : Hp) (E : XK), GC (cxOf (L2.CX P w) P w K mg base ["item"] "_is_jump" (defScope (topS 13)) a cdv A outer s H E) (wishOf mg K E) 2 → HB (cxOf (L2.CX P w) P w K mg base ["item"] "_is_jump" (defScope (topS 13)) a cdv A outer s H E) (wishOf mg K E) (defBody (topS 13)) B_is_jump := by
    intro cdv A outer s H E c
    exact hb_one (hs_ret (he_and (he_cmp (og_eq c) (he_callB cg_len rfl T.z_len (by decide +kernel) (ha_cons (he_var (i := 0) rfl (Or.inl rfl)) (ha_nil))) (he_int) (nomark _)) (he_and (he_cmp (og_eq c) (he_ix c.hu (he_var (i := 0) rfl (Or.inl rfl)) (he_int) (fun _ _ => rfl)) (he_str) (nomark _)) (he_and (he_call (h0.mono (by decide)) c rfl g0 k0 b0 (ha_cons (he_ix c.hu (he_var (i := 0) rfl (Or.inl rfl)) (he_int) (fun _ _ => rfl)) (ha_nil))) (he_one (he_call (h1.mono (by decide)) c rfl g1 k1 b1 (ha_cons (he_ix c.hu (he_var (i := 0) rfl (Or.inl rfl)) (he_int) (fun _ _ => rfl)) (ha_cons (he_ix c.hu (he_var (i := 0) rfl (Or.inl rfl)) (he_int) (fun _ _ => rfl)) (ha_nil)))))))))
  have q2 := fnG_fun (b := B_is_jump) F sc_is_jump S q
  have q3 := F.binds (ps := ["item"]) (fun _ _ _ _ _ _ us hl => match us, hl with | [_], _ => rfl)
  exact ⟨a, fd, F, hm, F.kp, q3, q2⟩

theorem sc_is_item : FnScope ["value"] ["value"] (defScope (topS 9)) := ⟨rfl, rfl, rfl, by decide +kernel, rfl, by decide +kernel, by decide +kernel⟩
theorem ok_is_item (T : Txt K mg) (S : SysD base) : OkF P w K mg base "_is_item" (topS 9) ["value"] 4 M_is_item := by
  obtain ⟨a0, fd0, F0, g0, k0, b0, h0⟩ := ok_is_label (P := P) (w := w) (base := base) T S
  obtain ⟨a1, fd1, F1, g1, k1, b1, h1⟩ := ok_is_fill (P := P) (w := w) (base := base) T S
  obtain ⟨a2, fd2, F2, g2, k2, b2, h2⟩ := ok_is_jump (P := P) (w := w) (base := base) T S
  obtain ⟨a, fd, hm, F⟩ := T.f__is_item
  have q : ∀ (cdv : Value) (A : Around) (outer : List Env) (s : Shared) (H : Hp) (E : XK), GC (cxOf (L2.CX P w) P w K mg base ["value"] "_is_item" (defScope (topS 9)) a cdv A outer s H E) (wishOf mg K E) 3 → HB (cxOf (L2.CX P w) P w K mg base ["value"] "_is_item" (defScope (topS 9)) a cdv A outer s H E) (wishOf mg K E) (defBody (topS 9)) B_is_item := by
    intro cdv A outer s H E c
    exact hb_cons (hs_if (ht_not (ht_truth (he_callB cg_isi rfl T.z_isinstance (by decide +kernel) (ha_cons (he_var (i := 0) rfl (Or.inl rfl)) (ha_cons (he_type rfl T.z_tuple (by decide +kernel)) (ha_nil)))))) (hb_one (hs_ret (he_bl))) (hb_nil)) (hb_one (hs_ret (he_or (he_call (h0.mono (by decide)) c rfl g0 k0 b0 (ha_cons (he_var (i := 0) rfl (Or.inl rfl)) (ha_nil))) (he_or (he_call (h1.mono (by decide)) c rfl g1 k1 b1 (ha_cons (he_var (i := 0) rfl (Or.inl rfl)) (ha_nil))) (he_one (he_call (h2.mono (by decide)) c rfl g2 k2 b2 (ha_cons (he_var (i := 0) rfl (Or.inl rfl)) (ha_nil))))))))
  have q2 := fnG_fun (b := B_is_item) F sc_is_item S q
  have q3 := F.binds (ps := ["value"]) (fun _ _ _ _ _ _ us hl => match us, hl with | [_], _ => rfl)
  exact ⟨a, fd, F, hm, F.kp, q3, q2⟩

theorem sc_is_place_of_label : FnScope ["items", "goal"] ["items", "goal"] (defScope (topS 15)) := ⟨rfl, rfl, rfl, by decide +kernel, rfl, by decide +kernel, by decide +kernel⟩
theorem ok_is_place_of_label (T : Txt K mg) (S : SysD base) : OkF P w K mg base "_is_place_of_label" (topS 15) ["items", "goal"] 2 M_is_place_of_label := by
  obtain ⟨a0, fd0, F0, g0, k0, b0, h0⟩ := ok_is_label (P := P) (w := w) (base := base) T S
  obtain ⟨a, fd, hm, F⟩ := T.f__is_place_of_label
  have q : ∀ (cdv : Value) (A : Around) (outer : List Env) (s : Shared) (H : Hp) (E : XK), GC (cxOf (L2.CX P w) P w K mg base ["items", "goal"] "_is_place_of_label" (defScope (topS 15)) a cdv A outer s H E) (wishOf mg K E) 1 → HB (cxOf (L2.CX P w) P w K mg base ["items", "goal"] "_is_place_of_label" (defScope (topS 15)) a cdv A outer s H E) (wishOf mg K E) (defBody (topS 15)) B_is_place_of_label := by
    intro cdv A outer s H E c
    exact hb_one (hs_ret (he_and (he_chain og_le og_lt (he_int) (he_var (i := 1) rfl (Or.inl rfl)) (he_callB cg_len rfl T.z_len (by decide +kernel) (ha_cons (he_var (i := 0) rfl (Or.inl rfl)) (ha_nil)))) (he_one (he_call (h0.mono (by decide)) c rfl g0 k0 b0 (ha_cons (he_ix c.hu (he_var (i := 0) rfl (Or.inl rfl)) (he_var (i := 1) rfl (Or.inl rfl)) (fun _ _ => rfl)) (ha_nil))))))
  have q2 := fnG_fun (b := B_is_place_of_label) F sc_is_place_of_label S q
  have q3 := F.binds (ps := ["items", "goal"]) (fun _ _ _ _ _ _ us hl => match us, hl with | [_, _], _ => rfl)
  exact ⟨a, fd, F, hm, F.kp, q3, q2⟩

theorem scskeleton_error : FnScope ["value", "place", "item", "jumps", "jump"] ["value"] (defScope (topS 7)) := ⟨rfl, rfl, rfl, by decide +kernel, rfl, by decide +kernel, by decide +kernel⟩
theorem okskeleton_error (T : Txt K mg) (S : SysD base) : OkF P w K mg base "skeleton_error" (topS 7) ["value"] 5 Mskeleton_error := by
  obtain ⟨a0, fd0, F0, g0, k0, b0, h0⟩ := okjumps_of (P := P) (w := w) (base := base) T S
  obtain ⟨a1, fd1, F1, g1, k1, b1, h1⟩ := ok_is_item (P := P) (w := w) (base := base) T S
  obtain ⟨a2, fd2, F2, g2, k2, b2, h2⟩ := ok_is_place_of_label (P := P) (w := w) (base := base) T S
  obtain ⟨a, fd, hm, F⟩ := T.f_skeleton_error
  have q : ∀ (cdv : Value) (A : Around) (outer : List Env) (s : Shared) (H : Hp) (E : XK), GC (cxOf (L2.CX P w) P w K mg base ["value", "place", "item", "jumps", "jump"] "skeleton_error" (defScope (topS 7)) a cdv A outer s H E) (wishOf mg K E) 4 → HB (cxOf (L2.CX P w) P w K mg base ["value", "place", "item", "jumps", "jump"] "skeleton_error" (defScope (topS 7)) a cdv A outer s H E) (wishOf mg K E) (defBody (topS 7)) Bskeleton_error := by
    intro cdv A outer s H E c
    exact hb_cons (hs_if (HW.ht (hw_or (ht_not (ht_truth (he_callB cg_isi rfl T.z_isinstance (by decide +kernel) (ha_cons (he_var (i := 0) rfl (Or.inl rfl)) (ha_cons (he_type rfl T.z_tuple (by decide +kernel)) (ha_nil)))))) (hw_or1 (ht_not (ht_chain og_le og_le (he_int) (he_callB cg_len rfl T.z_len (by decide +kernel) (ha_cons (he_var (i := 0) rfl (Or.inl rfl)) (ha_nil))) ((by obtain ⟨_, hm⟩ := T.c_MAX_ITEMS; exact he_glob (v := .int 24) rfl hm ⟨_, rfl⟩ fun _ _ => .int 24))))))) (hb_one (hs_ret (he_str))) (hb_nil)) (hb_cons (hs_for c.po c.calm (hi_enum rfl T.z_enumerate (ha_cons (he_var (i := 0) rfl (Or.inl rfl)) (ha_nil))) (hg_tup (sl := [1, 2]) c.calm (hgs_cons c.nd rfl (Or.inl rfl) (by decide) (hgs_cons c.nd rfl (Or.inl rfl) (by decide) (hgs_nil)))) (hb_one (hs_if (ht_not (ht_truth (he_call (h1.mono (by decide)) c rfl g1 k1 b1 (ha_cons (he_var (i := 2) rfl (Or.inl rfl)) (ha_nil))))) (hb_one (hs_ret (he_tup (ha_cons (he_str) (ha_cons (he_var (i := 1) rfl (Or.inl rfl)) (ha_nil)))))) (hb_nil)))) (hb_cons (hs_set (i := 3) c.nd rfl (Or.inl rfl) (he_call (h0.mono (by decide)) c rfl g0 k0 b0 (ha_cons (he_var (i := 0) rfl (Or.inl rfl)) (ha_nil)))) (hb_cons (hs_for c.po c.calm (hi_seq (he_var (i := 3) rfl (Or.inl rfl))) (hg_name c.nd rfl (Or.inl rfl)) (hb_one (hs_if (ht_not (ht_truth (he_call (h2.mono (by decide)) c rfl g2 k2 b2 (ha_cons (he_var (i := 0) rfl (Or.inl rfl)) (ha_cons (he_ix c.hu (he_ix c.hu (he_var (i := 0) rfl (Or.inl rfl)) (he_var (i := 4) rfl (Or.inl rfl)) (fun _ _ => rfl)) (he_int) (fun _ _ => rfl)) (ha_nil)))))) (hb_one (hs_ret (he_tup (ha_cons (he_str) (ha_cons (he_var (i := 4) rfl (Or.inl rfl)) (ha_nil)))))) (hb_nil)))) (hb_cons (hs_if (ht_cmp og_gt (he_callB cg_len rfl T.z_len (by decide +kernel) (ha_cons (he_var (i := 3) rfl (Or.inl rfl)) (ha_nil))) ((by obtain ⟨_, hm⟩ := T.c_MAX_JUMPS; exact he_glob (v := .int 8) rfl hm ⟨_, rfl⟩ fun _ _ => .int 8)) (nomark _)) (hb_one (hs_ret (he_str))) (hb_nil)) (hb_one (hs_ret (he_non)))))))
  have q2 := fnG_fun (b := Bskeleton_error) F scskeleton_error S q
  have q3 := F.binds (ps := ["value"]) (fun _ _ _ _ _ _ us hl => match us, hl with | [_], _ => rfl)
  exact ⟨a, fd, F, hm, F.kp, q3, q2⟩

theorem sc_law_reel : FnScope ["script", "cells", "stamp", "own", "deep"] ["script"] (defScope (topS 17)) := ⟨rfl, rfl, rfl, by decide +kernel, rfl, by decide +kernel, by decide +kernel⟩
theorem ok_law_reel (T : Txt K mg) (S : SysD base) : OkF P w K mg base "_law_reel" (topS 17) ["script"] 1 M_law_reel := by
  obtain ⟨a, fd, hm, F⟩ := T.f__law_reel
  have q : ∀ (cdv : Value) (A : Around) (outer : List Env) (s : Shared) (H : Hp) (E : XK), GC (cxOf (L2.CX P w) P w K mg base ["script", "cells", "stamp", "own", "deep"] "_law_reel" (defScope (topS 17)) a cdv A outer s H E) (wishOf mg K E) 0 → HB (cxOf (L2.CX P w) P w K mg base ["script", "cells", "stamp", "own", "deep"] "_law_reel" (defScope (topS 17)) a cdv A outer s H E) (wishOf mg K E) (defBody (topS 17)) B_law_reel := by
    intro cdv A outer s H E c
    exact hb_cons (hs_par (i := 1) (j := 2) c rfl rfl (by decide) rfl rfl (ha_cons (he_lc (own := [("own", 3)]) c (hi_seq (he_cut (he_var (i := 0) rfl (Or.inl rfl)) (ho_none) (ho_some (he_int)))) (by kernel_rfl) (fun s1 H1 C1 cl1 fp1 => hg_name (GC.blk c s1 H1 _ _ fp1).nd rfl (Or.inl rfl)) (fun s1 H1 C1 cl1 fp1 => hts_nil) (fun s1 H1 C1 cl1 fp1 => he_if (ht_cmp og_ge (he_var (i := 3) rfl (Or.inl rfl)) (he_int) (nomark _)) (he_op og_mul (he_int) (he_var (i := 3) rfl (Or.inl rfl))) (he_op og_sub (he_op og_mul (he_neg (he_int)) (he_var (i := 3) rfl (Or.inl rfl))) (he_int)))) (ha_cons (he_op og_add (he_callB cg_len rfl T.z_len (by decide +kernel) (ha_cons (he_var (i := 0) rfl (Or.inl rfl)) (ha_nil))) (he_int)) (ha_nil))) (by rfl)) (hb_cons (hs_for c.po c.calm (hi_seq (he_var (i := 1) rfl (Or.inl rfl))) (hg_name c.nd rfl (Or.inl rfl)) (hb_one (hs_set (i := 2) c.nd rfl (Or.inl rfl) (he_op og_mod (he_callTy cg_int rfl T.z_int (by decide +kernel) (ha_cons (he_op og_add (he_op og_add (he_op og_mul (he_var (i := 2) rfl (Or.inl rfl)) (he_int)) (he_op og_mul (he_var (i := 3) rfl (Or.inl rfl)) (he_int))) (he_int)) (ha_nil))) (he_int))))) (hb_cons (hs_setLc (i := 4) (own := [("own", 3)]) c rfl rfl (sw_true rfl rfl rfl (by decide +kernel)) (hi_seq (he_var (i := 1) rfl (Or.inl rfl))) (by kernel_rfl) (fun s2 H2 C2 cl2 fp2 => hg_name (GC.blk c s2 H2 _ _ fp2).nd rfl (Or.inl rfl)) (fun s2 H2 C2 cl2 fp2 => hts_one (ht_cmp og_ge (he_var (i := 3) rfl (Or.inl rfl)) (he_op og_pow (he_int) (he_int)) (nomark _))) (fun s2 H2 C2 cl2 fp2 => he_var (i := 3) rfl (Or.inl rfl))) (hb_one (hs_ret (he_disp (hp_cons (he_str) (he_var (i := 4) rfl (Or.inl rfl)) (hp_cons (he_str) (he_op og_add (he_var (i := 1) rfl (Or.inl rfl)) (he_lst (ha_cons (he_op og_add (he_op og_mul (he_int) (he_callB cg_len rfl T.z_len (by decide +kernel) (ha_cons (he_var (i := 1) rfl (Or.inl rfl)) (ha_nil)))) (he_int)) (ha_nil)))) (hp_cons (he_str) (he_var (i := 2) rfl (Or.inl rfl)) (hp_cons (he_str) (he_int) (hp_nil))))))))))
  have q2 := fnG_fun (b := B_law_reel) F sc_law_reel S q
  have q3 := F.binds (ps := ["script"]) (fun _ _ _ _ _ _ us hl => match us, hl with | [_], _ => rfl)
  exact ⟨a, fd, F, hm, F.kp, q3, q2⟩

theorem sc_law_draw : FnScope ["reel", "many", "deep", "own", "count", "cells", "mixed", "turn"] ["reel", "many"] (defScope (topS 18)) := ⟨rfl, rfl, rfl, by decide +kernel, rfl, by decide +kernel, by decide +kernel⟩
theorem ok_law_draw (T : Txt K mg) (S : SysD base) : OkF P w K mg base "_law_draw" (topS 18) ["reel", "many"] 1 M_law_draw := by
  obtain ⟨a, fd, hm, F⟩ := T.f__law_draw
  have q : ∀ (cdv : Value) (A : Around) (outer : List Env) (s : Shared) (H : Hp) (E : XK), GC (cxOf (L2.CX P w) P w K mg base ["reel", "many", "deep", "own", "count", "cells", "mixed", "turn"] "_law_draw" (defScope (topS 18)) a cdv A outer s H E) (wishOf mg K E) 0 → HB (cxOf (L2.CX P w) P w K mg base ["reel", "many", "deep", "own", "count", "cells", "mixed", "turn"] "_law_draw" (defScope (topS 18)) a cdv A outer s H E) (wishOf mg K E) (defBody (topS 18)) B_law_draw := by
    intro cdv A outer s H E c
    exact hb_cons (hs_set (i := 2) c.nd rfl (Or.inl rfl) (he_ix c.hu (he_var (i := 0) rfl (Or.inl rfl)) (he_str) (fun _ _ => rfl))) (hb_cons (hs_if (HW.ht (hw_and (ht_cmp (og_ne c) (he_var (i := 2) rfl (Or.inl rfl)) (he_lst (ha_nil)) (nomark _)) (hw_and1 (ht_cmp og_gt (he_var (i := 1) rfl (Or.inl rfl)) (he_int) (nomark _))))) (hb_cons (hs_set (i := 3) c.nd rfl (Or.inl rfl) (he_meth0 PySem.F.plainAttrs_list PySem.F.slot_list_pop PySem.F.type_list_pop mg_pop (he_var (i := 2) rfl (Or.inl rfl)))) (hb_cons (hs_if (ht_cmp og_ge (he_var (i := 3) rfl (Or.inl rfl)) (he_var (i := 1) rfl (Or.inl rfl)) (nomark _)) (hb_one (hs_expr (he_meth PySem.F.plainAttrs_list PySem.F.slot_list_append PySem.F.type_list_append mg_append (he_var (i := 2) rfl (Or.inl rfl)) (ha_cons (he_op og_fdiv (he_var (i := 3) rfl (Or.inl rfl)) (he_var (i := 1) rfl (Or.inl rfl))) (ha_nil))))) (hb_nil)) (hb_one (hs_ret (he_op og_mod (he_callTy cg_int rfl T.z_int (by decide +kernel) (ha_cons (he_var (i := 3) rfl (Or.inl rfl)) (ha_nil))) (he_var (i := 1) rfl (Or.inl rfl))))))) (hb_nil)) (hb_cons (hs_asg (he_op og_add (he_ix c.hu (he_var (i := 0) rfl (Or.inl rfl)) (he_str) (fun _ _ => rfl)) (he_int)) (hg_put c.hu (he_var (i := 0) rfl (Or.inl rfl)) (he_str) (fun h1 h2 h3 => pg_sub h1 h2 h3))) (hb_cons (hs_par (i := 4) (j := 5) c rfl rfl (by decide) rfl rfl (ha_cons (he_ix c.hu (he_var (i := 0) rfl (Or.inl rfl)) (he_str) (fun _ _ => rfl)) (ha_cons (he_ix c.hu (he_var (i := 0) rfl (Or.inl rfl)) (he_str) (fun _ _ => rfl)) (ha_nil))) (by rfl)) (hb_cons (hs_set (i := 6) c.nd rfl (Or.inl rfl) (he_op og_mod (he_callTy cg_int rfl T.z_int (by decide +kernel) (ha_cons (he_op og_add (he_op og_add (he_op og_mul (he_ix c.hu (he_var (i := 5) rfl (Or.inl rfl)) (he_op og_mod (he_callTy cg_int rfl T.z_int (by decide +kernel) (ha_cons (he_op og_mul (he_var (i := 4) rfl (Or.inl rfl)) (he_int)) (ha_nil))) (he_callB cg_len rfl T.z_len (by decide +kernel) (ha_cons (he_var (i := 5) rfl (Or.inl rfl)) (ha_nil)))) (fun _ _ => rfl)) (he_int)) (he_ix c.hu (he_var (i := 0) rfl (Or.inl rfl)) (he_str) (fun _ _ => rfl))) (he_op og_mul (he_var (i := 4) rfl (Or.inl rfl)) (he_int))) (ha_nil))) (he_int))) (hb_cons (hs_for c.po c.calm (hi_range1 rfl T.z_range (ha_cons (he_int) (ha_nil))) (hg_name c.nd rfl (Or.inl rfl)) (hb_one (hs_set (i := 6) c.nd rfl (Or.inl rfl) (he_op og_mod (he_callTy cg_int rfl T.z_int (by decide +kernel) (ha_cons (he_op og_add (he_op og_mul (he_var (i := 6) rfl (Or.inl rfl)) (he_var (i := 6) rfl (Or.inl rfl))) (he_op og_mul (he_ix c.hu (he_var (i := 0) rfl (Or.inl rfl)) (he_str) (fun _ _ => rfl)) (he_op og_add (he_var (i := 4) rfl (Or.inl rfl)) (he_var (i := 7) rfl (Or.inl rfl))))) (ha_nil))) (he_int))))) (hb_one (hs_ret (he_op og_mod (he_callTy cg_int rfl T.z_int (by decide +kernel) (ha_cons (he_op og_fdiv (he_var (i := 6) rfl (Or.inl rfl)) (he_int)) (ha_nil))) (he_var (i := 1) rfl (Or.inl rfl))))))))))
  have q2 := fnG_fun (b := B_law_draw) F sc_law_draw S q
  have q3 := F.binds (ps := ["reel", "many"]) (fun _ _ _ _ _ _ us hl => match us, hl with | [_, _], _ => rfl)
  exact ⟨a, fd, F, hm, F.kp, q3, q2⟩

theorem sc_law_pick : FnScope ["reel", "things"] ["reel", "things"] (defScope (topS 19)) := ⟨rfl, rfl, rfl, by decide +kernel, rfl, by decide +kernel, by decide +kernel⟩
theorem ok_law_pick (T : Txt K mg) (S : SysD base) : OkF P w K mg base "_law_pick" (topS 19) ["reel", "things"] 2 M_law_pick := by
  obtain ⟨a0, fd0, F0, g0, k0, b0, h0⟩ := ok_law_draw (P := P) (w := w) (base := base) T S
  obtain ⟨a, fd, hm, F⟩ := T.f__law_pick
  have q : ∀ (cdv : Value) (A : Around) (outer : List Env) (s : Shared) (H : Hp) (E : XK), GC (cxOf (L2.CX P w) P w K mg base ["reel", "things"] "_law_pick" (defScope (topS 19)) a cdv A outer s H E) (wishOf mg K E) 1 → HB (cxOf (L2.CX P w) P w K mg base ["reel", "things"] "_law_pick" (defScope (topS 19)) a cdv A outer s H E) (wishOf mg K E) (defBody (topS 19)) B_law_pick := by
    intro cdv A outer s H E c
    exact hb_one (hs_ret (he_ix c.hu (he_var (i := 1) rfl (Or.inl rfl)) (he_call (h0.mono (by decide)) c rfl g0 k0 b0 (ha_cons (he_var (i := 0) rfl (Or.inl rfl)) (ha_cons (he_callB cg_len rfl T.z_len (by decide +kernel) (ha_cons (he_var (i := 1) rfl (Or.inl rfl)) (ha_nil))) (ha_nil)))) (fun _ _ => rfl)))
  have q2 := fnG_fun (b := B_law_pick) F sc_law_pick S q
  have q3 := F.binds (ps := ["reel", "things"]) (fun _ _ _ _ _ _ us hl => match us, hl with | [_, _], _ => rfl)
  exact ⟨a, fd, F, hm, F.kp, q3, q2⟩

theorem sc_law_sizes : FnScope ["reel", "short"] ["reel"] (defScope (topS 20)) := ⟨rfl, rfl, rfl, by decide +kernel, rfl, by decide +kernel, by decide +kernel⟩
theorem ok_law_sizes (T : Txt K mg) (S : SysD base) : OkF P w K mg base "_law_sizes" (topS 20) ["reel"] 3 M_law_sizes := by
  obtain ⟨a0, fd0, F0, g0, k0, b0, h0⟩ := ok_law_pick (P := P) (w := w) (base := base) T S
  obtain ⟨a1, fd1, F1, g1, k1, b1, h1⟩ := ok_law_draw (P := P) (w := w) (base := base) T S
  obtain ⟨a, fd, hm, F⟩ := T.f__law_sizes
  have q : ∀ (cdv : Value) (A : Around) (outer : List Env) (s : Shared) (H : Hp) (E : XK), GC (cxOf (L2.CX P w) P w K mg base ["reel", "short"] "_law_sizes" (defScope (topS 20)) a cdv A outer s H E) (wishOf mg K E) 2 → HB (cxOf (L2.CX P w) P w K mg base ["reel", "short"] "_law_sizes" (defScope (topS 20)) a cdv A outer s H E) (wishOf mg K E) (defBody (topS 20)) B_law_sizes := by
    intro cdv A outer s H E c
    exact hb_cons (hs_set (i := 1) c.nd rfl (Or.inl rfl) (he_call (h0.mono (by decide)) c rfl g0 k0 b0 (ha_cons (he_var (i := 0) rfl (Or.inl rfl)) (ha_cons (he_lst (ha_cons (he_int) (ha_cons (he_int) (ha_cons (he_int) (ha_cons (he_int) (ha_cons (he_int) (ha_cons (he_int) (ha_cons (he_op og_add (he_int) (he_call (h1.mono (by decide)) c rfl g1 k1 b1 (ha_cons (he_var (i := 0) rfl (Or.inl rfl)) (ha_cons (he_int) (ha_nil))))) (ha_nil))))))))) (ha_nil))))) (hb_one (hs_ret (he_tup (ha_cons (he_var (i := 1) rfl (Or.inl rfl)) (ha_cons (he_call (h0.mono (by decide)) c rfl g0 k0 b0 (ha_cons (he_var (i := 0) rfl (Or.inl rfl)) (ha_cons (he_lst (ha_cons (he_op og_add (he_var (i := 1) rfl (Or.inl rfl)) (he_int)) (ha_cons (he_op og_add (he_op og_add (he_var (i := 1) rfl (Or.inl rfl)) (he_int)) (he_call (h1.mono (by decide)) c rfl g1 k1 b1 (ha_cons (he_var (i := 0) rfl (Or.inl rfl)) (ha_cons (he_op og_sub (he_int) (he_var (i := 1) rfl (Or.inl rfl))) (ha_nil))))) (ha_cons (he_int) (ha_nil))))) (ha_nil)))) (ha_nil))))))
  have q2 := fnG_fun (b := B_law_sizes) F sc_law_sizes S q
  have q3 := F.binds (ps := ["reel"]) (fun _ _ _ _ _ _ us hl => match us, hl with | [_], _ => rfl)
  exact ⟨a, fd, F, hm, F.kp, q3, q2⟩

theorem sc_law_skeleton : FnScope ["reel", "most", "many", "kinds", "labels", "found", "left", "kind", "short", "size", "place"] ["reel", "most"] (defScope (topS 21)) := ⟨rfl, rfl, rfl, by decide +kernel, rfl, by decide +kernel, by decide +kernel⟩
theorem ok_law_skeleton (T : Txt K mg) (S : SysD base) : OkF P w K mg base "_law_skeleton" (topS 21) ["reel", "most"] 4 M_law_skeleton := by
  obtain ⟨a0, fd0, F0, g0, k0, b0, h0⟩ := ok_law_draw (P := P) (w := w) (base := base) T S
  obtain ⟨a1, fd1, F1, g1, k1, b1, h1⟩ := ok_law_pick (P := P) (w := w) (base := base) T S
  obtain ⟨a2, fd2, F2, g2, k2, b2, h2⟩ := ok_law_sizes (P := P) (w := w) (base := base) T S
  obtain ⟨a, fd, hm, F⟩ := T.f__law_skeleton
  have q : ∀ (cdv : Value) (A : Around) (outer : List Env) (s : Shared) (H : Hp) (E : XK), GC (cxOf (L2.CX P w) P w K mg base ["reel", "most", "many", "kinds", "labels", "found", "left", "kind", "short", "size", "place"] "_law_skeleton" (defScope (topS 21)) a cdv A outer s H E) (wishOf mg K E) 3 → HB (cxOf (L2.CX P w) P w K mg base ["reel", "most", "many", "kinds", "labels", "found", "left", "kind", "short", "size", "place"] "_law_skeleton" (defScope (topS 21)) a cdv A outer s H E) (wishOf mg K E) (defBody (topS 21)) B_law_skeleton := by
    intro cdv A outer s H E c
    exact hb_cons (hs_set (i := 2) c.nd rfl (Or.inl rfl) (he_op og_add (he_int) (he_call (h0.mono (by decide)) c rfl g0 k0 b0 (ha_cons (he_var (i := 0) rfl (Or.inr (Or.inl rfl))) (ha_cons (he_var (i := 1) rfl (Or.inl rfl)) (ha_nil)))))) (hb_cons (hs_if (ht_cmp (og_eq c) (he_call (h0.mono (by decide)) c rfl g0 k0 b0 (ha_cons (he_var (i := 0) rfl (Or.inr (Or.inl rfl))) (ha_cons (he_int) (ha_nil)))) (he_int) (nomark _)) (hb_one (hs_set (i := 2) c.nd rfl (Or.inl rfl) (he_var (i := 1) rfl (Or.inl rfl)))) (hb_nil)) (hb_cons (hs_setLc (i := 3) (own := [("place", 10)]) c rfl rfl (sw_true rfl rfl rfl (by decide +kernel)) (hi_range1 rfl T.z_range (ha_cons (he_var (i := 2) rfl (Or.inl rfl)) (ha_nil))) (by kernel_rfl) (fun s1 H1 C1 cl1 fp1 => hg_name (GC.blk c s1 H1 _ _ fp1).nd rfl (Or.inl rfl)) (fun s1 H1 C1 cl1 fp1 => hts_nil) (fun s1 H1 C1 cl1 fp1 => he_call (h1.mono (by decide)) (GC.blk c s1 H1 _ _ fp1) rfl g1 k1 b1 (ha_cons (he_var (i := 0) rfl (Or.inr (Or.inl rfl))) (ha_cons (he_lst (ha_cons (he_str) (ha_cons (he_str) (ha_cons (he_str) (ha_cons (he_str) (ha_cons (he_str) (ha_nil))))))) (ha_nil))))) (hb_cons (hs_if (ht_cmp (og_notin c) (he_str) (he_var (i := 3) rfl (Or.inl rfl)) (by rfl)) (hb_one (hs_asg (he_str) (hg_put c.hu (he_var (i := 3) rfl (Or.inl rfl)) (he_call (h0.mono (by decide)) c rfl g0 k0 b0 (ha_cons (he_var (i := 0) rfl (Or.inr (Or.inl rfl))) (ha_cons (he_var (i := 2) rfl (Or.inl rfl)) (ha_nil)))) (fun h1 h2 h3 => pg_sub h1 h2 h3)))) (hb_nil)) (hb_cons (hs_setLc (i := 4) (own := [("place", 10), ("kind", 7)]) c rfl rfl (sw_true rfl rfl rfl (by decide +kernel)) (hi_enum rfl T.z_enumerate (ha_cons (he_var (i := 3) rfl (Or.inl rfl)) (ha_nil))) (by kernel_rfl) (fun s2 H2 C2 cl2 fp2 => hg_tup (sl := [10, 7]) (GC.blk c s2 H2 _ _ fp2).calm (hgs_cons (GC.blk c s2 H2 _ _ fp2).nd rfl (Or.inl rfl) (by decide) (hgs_cons (GC.blk c s2 H2 _ _ fp2).nd rfl (Or.inl rfl) (by decide) (hgs_nil)))) (fun s2 H2 C2 cl2 fp2 => hts_one (ht_cmp (og_eq (GC.blk c s2 H2 _ _ fp2)) (he_var (i := 7) rfl (Or.inl rfl)) (he_str) (nomark _))) (fun s2 H2 C2 cl2 fp2 => he_var (i := 10) rfl (Or.inl rfl))) (hb_cons (hs_par (i := 5) (j := 6) c rfl rfl (by decide) rfl rfl (ha_cons (he_lst (ha_nil)) (ha_cons (he_int) (ha_nil))) (by rfl)) (hb_cons (hs_for c.po c.calm (hi_seq (he_var (i := 3) rfl (Or.inl rfl))) (hg_name c.nd rfl (Or.inl rfl)) (hb_one (hs_if (HW.ht (hw_and (ht_cmp (og_eq c) (he_var (i := 7) rfl (Or.inl rfl)) (he_str) (nomark _)) (hw_and1 (ht_cmp og_gt (he_var (i := 6) rfl (Or.inl rfl)) (he_int) (nomark _))))) (hb_cons (hs_asg (he_call (h2.mono (by decide)) c rfl g2 k2 b2 (ha_cons (he_var (i := 0) rfl (Or.inr (Or.inl rfl))) (ha_nil))) (hg_tup (sl := [8, 9]) c.calm (hgs_cons c.nd rfl (Or.inl rfl) (by decide) (hgs_cons c.nd rfl (Or.inl rfl) (by decide) (hgs_nil))))) (hb_cons (hs_expr (he_meth PySem.F.plainAttrs_list PySem.F.slot_list_append PySem.F.type_list_append mg_append (he_var (i := 5) rfl (Or.inl rfl)) (ha_cons (he_tup (ha_cons (he_str) (ha_cons (he_call (h1.mono (by decide)) c rfl g1 k1 b1 (ha_cons (he_var (i := 0) rfl (Or.inr (Or.inl rfl))) (ha_cons (he_var (i := 4) rfl (Or.inl rfl)) (ha_nil)))) (ha_cons (he_var (i := 8) rfl (Or.inl rfl)) (ha_cons (he_var (i := 9) rfl (Or.inl rfl)) (ha_nil)))))) (ha_nil)))) (hb_one (hs_set (i := 6) c.nd rfl (Or.inl rfl) (he_op og_sub (he_var (i := 6) rfl (Or.inl rfl)) (he_int)))))) (hb_one (hs_expr (he_meth PySem.F.plainAttrs_list PySem.F.slot_list_append PySem.F.type_list_append mg_append (he_var (i := 5) rfl (Or.inl rfl)) (ha_cons (he_if (ht_cmp (og_eq c) (he_var (i := 7) rfl (Or.inl rfl)) (he_str) (nomark _)) (he_tup (ha_cons (he_str) (ha_nil))) (he_tup (ha_cons (he_str) (ha_cons (he_call (h1.mono (by decide)) c rfl g1 k1 b1 (ha_cons (he_var (i := 0) rfl (Or.inr (Or.inl rfl))) (ha_cons (he_lst (ha_cons (he_int) (ha_cons (he_int) (ha_cons (he_int) (ha_cons (he_int) (ha_cons (he_int) (ha_cons (he_int) (ha_nil)))))))) (ha_nil)))) (ha_nil))))) (ha_nil)))))))) (hb_one (hs_ret (he_callTy cg_tuple rfl T.z_tuple (by decide +kernel) (ha_cons (he_var (i := 5) rfl (Or.inl rfl)) (ha_nil)))))))))))
  have q2 := fnG_fun (b := B_law_skeleton) F sc_law_skeleton S q
  have q3 := F.binds (ps := ["reel", "most"]) (fun _ _ _ _ _ _ us hl => match us, hl with | [_, _], _ => rfl)
  exact ⟨a, fd, F, hm, F.kp, q3, q2⟩

theorem sc_law_is_int : FnScope ["value", "low", "high"] ["value", "low", "high"] (defScope (topS 22)) := ⟨rfl, rfl, rfl, by decide +kernel, rfl, by decide +kernel, by decide +kernel⟩
theorem ok_law_is_int (T : Txt K mg) (S : SysD base) : OkF P w K mg base "_law_is_int" (topS 22) ["value", "low", "high"] 1 M_law_is_int := by
  obtain ⟨a, fd, hm, F⟩ := T.f__law_is_int
  have q : ∀ (cdv : Value) (A : Around) (outer : List Env) (s : Shared) (H : Hp) (E : XK), GC (cxOf (L2.CX P w) P w K mg base ["value", "low", "high"] "_law_is_int" (defScope (topS 22)) a cdv A outer s H E) (wishOf mg K E) 0 → HB (cxOf (L2.CX P w) P w K mg base ["value", "low", "high"] "_law_is_int" (defScope (topS 22)) a cdv A outer s H E) (wishOf mg K E) (defBody (topS 22)) B_law_is_int := by
    intro cdv A outer s H E c
    exact hb_one (hs_ret (he_and (he_callB cg_isi rfl T.z_isinstance (by decide +kernel) (ha_cons (he_var (i := 0) rfl (Or.inl rfl)) (ha_cons (he_type rfl T.z_int (by decide +kernel)) (ha_nil)))) (he_and (he_not (he_callB cg_isi rfl T.z_isinstance (by decide +kernel) (ha_cons (he_var (i := 0) rfl (Or.inl rfl)) (ha_cons (he_type rfl T.z_bool (by decide +kernel)) (ha_nil))))) (he_one (he_chain og_le og_le (he_var (i := 1) rfl (Or.inl rfl)) (he_var (i := 0) rfl (Or.inl rfl)) (he_var (i := 2) rfl (Or.inl rfl)))))))
  have q2 := fnG_fun (b := B_law_is_int) F sc_law_is_int S q
  have q3 := F.binds (ps := ["value", "low", "high"]) (fun _ _ _ _ _ _ us hl => match us, hl with | [_, _, _], _ => rfl)
  exact ⟨a, fd, F, hm, F.kp, q3, q2⟩

theorem sc_law_is_item : FnScope ["value"] ["value"] (defScope (topS 23)) := ⟨rfl, rfl, rfl, by decide +kernel, rfl, by decide +kernel, by decide +kernel⟩
theorem ok_law_is_item (T : Txt K mg) (S : SysD base) : OkF P w K mg base "_law_is_item" (topS 23) ["value"] 2 M_law_is_item := by
  obtain ⟨a0, fd0, F0, g0, k0, b0, h0⟩ := ok_law_is_int (P := P) (w := w) (base := base) T S
  obtain ⟨a, fd, hm, F⟩ := T.f__law_is_item
  have q : ∀ (cdv : Value) (A : Around) (outer : List Env) (s : Shared) (H : Hp) (E : XK), GC (cxOf (L2.CX P w) P w K mg base ["value"] "_law_is_item" (defScope (topS 23)) a cdv A outer s H E) (wishOf mg K E) 1 → HB (cxOf (L2.CX P w) P w K mg base ["value"] "_law_is_item" (defScope (topS 23)) a cdv A outer s H E) (wishOf mg K E) (defBody (topS 23)) B_law_is_item := by
    intro cdv A outer s H E c
    exact hb_cons (hs_if (HW.ht (hw_or (ht_not (ht_truth (he_callB cg_isi rfl T.z_isinstance (by decide +kernel) (ha_cons (he_var (i := 0) rfl (Or.inl rfl)) (ha_cons (he_type rfl T.z_tuple (by decide +kernel)) (ha_nil)))))) (hw_or (ht_cmp (og_eq c) (he_var (i := 0) rfl (Or.inl rfl)) (he_tup (ha_nil)) (nomark _)) (hw_or1 (ht_not (ht_truth (he_callB cg_isi rfl T.z_isinstance (by decide +kernel) (ha_cons (he_ix c.hu (he_var (i := 0) rfl (Or.inl rfl)) (he_int) (fun _ _ => rfl)) (ha_cons (he_type rfl T.z_str (by decide +kernel)) (ha_nil)))))))))) (hb_one (hs_ret (he_bl))) (hb_nil)) (hb_cons (hs_if (ht_cmp (og_eq c) (he_ix c.hu (he_var (i := 0) rfl (Or.inl rfl)) (he_int) (fun _ _ => rfl)) (he_str) (nomark _)) (hb_one (hs_ret (he_cmp (og_eq c) (he_callB cg_len rfl T.z_len (by decide +kernel) (ha_cons (he_var (i := 0) rfl (Or.inl rfl)) (ha_nil))) (he_int) (nomark _)))) (hb_nil)) (hb_cons (hs_if (ht_cmp (og_eq c) (he_ix c.hu (he_var (i := 0) rfl (Or.inl rfl)) (he_int) (fun _ _ => rfl)) (he_str) (nomark _)) (hb_one (hs_ret (he_and (he_cmp (og_eq c) (he_callB cg_len rfl T.z_len (by decide +kernel) (ha_cons (he_var (i := 0) rfl (Or.inl rfl)) (ha_nil))) (he_int) (nomark _)) (he_and (he_call (h0.mono (by decide)) c rfl g0 k0 b0 (ha_cons (he_ix c.hu (he_var (i := 0) rfl (Or.inl rfl)) (he_int) (fun _ _ => rfl)) (ha_cons (he_int) (ha_cons (he_int) (ha_nil))))) (he_one (he_cmp (og_in c) (he_ix c.hu (he_var (i := 0) rfl (Or.inl rfl)) (he_int) (fun _ _ => rfl)) (he_tup (ha_cons (he_int) (ha_cons (he_int) (ha_cons (he_int) (ha_cons (he_int) (ha_cons (he_int) (ha_cons (he_int) (ha_nil)))))))) (by rfl))))))) (hb_nil)) (hb_cons (hs_if (HW.ht (hw_or (ht_cmp (og_ne c) (he_ix c.hu (he_var (i := 0) rfl (Or.inl rfl)) (he_int) (fun _ _ => rfl)) (he_str) (nomark _)) (hw_or (ht_cmp (og_ne c) (he_callB cg_len rfl T.z_len (by decide +kernel) (ha_cons (he_var (i := 0) rfl (Or.inl rfl)) (ha_nil))) (he_int) (nomark _)) (hw_or (ht_truth (he_callB cg_isi rfl T.z_isinstance (by decide +kernel) (ha_cons (he_ix c.hu (he_var (i := 0) rfl (Or.inl rfl)) (he_int) (fun _ _ => rfl)) (ha_cons (he_type rfl T.z_bool (by decide +kernel)) (ha_nil))))) (hw_or1 (ht_not (ht_truth (he_callB cg_isi rfl T.z_isinstance (by decide +kernel) (ha_cons (he_ix c.hu (he_var (i := 0) rfl (Or.inl rfl)) (he_int) (fun _ _ => rfl)) (ha_cons (he_type rfl T.z_int (by decide +kernel)) (ha_nil))))))))))) (hb_one (hs_ret (he_bl))) (hb_nil)) (hb_one (hs_ret (he_and (he_call (h0.mono (by decide)) c rfl g0 k0 b0 (ha_cons (he_ix c.hu (he_var (i := 0) rfl (Or.inl rfl)) (he_int) (fun _ _ => rfl)) (ha_cons (he_int) (ha_cons (he_int) (ha_nil))))) (he_and (he_call (h0.mono (by decide)) c rfl g0 k0 b0 (ha_cons (he_ix c.hu (he_var (i := 0) rfl (Or.inl rfl)) (he_int) (fun _ _ => rfl)) (ha_cons (he_int) (ha_cons (he_int) (ha_nil))))) (he_one (he_cmp og_lt (he_ix c.hu (he_var (i := 0) rfl (Or.inl rfl)) (he_int) (fun _ _ => rfl)) (he_ix c.hu (he_var (i := 0) rfl (Or.inl rfl)) (he_int) (fun _ _ => rfl)) (nomark _))))))))))
  have q2 := fnG_fun (b := B_law_is_item) F sc_law_is_item S q
  have q3 := F.binds (ps := ["value"]) (fun _ _ _ _ _ _ us hl => match us, hl with | [_], _ => rfl)
  exact ⟨a, fd, F, hm, F.kp, q3, q2⟩

theorem sc_law_fault : FnScope ["value", "place", "item"] ["value"] (defScope (topS 24)) := ⟨rfl, rfl, rfl, by decide +kernel, rfl, by decide +kernel, by decide +kernel⟩
theorem ok_law_fault (T : Txt K mg) (S : SysD base) : OkF P w K mg base "_law_fault" (topS 24) ["value"] 3 M_law_fault := by
  obtain ⟨a0, fd0, F0, g0, k0, b0, h0⟩ := ok_law_is_item (P := P) (w := w) (base := base) T S
  obtain ⟨a, fd, hm, F⟩ := T.f__law_fault
  have q : ∀ (cdv : Value) (A : Around) (outer : List Env) (s : Shared) (H : Hp) (E : XK), GC (cxOf (L2.CX P w) P w K mg base ["value", "place", "item"] "_law_fault" (defScope (topS 24)) a cdv A outer s H E) (wishOf mg K E) 2 → HB (cxOf (L2.CX P w) P w K mg base ["value", "place", "item"] "_law_fault" (defScope (topS 24)) a cdv A outer s H E) (wishOf mg K E) (defBody (topS 24)) B_law_fault := by
    intro cdv A outer s H E c
    exact hb_cons (hs_if (HW.ht (hw_or (ht_not (ht_truth (he_callB cg_isi rfl T.z_isinstance (by decide +kernel) (ha_cons (he_var (i := 0) rfl (Or.inl rfl)) (ha_cons (he_type rfl T.z_tuple (by decide +kernel)) (ha_nil)))))) (hw_or (ht_cmp og_lt (he_callB cg_len rfl T.z_len (by decide +kernel) (ha_cons (he_var (i := 0) rfl (Or.inl rfl)) (ha_nil))) (he_int) (nomark _)) (hw_or1 (ht_cmp og_gt (he_callB cg_len rfl T.z_len (by decide +kernel) (ha_cons (he_var (i := 0) rfl (Or.inl rfl)) (ha_nil))) (he_int) (nomark _)))))) (hb_one (hs_ret (he_str))) (hb_nil)) (hb_cons (hs_for c.po c.calm (hi_enum rfl T.z_enumerate (ha_cons (he_var (i := 0) rfl (Or.inl rfl)) (ha_nil))) (hg_tup (sl := [1, 2]) c.calm (hgs_cons c.nd rfl (Or.inl rfl) (by decide) (hgs_cons c.nd rfl (Or.inl rfl) (by decide) (hgs_nil)))) (hb_one (hs_if (ht_not (ht_truth (he_call (h0.mono (by decide)) c rfl g0 k0 b0 (ha_cons (he_var (i := 2) rfl (Or.inl rfl)) (ha_nil))))) (hb_one (hs_ret (he_tup (ha_cons (he_str) (ha_cons (he_var (i := 1) rfl (Or.inl rfl)) (ha_nil)))))) (hb_nil)))) (hb_cons (hs_for c.po c.calm (hi_enum rfl T.z_enumerate (ha_cons (he_var (i := 0) rfl (Or.inl rfl)) (ha_nil))) (hg_tup (sl := [1, 2]) c.calm (hgs_cons c.nd rfl (Or.inl rfl) (by decide) (hgs_cons c.nd rfl (Or.inl rfl) (by decide) (hgs_nil)))) (hb_one (hs_if (HW.ht (hw_and (ht_cmp (og_eq c) (he_ix c.hu (he_var (i := 2) rfl (Or.inl rfl)) (he_int) (fun _ _ => rfl)) (he_str) (nomark _)) (hw_and1 (HW.ht (hw_or (ht_not (ht_chain og_le og_lt (he_int) (he_ix c.hu (he_var (i := 2) rfl (Or.inl rfl)) (he_int) (fun _ _ => rfl)) (he_callB cg_len rfl T.z_len (by decide +kernel) (ha_cons (he_var (i := 0) rfl (Or.inl rfl)) (ha_nil))))) (hw_or1 (ht_cmp (og_ne c) (he_ix c.hu (he_ix c.hu (he_var (i := 0) rfl (Or.inl rfl)) (he_ix c.hu (he_var (i := 2) rfl (Or.inl rfl)) (he_int) (fun _ _ => rfl)) (fun _ _ => rfl)) (he_int) (fun _ _ => rfl)) (he_str) (nomark _)))))))) (hb_one (hs_ret (he_tup (ha_cons (he_str) (ha_cons (he_var (i := 1) rfl (Or.inl rfl)) (ha_nil)))))) (hb_nil)))) (hb_one (hs_ret (he_if (ht_cmp og_gt (he_callB cg_len rfl T.z_len (by decide +kernel) (ha_cons (he_lc (own := [("item", 2)]) c (hi_seq (he_var (i := 0) rfl (Or.inl rfl))) (by kernel_rfl) (fun s1 H1 C1 cl1 fp1 => hg_name (GC.blk c s1 H1 _ _ fp1).nd rfl (Or.inl rfl)) (fun s1 H1 C1 cl1 fp1 => hts_one (ht_cmp (og_eq (GC.blk c s1 H1 _ _ fp1)) (he_ix (GC.blk c s1 H1 _ _ fp1).hu (he_var (i := 2) rfl (Or.inl rfl)) (he_int) (fun _ _ => rfl)) (he_str) (nomark _))) (fun s1 H1 C1 cl1 fp1 => he_var (i := 2) rfl (Or.inl rfl))) (ha_nil))) (he_int) (nomark _)) (he_str) (he_non))))))
  have q2 := fnG_fun (b := B_law_fault) F sc_law_fault S q
  have q3 := F.binds (ps := ["value"]) (fun _ _ _ _ _ _ us hl => match us, hl with | [_], _ => rfl)
  exact ⟨a, fd, F, hm, F.kp, q3, q2⟩

theorem sc_law_jumps : FnScope ["skeleton", "place", "item"] ["skeleton"] (defScope (topS 25)) := ⟨rfl, rfl, rfl, by decide +kernel, rfl, by decide +kernel, by decide +kernel⟩
theorem ok_law_jumps (T : Txt K mg) (S : SysD base) : OkF P w K mg base "_law_jumps" (topS 25) ["skeleton"] 1 M_law_jumps := by
  obtain ⟨a, fd, hm, F⟩ := T.f__law_jumps
  have q : ∀ (cdv : Value) (A : Around) (outer : List Env) (s : Shared) (H : Hp) (E : XK), GC (cxOf (L2.CX P w) P w K mg base ["skeleton", "place", "item"] "_law_jumps" (defScope (topS 25)) a cdv A outer s H E) (wishOf mg K E) 0 → HB (cxOf (L2.CX P w) P w K mg base ["skeleton", "place", "item"] "_law_jumps" (defScope (topS 25)) a cdv A outer s H E) (wishOf mg K E) (defBody (topS 25)) B_law_jumps := by
    intro cdv A outer s H E c
    exact hb_one (hs_ret (he_lc (own := [("place", 1), ("item", 2)]) c (hi_enum rfl T.z_enumerate (ha_cons (he_var (i := 0) rfl (Or.inl rfl)) (ha_nil))) (by kernel_rfl) (fun s1 H1 C1 cl1 fp1 => hg_tup (sl := [1, 2]) (GC.blk c s1 H1 _ _ fp1).calm (hgs_cons (GC.blk c s1 H1 _ _ fp1).nd rfl (Or.inl rfl) (by decide) (hgs_cons (GC.blk c s1 H1 _ _ fp1).nd rfl (Or.inl rfl) (by decide) (hgs_nil)))) (fun s1 H1 C1 cl1 fp1 => hts_one (ht_cmp (og_eq (GC.blk c s1 H1 _ _ fp1)) (he_ix (GC.blk c s1 H1 _ _ fp1).hu (he_var (i := 2) rfl (Or.inl rfl)) (he_int) (fun _ _ => rfl)) (he_str) (nomark _))) (fun s1 H1 C1 cl1 fp1 => he_var (i := 1) rfl (Or.inl rfl))))
  have q2 := fnG_fun (b := B_law_jumps) F sc_law_jumps S q
  have q3 := F.binds (ps := ["skeleton"]) (fun _ _ _ _ _ _ us hl => match us, hl with | [_], _ => rfl)
  exact ⟨a, fd, F, hm, F.kp, q3, q2⟩

theorem sc_law_odd_item : FnScope ["reel", "skeleton", "item", "many", "plain", "word", "goal", "short", "size", "near", "ends", "own", "place"] ["reel", "skeleton", "item"] (defScope (topS 26)) := ⟨rfl, rfl, rfl, by decide +kernel, rfl, by decide +kernel, by decide +kernel⟩
theorem ok_law_odd_item (T : Txt K mg) (S : SysD base) : OkF P w K mg base "_law_odd_item" (topS 26) ["reel", "skeleton", "item"] 3 M_law_odd_item := by
  obtain ⟨a0, fd0, F0, g0, k0, b0, h0⟩ := ok_law_pick (P := P) (w := w) (base := base) T S
  obtain ⟨a, fd, hm, F⟩ := T.f__law_odd_item
  have q : ∀ (cdv : Value) (A : Around) (outer : List Env) (s : Shared) (H : Hp) (E : XK), GC (cxOf (L2.CX P w) P w K mg base ["reel", "skeleton", "item", "many", "plain", "word", "goal", "short", "size", "near", "ends", "own", "place"] "_law_odd_item" (defScope (topS 26)) a cdv A outer s H E) (wishOf mg K E) 2 → HB (cxOf (L2.CX P w) P w K mg base ["reel", "skeleton", "item", "many", "plain", "word", "goal", "short", "size", "near", "ends", "own", "place"] "_law_odd_item" (defScope (topS 26)) a cdv A outer s H E) (wishOf mg K E) (defBody (topS 26)) B_law_odd_item := by
    intro cdv A outer s H E c
    exact hb_cons (hs_set (i := 3) c.nd rfl (Or.inl rfl) (he_callB cg_len rfl T.z_len (by decide +kernel) (ha_cons (he_var (i := 1) rfl (Or.inl rfl)) (ha_nil)))) (hb_cons (hs_set (i := 4) c.nd rfl (Or.inl rfl) (he_lst (ha_cons (he_tup (ha_cons (he_str) (ha_cons (he_int) (ha_nil)))) (ha_cons (he_lst (ha_cons (he_str) (ha_nil))) (ha_cons (he_str) (ha_cons (he_non) (ha_cons (he_tup (ha_nil)) (ha_cons (he_int) (ha_cons (he_tup (ha_cons (he_str) (ha_nil))) (ha_cons (he_tup (ha_cons (he_tup (ha_cons (he_str) (ha_nil))) (ha_nil))) (ha_cons (he_tup (ha_cons (he_str) (ha_nil))) (ha_cons (he_tup (ha_cons (he_str) (ha_cons (he_int) (ha_cons (he_int) (ha_nil))))) (ha_cons (he_dict0) (ha_cons (he_tup (ha_cons (he_int) (ha_nil))) (ha_nil))))))))))))))) (hb_cons (hs_set (i := 4) c.nd rfl (Or.inl rfl) (he_op og_add (he_op og_add (he_var (i := 4) rfl (Or.inl rfl)) (he_lc (own := [("own", 11)]) c (hi_seq (he_tup (ha_cons (he_int) (ha_cons (he_int) (ha_cons (he_int) (ha_cons (he_int) (ha_cons (he_int) (ha_cons (he_neg (he_int)) (ha_cons (he_bl) (ha_cons (he_str) (ha_cons (he_non) (ha_cons (he_op og_pow (he_int) (he_int)) (ha_cons (he_tup (ha_cons (he_int) (ha_nil))) (ha_nil)))))))))))))) (by kernel_rfl) (fun s1 H1 C1 cl1 fp1 => hg_name (GC.blk c s1 H1 _ _ fp1).nd rfl (Or.inl rfl)) (fun s1 H1 C1 cl1 fp1 => hts_nil) (fun s1 H1 C1 cl1 fp1 => he_tup (ha_cons (he_str) (ha_cons (he_var (i := 11) rfl (Or.inl rfl)) (ha_nil)))))) (he_lst (ha_cons (he_tup (ha_cons (he_str) (ha_nil))) (ha_cons (he_tup (ha_cons (he_str) (ha_nil))) (ha_nil)))))) (hb_cons (hs_set (i := 4) c.nd rfl (Or.inl rfl) (he_op og_add (he_var (i := 4) rfl (Or.inl rfl)) (he_lst (ha_cons (he_tup (ha_cons (he_str) (ha_cons (he_lst (ha_cons (he_int) (ha_nil))) (ha_nil)))) (ha_cons (he_tup (ha_cons (he_str) (ha_cons (he_dict0) (ha_nil)))) (ha_cons (he_tup (ha_cons (he_lst (ha_cons (he_str) (ha_nil))) (ha_nil))) (ha_cons (he_tup (ha_cons (he_dict0) (ha_nil))) (ha_cons (he_tup (ha_cons (he_lst (ha_nil)) (ha_cons (he_int) (ha_nil)))) (ha_nil))))))))) (hb_cons (hs_if (ht_cmp (og_ne c) (he_ix c.hu (he_var (i := 2) rfl (Or.inl rfl)) (he_int) (fun _ _ => rfl)) (he_str) (nomark _)) (hb_one (hs_ret (he_call (h0.mono (by decide)) c rfl g0 k0 b0 (ha_cons (he_var (i := 0) rfl (Or.inl rfl)) (ha_cons (he_var (i := 4) rfl (Or.inl rfl)) (ha_nil)))))) (hb_nil)) (hb_cons (hs_asg (he_var (i := 2) rfl (Or.inl rfl)) (hg_tup (sl := [5, 6, 7, 8]) c.calm (hgs_cons c.nd rfl (Or.inr rfl) (by decide) (hgs_cons c.nd rfl (Or.inr rfl) (by decide) (hgs_cons c.nd rfl (Or.inr rfl) (by decide) (hgs_cons c.nd rfl (Or.inr rfl) (by decide) (hgs_nil))))))) (hb_cons (hs_set (i := 9) c.nd rfl (Or.inl rfl) (he_lst (ha_cons (he_tup (ha_cons (he_var (i := 5) rfl (Or.inr (Or.inl rfl))) (ha_cons (he_var (i := 6) rfl (Or.inr (Or.inl rfl))) (ha_cons (he_var (i := 8) rfl (Or.inr (Or.inl rfl))) (ha_cons (he_var (i := 7) rfl (Or.inr (Or.inl rfl))) (ha_nil)))))) (ha_cons (he_tup (ha_cons (he_var (i := 5) rfl (Or.inr (Or.inl rfl))) (ha_cons (he_var (i := 6) rfl (Or.inr (Or.inl rfl))) (ha_cons (he_var (i := 7) rfl (Or.inr (Or.inl rfl))) (ha_cons (he_var (i := 7) rfl (Or.inr (Or.inl rfl))) (ha_nil)))))) (ha_cons (he_tup (ha_cons (he_var (i := 5) rfl (Or.inr (Or.inl rfl))) (ha_cons (he_var (i := 6) rfl (Or.inr (Or.inl rfl))) (ha_cons (he_int) (ha_cons (he_var (i := 8) rfl (Or.inr (Or.inl rfl))) (ha_nil)))))) (ha_cons (he_tup (ha_cons (he_var (i := 5) rfl (Or.inr (Or.inl rfl))) (ha_cons (he_var (i := 6) rfl (Or.inr (Or.inl rfl))) (ha_cons (he_var (i := 7) rfl (Or.inr (Or.inl rfl))) (ha_cons (he_int) (ha_nil)))))) (ha_nil))))))) (hb_cons (hs_set (i := 9) c.nd rfl (Or.inl rfl) (he_op og_add (he_var (i := 9) rfl (Or.inl rfl)) (he_lst (ha_cons (he_tup (ha_cons (he_var (i := 5) rfl (Or.inr (Or.inl rfl))) (ha_cons (he_var (i := 6) rfl (Or.inr (Or.inl rfl))) (ha_cons (he_bl) (ha_cons (he_var (i := 8) rfl (Or.inr (Or.inl rfl))) (ha_nil)))))) (ha_cons (he_tup (ha_cons (he_var (i := 5) rfl (Or.inr (Or.inl rfl))) (ha_cons (he_bl) (ha_cons (he_var (i := 7) rfl (Or.inr (Or.inl rfl))) (ha_cons (he_var (i := 8) rfl (Or.inr (Or.inl rfl))) (ha_nil)))))) (ha_cons (he_tup (ha_cons (he_var (i := 5) rfl (Or.inr (Or.inl rfl))) (ha_cons (he_var (i := 6) rfl (Or.inr (Or.inl rfl))) (ha_cons (he_var (i := 7) rfl (Or.inr (Or.inl rfl))) (ha_nil))))) (ha_cons (he_op og_add (he_var (i := 2) rfl (Or.inl rfl)) (he_tup (ha_cons (he_int) (ha_nil)))) (ha_cons (he_callTy cg_list rfl T.z_list (by decide +kernel) (ha_cons (he_var (i := 2) rfl (Or.inl rfl)) (ha_nil))) (ha_nil))))))))) (hb_cons (hs_set (i := 9) c.nd rfl (Or.inl rfl) (he_op og_add (he_var (i := 9) rfl (Or.inl rfl)) (he_lst (ha_cons (he_tup (ha_cons (he_var (i := 5) rfl (Or.inr (Or.inl rfl))) (ha_cons (he_callTy cg_str rfl T.z_str (by decide +kernel) (ha_cons (he_var (i := 6) rfl (Or.inr (Or.inl rfl))) (ha_nil))) (ha_cons (he_var (i := 7) rfl (Or.inr (Or.inl rfl))) (ha_cons (he_var (i := 8) rfl (Or.inr (Or.inl rfl))) (ha_nil)))))) (ha_cons (he_tup (ha_cons (he_var (i := 5) rfl (Or.inr (Or.inl rfl))) (ha_cons (he_var (i := 6) rfl (Or.inr (Or.inl rfl))) (ha_cons (he_neg (he_int)) (ha_cons (he_var (i := 8) rfl (Or.inr (Or.inl rfl))) (ha_nil)))))) (ha_cons (he_tup (ha_cons (he_str) (ha_cons (he_var (i := 6) rfl (Or.inr (Or.inl rfl))) (ha_cons (he_var (i := 7) rfl (Or.inr (Or.inl rfl))) (ha_cons (he_var (i := 8) rfl (Or.inr (Or.inl rfl))) (ha_nil)))))) (ha_cons (he_tup (ha_cons (he_var (i := 5) rfl (Or.inr (Or.inl rfl))) (ha_cons (he_var (i := 6) rfl (Or.inr (Or.inl rfl))) (ha_cons (he_var (i := 7) rfl (Or.inr (Or.inl rfl))) (ha_cons (he_non) (ha_nil)))))) (ha_nil)))))))) (hb_cons (hs_set (i := 9) c.nd rfl (Or.inl rfl) (he_op og_add (he_var (i := 9) rfl (Or.inl rfl)) (he_lc (own := [("own", 11)]) c (hi_seq (he_tup (ha_cons (he_neg (he_int)) (ha_cons (he_op og_sub (he_int) (he_var (i := 8) rfl (Or.inr (Or.inl rfl)))) (ha_cons (he_neg (he_op og_pow (he_int) (he_int))) (ha_cons (he_lst (ha_cons (he_var (i := 7) rfl (Or.inr (Or.inl rfl))) (ha_nil))) (ha_nil))))))) (by kernel_rfl) (fun s2 H2 C2 cl2 fp2 => hg_name (GC.blk c s2 H2 _ _ fp2).nd rfl (Or.inl rfl)) (fun s2 H2 C2 cl2 fp2 => hts_nil) (fun s2 H2 C2 cl2 fp2 => he_tup (ha_cons (he_var (i := 5) rfl (Or.inr (Or.inl rfl))) (ha_cons (he_var (i := 6) rfl (Or.inr (Or.inl rfl))) (ha_cons (he_var (i := 11) rfl (Or.inl rfl)) (ha_cons (he_var (i := 8) rfl (Or.inr (Or.inl rfl))) (ha_nil))))))))) (hb_cons (hs_set (i := 9) c.nd rfl (Or.inl rfl) (he_op og_add (he_var (i := 9) rfl (Or.inl rfl)) (he_lst (ha_cons (he_tup (ha_cons (he_var (i := 5) rfl (Or.inr (Or.inl rfl))) (ha_cons (he_lst (ha_cons (he_var (i := 6) rfl (Or.inr (Or.inl rfl))) (ha_nil))) (ha_cons (he_var (i := 7) rfl (Or.inr (Or.inl rfl))) (ha_cons (he_var (i := 8) rfl (Or.inr (Or.inl rfl))) (ha_nil)))))) (ha_cons (he_tup (ha_cons (he_var (i := 5) rfl (Or.inr (Or.inl rfl))) (ha_cons (he_var (i := 6) rfl (Or.inr (Or.inl rfl))) (ha_cons (he_neg (he_int)) (ha_cons (he_neg (he_int)) (ha_nil)))))) (ha_cons (he_tup (ha_cons (he_lst (ha_cons (he_str) (ha_nil))) (ha_cons (he_var (i := 6) rfl (Or.inr (Or.inl rfl))) (ha_cons (he_var (i := 7) rfl (Or.inr (Or.inl rfl))) (ha_cons (he_var (i := 8) rfl (Or.inr (Or.inl rfl))) (ha_nil)))))) (ha_nil))))))) (hb_cons (hs_set (i := 10) c.nd rfl (Or.inl rfl) (he_lst (ha_cons (he_var (i := 3) rfl (Or.inl rfl)) (ha_cons (he_neg (he_int)) (ha_cons (he_op og_sub (he_int) (he_var (i := 3) rfl (Or.inl rfl))) (ha_cons (he_op og_sub (he_var (i := 3) rfl (Or.inl rfl)) (he_int)) (ha_cons (he_int) (ha_cons (he_op og_pow (he_int) (he_int)) (ha_cons (he_neg (he_op og_pow (he_int) (he_int))) (ha_nil)))))))))) (hb_cons (hs_set (i := 10) c.nd rfl (Or.inl rfl) (he_op og_add (he_var (i := 10) rfl (Or.inl rfl)) (he_lc (own := [("place", 12), ("own", 11)]) c (hi_enum rfl T.z_enumerate (ha_cons (he_var (i := 1) rfl (Or.inl rfl)) (ha_nil))) (by kernel_rfl) (fun s3 H3 C3 cl3 fp3 => hg_tup (sl := [12, 11]) (GC.blk c s3 H3 _ _ fp3).calm (hgs_cons (GC.blk c s3 H3 _ _ fp3).nd rfl (Or.inl rfl) (by decide) (hgs_cons (GC.blk c s3 H3 _ _ fp3).nd rfl (Or.inl rfl) (by decide) (hgs_nil)))) (fun s3 H3 C3 cl3 fp3 => hts_one (ht_cmp (og_ne (GC.blk c s3 H3 _ _ fp3)) (he_ix (GC.blk c s3 H3 _ _ fp3).hu (he_var (i := 11) rfl (Or.inl rfl)) (he_int) (fun _ _ => rfl)) (he_str) (nomark _))) (fun s3 H3 C3 cl3 fp3 => he_var (i := 12) rfl (Or.inl rfl))))) (hb_one (hs_ret (he_call (h0.mono (by decide)) c rfl g0 k0 b0 (ha_cons (he_var (i := 0) rfl (Or.inl rfl)) (ha_cons (he_op og_add (he_op og_add (he_var (i := 9) rfl (Or.inl rfl)) (he_lc (own := [("own", 11)]) c (hi_seq (he_var (i := 10) rfl (Or.inl rfl))) (by kernel_rfl) (fun s4 H4 C4 cl4 fp4 => hg_name (GC.blk c s4 H4 _ _ fp4).nd rfl (Or.inl rfl)) (fun s4 H4 C4 cl4 fp4 => hts_nil) (fun s4 H4 C4 cl4 fp4 => he_tup (ha_cons (he_var (i := 5) rfl (Or.inr (Or.inl rfl))) (ha_cons (he_var (i := 11) rfl (Or.inl rfl)) (ha_cons (he_var (i := 7) rfl (Or.inr (Or.inl rfl))) (ha_cons (he_var (i := 8) rfl (Or.inr (Or.inl rfl))) (ha_nil)))))))) (he_lst (ha_cons (he_call (h0.mono (by decide)) c rfl g0 k0 b0 (ha_cons (he_var (i := 0) rfl (Or.inl rfl)) (ha_cons (he_var (i := 4) rfl (Or.inl rfl)) (ha_nil)))) (ha_nil)))) (ha_nil))))))))))))))))))
  have q2 := fnG_fun (b := B_law_odd_item) F sc_law_odd_item S q
  have q3 := F.binds (ps := ["reel", "skeleton", "item"]) (fun _ _ _ _ _ _ us hl => match us, hl with | [_, _, _], _ => rfl)
  exact ⟨a, fd, F, hm, F.kp, q3, q2⟩

theorem sc_law_spoilt : FnScope ["reel", "skeleton", "at", "lot", "odd", "more"] ["reel", "skeleton"] (defScope (topS 27)) := ⟨rfl, rfl, rfl, by decide +kernel, rfl, by decide +kernel, by decide +kernel⟩
theorem ok_law_spoilt (T : Txt K mg) (S : SysD base) : OkF P w K mg base "_law_spoilt" (topS 27) ["reel", "skeleton"] 4 M_law_spoilt := by
  obtain ⟨a0, fd0, F0, g0, k0, b0, h0⟩ := ok_law_draw (P := P) (w := w) (base := base) T S
  obtain ⟨a1, fd1, F1, g1, k1, b1, h1⟩ := ok_law_pick (P := P) (w := w) (base := base) T S
  obtain ⟨a2, fd2, F2, g2, k2, b2, h2⟩ := ok_law_odd_item (P := P) (w := w) (base := base) T S
  obtain ⟨a, fd, hm, F⟩ := T.f__law_spoilt
  have q : ∀ (cdv : Value) (A : Around) (outer : List Env) (s : Shared) (H : Hp) (E : XK), GC (cxOf (L2.CX P w) P w K mg base ["reel", "skeleton", "at", "lot", "odd", "more"] "_law_spoilt" (defScope (topS 27)) a cdv A outer s H E) (wishOf mg K E) 3 → HB (cxOf (L2.CX P w) P w K mg base ["reel", "skeleton", "at", "lot", "odd", "more"] "_law_spoilt" (defScope (topS 27)) a cdv A outer s H E) (wishOf mg K E) (defBody (topS 27)) B_law_spoilt := by
    intro cdv A outer s H E c
    exact hb_cons (hs_par (i := 2) (j := 3) c rfl rfl (by decide) rfl rfl (ha_cons (he_call (h0.mono (by decide)) c rfl g0 k0 b0 (ha_cons (he_var (i := 0) rfl (Or.inl rfl)) (ha_cons (he_callB cg_len rfl T.z_len (by decide +kernel) (ha_cons (he_var (i := 1) rfl (Or.inl rfl)) (ha_nil))) (ha_nil)))) (ha_cons (he_call (h0.mono (by decide)) c rfl g0 k0 b0 (ha_cons (he_var (i := 0) rfl (Or.inl rfl)) (ha_cons (he_int) (ha_nil)))) (ha_nil))) (by rfl)) (hb_cons (hs_if (ht_cmp (og_eq c) (he_var (i := 3) rfl (Or.inl rfl)) (he_int) (nomark _)) (hb_cons (hs_set (i := 4) c.nd rfl (Or.inl rfl) (he_lst (ha_cons (he_callTy cg_list rfl T.z_list (by decide +kernel) (ha_cons (he_var (i := 1) rfl (Or.inl rfl)) (ha_nil))) (ha_cons (he_tup (ha_nil)) (ha_cons (he_non) (ha_cons (he_op og_add (he_var (i := 1) rfl (Or.inl rfl)) (he_op og_mul (he_tup (ha_cons (he_tup (ha_cons (he_str) (ha_nil))) (ha_nil))) (he_int))) (ha_cons (he_str) (ha_cons (he_int) (ha_cons (he_dict0) (ha_cons (he_tup (ha_cons (he_var (i := 1) rfl (Or.inl rfl)) (ha_nil))) (ha_cons (he_op og_mul (he_tup (ha_cons (he_tup (ha_cons (he_str) (ha_nil))) (ha_nil))) (he_int)) (ha_nil)))))))))))) (hb_one (hs_ret (he_call (h1.mono (by decide)) c rfl g1 k1 b1 (ha_cons (he_var (i := 0) rfl (Or.inl rfl)) (ha_cons (he_var (i := 4) rfl (Or.inl rfl)) (ha_nil))))))) (hb_nil)) (hb_cons (hs_if (ht_cmp (og_eq c) (he_var (i := 3) rfl (Or.inl rfl)) (he_int) (nomark _)) (hb_one (hs_ret (he_op og_add (he_cut (he_var (i := 1) rfl (Or.inl rfl)) (ho_none) (ho_some (he_var (i := 2) rfl (Or.inl rfl)))) (he_cut (he_var (i := 1) rfl (Or.inl rfl)) (ho_some (he_op og_add (he_var (i := 2) rfl (Or.inl rfl)) (he_int))) (ho_none))))) (hb_nil)) (hb_cons (hs_if (ht_cmp (og_eq c) (he_var (i := 3) rfl (Or.inl rfl)) (he_int) (nomark _)) (hb_cons (hs_set (i := 5) c.nd rfl (Or.inl rfl) (he_tup (ha_cons (he_str) (ha_cons (he_call (h1.mono (by decide)) c rfl g1 k1 b1 (ha_cons (he_var (i := 0) rfl (Or.inl rfl)) (ha_cons (he_lst (ha_cons (he_int) (ha_cons (he_var (i := 2) rfl (Or.inl rfl)) (ha_cons (he_callB cg_len rfl T.z_len (by decide +kernel) (ha_cons (he_var (i := 1) rfl (Or.inl rfl)) (ha_nil))) (ha_nil))))) (ha_nil)))) (ha_cons (he_int) (ha_cons (he_int) (ha_nil))))))) (hb_one (hs_ret (he_op og_add (he_var (i := 1) rfl (Or.inl rfl)) (he_op og_mul (he_tup (ha_cons (he_var (i := 5) rfl (Or.inl rfl)) (ha_nil))) (he_op og_add (he_int) (he_call (h0.mono (by decide)) c rfl g0 k0 b0 (ha_cons (he_var (i := 0) rfl (Or.inl rfl)) (ha_cons (he_int) (ha_nil)))))))))) (hb_nil)) (hb_one (hs_ret (he_op og_add (he_op og_add (he_cut (he_var (i := 1) rfl (Or.inl rfl)) (ho_none) (ho_some (he_var (i := 2) rfl (Or.inl rfl)))) (he_tup (ha_cons (he_call (h2.mono (by decide)) c rfl g2 k2 b2 (ha_cons (he_var (i := 0) rfl (Or.inl rfl)) (ha_cons (he_var (i := 1) rfl (Or.inl rfl)) (ha_cons (he_ix c.hu (he_var (i := 1) rfl (Or.inl rfl)) (he_var (i := 2) rfl (Or.inl rfl)) (fun _ _ => rfl)) (ha_nil))))) (ha_nil)))) (he_cut (he_var (i := 1) rfl (Or.inl rfl)) (ho_some (he_op og_add (he_var (i := 2) rfl (Or.inl rfl)) (he_int))) (ho_none))))))))
  have q2 := fnG_fun (b := B_law_spoilt) F sc_law_spoilt S q
  have q3 := F.binds (ps := ["reel", "skeleton"]) (fun _ _ _ _ _ _ us hl => match us, hl with | [_, _], _ => rfl)
  exact ⟨a, fd, F, hm, F.kp, q3, q2⟩

theorem sc_law_is_told : FnScope ["value", "is_named", "shown", "due", "told", "jumps"] ["value", "is_named"] (defScope (topS 28)) := ⟨rfl, rfl, rfl, by decide +kernel, rfl, by decide +kernel, by decide +kernel⟩
theorem ok_law_is_told (T : Txt K mg) (S : SysD base) : OkF P w K mg base "_law_is_told" (topS 28) ["value", "is_named"] 6 M_law_is_told := by
  obtain ⟨a0, fd0, F0, g0, k0, b0, h0⟩ := ok_law_fault (P := P) (w := w) (base := base) T S
  obtain ⟨a1, fd1, F1, g1, k1, b1, h1⟩ := okskeleton_error (P := P) (w := w) (base := base) T S
  obtain ⟨a2, fd2, F2, g2, k2, b2, h2⟩ := okjumps_of (P := P) (w := w) (base := base) T S
  obtain ⟨a3, fd3, F3, g3, k3, b3, h3⟩ := ok_law_jumps (P := P) (w := w) (base := base) T S
  obtain ⟨a, fd, hm, F⟩ := T.f__law_is_told
  have q : ∀ (cdv : Value) (A : Around) (outer : List Env) (s : Shared) (H : Hp) (E : XK), GC (cxOf (L2.CX P w) P w K mg base ["value", "is_named", "shown", "due", "told", "jumps"] "_law_is_told" (defScope (topS 28)) a cdv A outer s H E) (wishOf mg K E) 5 → HB (cxOf (L2.CX P w) P w K mg base ["value", "is_named", "shown", "due", "told", "jumps"] "_law_is_told" (defScope (topS 28)) a cdv A outer s H E) (wishOf mg K E) (defBody (topS 28)) B_law_is_told := by
    intro cdv A outer s H E c
    exact hb_cons (hs_par (i := 2) (j := 3) c rfl rfl (by decide) rfl rfl (ha_cons (he_callB (cg_repr c) rfl T.z_repr (by decide +kernel) (ha_cons (he_var (i := 0) rfl (Or.inl rfl)) (ha_nil))) (ha_cons (he_call (h0.mono (by decide)) c rfl g0 k0 b0 (ha_cons (he_var (i := 0) rfl (Or.inl rfl)) (ha_nil))) (ha_nil))) (by rfl)) (hb_cons (hs_set (i := 4) c.nd rfl (Or.inl rfl) (he_lst (ha_cons (he_if (ht_truth (he_var (i := 1) rfl (Or.inl rfl))) (he_callK0 (h1.mono (by decide)) c rfl g1 k1 (kwB_of F1 (ks := ["value"]) (np := 0) (perm := [0]) fun _ _ _ _ _ _ us zs h1 h2 => match us, zs, h1, h2 with | [], [_], _, _ => rfl) (hk_cons (he_var (i := 0) rfl (Or.inl rfl)) (hk_nil))) (he_call (h1.mono (by decide)) c rfl g1 k1 b1 (ha_cons (he_var (i := 0) rfl (Or.inl rfl)) (ha_nil)))) (ha_cons (he_call (h1.mono (by decide)) c rfl g1 k1 b1 (ha_cons (he_var (i := 0) rfl (Or.inl rfl)) (ha_nil))) (ha_nil))))) (hb_cons (hs_if (HW.ht (hw_or (ht_cmp (og_ne c) (he_callB (cg_repr c) rfl T.z_repr (by decide +kernel) (ha_cons (he_var (i := 4) rfl (Or.inl rfl)) (ha_nil))) (he_callB (cg_repr c) rfl T.z_repr (by decide +kernel) (ha_cons (he_lst (ha_cons (he_var (i := 3) rfl (Or.inl rfl)) (ha_cons (he_var (i := 3) rfl (Or.inl rfl)) (ha_nil)))) (ha_nil))) (nomark _)) (hw_or1 (ht_cmp (og_ne c) (he_callB (cg_repr c) rfl T.z_repr (by decide +kernel) (ha_cons (he_var (i := 0) rfl (Or.inl rfl)) (ha_nil))) (he_var (i := 2) rfl (Or.inl rfl)) (nomark _))))) (hb_one (hs_ret (he_bl))) (hb_nil)) (hb_cons (hs_if (ht_cmp og_isnot (he_var (i := 3) rfl (Or.inl rfl)) (he_non) (nomark _)) (hb_one (hs_ret (he_bl))) (hb_nil)) (hb_cons (hs_set (i := 5) c.nd rfl (Or.inl rfl) (he_if (ht_truth (he_var (i := 1) rfl (Or.inl rfl))) (he_callK0 (h2.mono (by decide)) c rfl g2 k2 (kwB_of F2 (ks := ["skeleton"]) (np := 0) (perm := [0]) fun _ _ _ _ _ _ us zs h1 h2 => match us, zs, h1, h2 with | [], [_], _, _ => rfl) (hk_cons (he_var (i := 0) rfl (Or.inl rfl)) (hk_nil))) (he_call (h2.mono (by decide)) c rfl g2 k2 b2 (ha_cons (he_var (i := 0) rfl (Or.inl rfl)) (ha_nil))))) (hb_one (hs_ret (he_and (he_cmp (og_eq c) (he_callB (cg_repr c) rfl T.z_repr (by decide +kernel) (ha_cons (he_var (i := 5) rfl (Or.inl rfl)) (ha_nil))) (he_callB (cg_repr c) rfl T.z_repr (by decide +kernel) (ha_cons (he_callTy cg_tuple rfl T.z_tuple (by decide +kernel) (ha_cons (he_call (h3.mono (by decide)) c rfl g3 k3 b3 (ha_cons (he_var (i := 0) rfl (Or.inl rfl)) (ha_nil))) (ha_nil))) (ha_nil))) (nomark _)) (he_one (he_cmp (og_eq c) (he_callB (cg_repr c) rfl T.z_repr (by decide +kernel) (ha_cons (he_var (i := 0) rfl (Or.inl rfl)) (ha_nil))) (he_var (i := 2) rfl (Or.inl rfl)) (nomark _))))))))))
  have q2 := fnG_fun (b := B_law_is_told) F sc_law_is_told S q
  have q3 := F.binds (ps := ["value", "is_named"]) (fun _ _ _ _ _ _ us hl => match us, hl with | [_, _], _ => rfl)
  exact ⟨a, fd, F, hm, F.kp, q3, q2⟩

theorem sclaw : FnScope ["script", "reel", "turn", "skeleton", "values", "once", "value", "ends", "odd"] ["script"] (defScope (topS 29)) := ⟨rfl, rfl, rfl, by decide +kernel, rfl, by decide +kernel, by decide +kernel⟩
theorem oklaw (T : Txt K mg) (S : SysD base) : OkF P w K mg base "law" (topS 29) ["script"] 7 Mlaw := by
  obtain ⟨a0, fd0, F0, g0, k0, b0, h0⟩ := ok_law_reel (P := P) (w := w) (base := base) T S
  obtain ⟨a1, fd1, F1, g1, k1, b1, h1⟩ := ok_law_skeleton (P := P) (w := w) (base := base) T S
  obtain ⟨a2, fd2, F2, g2, k2, b2, h2⟩ := ok_law_spoilt (P := P) (w := w) (base := base) T S
  obtain ⟨a3, fd3, F3, g3, k3, b3, h3⟩ := ok_law_pick (P := P) (w := w) (base := base) T S
  obtain ⟨a4, fd4, F4, g4, k4, b4, h4⟩ := ok_law_fault (P := P) (w := w) (base := base) T S
  obtain ⟨a5, fd5, F5, g5, k5, b5, h5⟩ := ok_law_is_told (P := P) (w := w) (base := base) T S
  obtain ⟨a, fd, hm, F⟩ := T.f_law
  have q : ∀ (cdv : Value) (A : Around) (outer : List Env) (s : Shared) (H : Hp) (E : XK), GC (cxOf (L2.CX P w) P w K mg base ["script", "reel", "turn", "skeleton", "values", "once", "value", "ends", "odd"] "law" (defScope (topS 29)) a cdv A outer s H E) (wishOf mg K E) 6 → HB (cxOf (L2.CX P w) P w K mg base ["script", "reel", "turn", "skeleton", "values", "once", "value", "ends", "odd"] "law" (defScope (topS 29)) a cdv A outer s H E) (wishOf mg K E) (defBody (topS 29)) Blaw := by
    intro cdv A outer s H E c
    exact hb_cons (hs_set (i := 1) c.nd rfl (Or.inl rfl) (he_call (h0.mono (by decide)) c rfl g0 k0 b0 (ha_cons (he_var (i := 0) rfl (Or.inl rfl)) (ha_nil)))) (hb_cons (hs_for c.po c.calm (hi_range1 rfl T.z_range (ha_cons (he_int) (ha_nil))) (hg_name c.nd rfl (Or.inl rfl)) (hb_cons (hs_set (i := 3) c.nd rfl (Or.inl rfl) (he_call (h1.mono (by decide)) c rfl g1 k1 b1 (ha_cons (he_var (i := 1) rfl (Or.inl rfl)) (ha_cons (he_call (h3.mono (by decide)) c rfl g3 k3 b3 (ha_cons (he_var (i := 1) rfl (Or.inl rfl)) (ha_cons (he_lst (ha_cons (he_int) (ha_cons (he_int) (ha_cons (he_int) (ha_cons (he_int) (ha_nil)))))) (ha_nil)))) (ha_nil))))) (hb_cons (hs_set (i := 4) c.nd rfl (Or.inl rfl) (he_lst (ha_cons (he_var (i := 3) rfl (Or.inl rfl)) (ha_cons (he_call (h2.mono (by decide)) c rfl g2 k2 b2 (ha_cons (he_var (i := 1) rfl (Or.inl rfl)) (ha_cons (he_var (i := 3) rfl (Or.inl rfl)) (ha_nil)))) (ha_cons (he_call (h2.mono (by decide)) c rfl g2 k2 b2 (ha_cons (he_var (i := 1) rfl (Or.inl rfl)) (ha_cons (he_var (i := 3) rfl (Or.inl rfl)) (ha_nil)))) (ha_cons (he_call (h2.mono (by decide)) c rfl g2 k2 b2 (ha_cons (he_var (i := 1) rfl (Or.inl rfl)) (ha_cons (he_var (i := 3) rfl (Or.inl rfl)) (ha_nil)))) (ha_nil))))))) (hb_cons (hs_set (i := 5) c.nd rfl (Or.inl rfl) (he_call (h2.mono (by decide)) c rfl g2 k2 b2 (ha_cons (he_var (i := 1) rfl (Or.inl rfl)) (ha_cons (he_var (i := 3) rfl (Or.inl rfl)) (ha_nil))))) (hb_cons (hs_if (HW.ht (hw_or (ht_cmp og_is (he_call (h4.mono (by decide)) c rfl g4 k4 b4 (ha_cons (he_var (i := 5) rfl (Or.inl rfl)) (ha_nil))) (he_non) (nomark _)) (hw_or1 (ht_cmp (og_eq c) (he_ix c.hu (he_call (h4.mono (by decide)) c rfl g4 k4 b4 (ha_cons (he_var (i := 5) rfl (Or.inl rfl)) (ha_nil))) (he_int) (fun _ _ => rfl)) (he_str) (nomark _))))) (hb_one (hs_set (i := 5) c.nd rfl (Or.inl rfl) (he_call (h2.mono (by decide)) c rfl g2 k2 b2 (ha_cons (he_var (i := 1) rfl (Or.inl rfl)) (ha_cons (he_var (i := 5) rfl (Or.inl rfl)) (ha_nil)))))) (hb_nil)) (hb_one (hs_for c.po c.calm (hi_seq (he_op og_add (he_var (i := 4) rfl (Or.inl rfl)) (he_lst (ha_cons (he_var (i := 5) rfl (Or.inl rfl)) (ha_nil))))) (hg_name c.nd rfl (Or.inl rfl)) (hb_one (hs_if (ht_not (ht_truth (he_call (h5.mono (by decide)) c rfl g5 k5 b5 (ha_cons (he_var (i := 6) rfl (Or.inl rfl)) (ha_cons (he_cmp (og_eq c) (he_op og_mod (he_var (i := 2) rfl (Or.inl rfl)) (he_int)) (he_int) (nomark _)) (ha_nil)))))) (hb_one (hs_ret (he_bl))) (hb_nil)))))))))) (hb_cons (hs_set (i := 7) c.nd rfl (Or.inl rfl) (he_op og_add (he_op og_add (he_tup (ha_cons (he_tup (ha_cons (he_str) (ha_nil))) (ha_nil))) (he_op og_mul (he_tup (ha_cons (he_tup (ha_cons (he_str) (ha_cons (he_int) (ha_cons (he_int) (ha_cons (he_int) (ha_nil)))))) (ha_nil))) (he_int))) (he_op og_mul (he_tup (ha_cons (he_tup (ha_cons (he_str) (ha_cons (he_int) (ha_nil)))) (ha_nil))) (he_int)))) (hb_cons (hs_set (i := 8) c.nd rfl (Or.inl rfl) (he_lst (ha_cons (he_var (i := 7) rfl (Or.inl rfl)) (ha_cons (he_op og_add (he_var (i := 7) rfl (Or.inl rfl)) (he_tup (ha_cons (he_tup (ha_cons (he_str) (ha_nil))) (ha_nil)))) (ha_cons (he_op og_add (he_cut (he_var (i := 7) rfl (Or.inl rfl)) (ho_none) (ho_some (he_int))) (he_tup (ha_cons (he_tup (ha_cons (he_str) (ha_cons (he_int) (ha_cons (he_int) (ha_cons (he_int) (ha_nil)))))) (ha_nil)))) (ha_cons (he_tup (ha_cons (he_tup (ha_cons (he_str) (ha_cons (he_int) (ha_cons (he_int) (ha_cons (he_int) (ha_nil)))))) (ha_nil))) (ha_cons (he_tup (ha_cons (he_tup (ha_cons (he_str) (ha_cons (he_int) (ha_nil)))) (ha_nil))) (ha_cons (he_tup (ha_cons (he_tup (ha_cons (he_str) (ha_nil))) (ha_nil))) (ha_nil))))))))) (hb_cons (hs_set (i := 8) c.nd rfl (Or.inl rfl) (he_op og_add (he_var (i := 8) rfl (Or.inl rfl)) (he_lst (ha_cons (he_op og_add (he_op og_mul (he_tup (ha_cons (he_tup (ha_cons (he_str) (ha_nil))) (ha_nil))) (he_int)) (he_tup (ha_cons (he_non) (ha_nil)))) (ha_cons (he_op og_add (he_tup (ha_cons (he_tup (ha_cons (he_str) (ha_cons (he_int) (ha_nil)))) (ha_nil))) (he_var (i := 7) rfl (Or.inl rfl))) (ha_cons (he_op og_add (he_cut (he_var (i := 7) rfl (Or.inl rfl)) (ho_none) (ho_some (he_int))) (he_tup (ha_cons (he_tup (ha_cons (he_str) (ha_cons (he_int) (ha_nil)))) (ha_cons (he_non) (ha_cons (he_tup (ha_cons (he_str) (ha_cons (he_int) (ha_cons (he_int) (ha_cons (he_int) (ha_nil)))))) (ha_nil)))))) (ha_nil))))))) (hb_one (hs_ret (he_cmp (og_eq c) (he_lc (own := [("value", 6)]) c (hi_seq (he_var (i := 8) rfl (Or.inl rfl))) (by kernel_rfl) (fun s1 H1 C1 cl1 fp1 => hg_name (GC.blk c s1 H1 _ _ fp1).nd rfl (Or.inl rfl)) (fun s1 H1 C1 cl1 fp1 => hts_one (ht_not (ht_truth (he_call (h5.mono (by decide)) (GC.blk c s1 H1 _ _ fp1) rfl g5 k5 b5 (ha_cons (he_var (i := 6) rfl (Or.inl rfl)) (ha_cons (he_bl) (ha_nil))))))) (fun s1 H1 C1 cl1 fp1 => he_var (i := 6) rfl (Or.inl rfl))) (he_lst (ha_nil)) (nomark _))))))))
  have q2 := fnG_fun (b := Blaw) F sclaw S q
  have q3 := F.binds (ps := ["script"]) (fun _ _ _ _ _ _ us hl => match us, hl with | [_], _ => rfl)
  exact ⟨a, fd, F, hm, F.kp, q3, q2⟩

end
theorem txt_mk {K : Fg} {h : Heap} {mg : Str → Option Value} (X : K.In h) (G : h.Ns mainGlobals mg)
    (z_bool : PySem.W.nsIn K mainGlobals "bool" = some none)
    (z_enumerate : PySem.W.nsIn K mainGlobals "enumerate" = some none)
    (z_int : PySem.W.nsIn K mainGlobals "int" = some none)
    (z_isinstance : PySem.W.nsIn K mainGlobals "isinstance" = some none)
    (z_len : PySem.W.nsIn K mainGlobals "len" = some none)
    (z_list : PySem.W.nsIn K mainGlobals "list" = some none)
    (z_range : PySem.W.nsIn K mainGlobals "range" = some none)
    (z_repr : PySem.W.nsIn K mainGlobals "repr" = some none)
    (z_str : PySem.W.nsIn K mainGlobals "str" = some none)
    (z_tuple : PySem.W.nsIn K mainGlobals "tuple" = some none)
    {a_FILL_SIZES : Addr} {d_FILL_SIZES : Option Addr} {n_FILL_SIZES : Nat} {sl_FILL_SIZES : Array (Option Value)} {t0_FILL_SIZES t1_FILL_SIZES t2_FILL_SIZES t3_FILL_SIZES t4_FILL_SIZES t5_FILL_SIZES : Tok} (c_FILL_SIZES : PySem.W.nsIn K mainGlobals "FILL_SIZES" = some (some (.ref a_FILL_SIZES))) (l_FILL_SIZES : K.lookup a_FILL_SIZES = some ⟨.type "tuple", d_FILL_SIZES, .seq #[.int 2 t0_FILL_SIZES, .int 4 t1_FILL_SIZES, .int 8 t2_FILL_SIZES, .int 16 t3_FILL_SIZES, .int 32 t4_FILL_SIZES, .int 64 t5_FILL_SIZES] n_FILL_SIZES, sl_FILL_SIZES⟩)
    {t_MAX_ITEMS : Tok} (c_MAX_ITEMS : PySem.W.nsIn K mainGlobals "MAX_ITEMS" = some (some (.int 24 t_MAX_ITEMS)))
    {t_MAX_JUMPS : Tok} (c_MAX_JUMPS : PySem.W.nsIn K mainGlobals "MAX_JUMPS" = some (some (.int 8 t_MAX_JUMPS)))
    {t_MAX_SIZE : Tok} (c_MAX_SIZE : PySem.W.nsIn K mainGlobals "MAX_SIZE" = some (some (.int 999 t_MAX_SIZE)))
    {f4 : Addr} {od4 an4 : Option Addr} {sl4 : Array (Option Value)} {oc4 kV4 dc4 pm4 cd4 ct4 : Value} (a4 : PySem.W.nsIn K mainGlobals "is_integer" = some (some (.ref f4))) (l4 : K.lookup f4 = some ⟨oc4, od4, .func (PySem.W.fnOf "is_integer" "is_integer" (defArgs (topS 4)) (defBody (topS 4)) (defScope (topS 4)) .none kV4 dc4 pm4 an4 cd4 ct4), sl4⟩) (q4 : PySem.W.codeIn K cd4 "is_integer" = true) (k4 : PySem.W.keepIn K (.ref f4) = true)
    {f8 : Addr} {od8 an8 : Option Addr} {sl8 : Array (Option Value)} {oc8 kV8 dc8 pm8 cd8 ct8 : Value} (a8 : PySem.W.nsIn K mainGlobals "jumps_of" = some (some (.ref f8))) (l8 : K.lookup f8 = some ⟨oc8, od8, .func (PySem.W.fnOf "jumps_of" "jumps_of" (defArgs (topS 8)) (defBody (topS 8)) (defScope (topS 8)) .none kV8 dc8 pm8 an8 cd8 ct8), sl8⟩) (q8 : PySem.W.codeIn K cd8 "jumps_of" = true) (k8 : PySem.W.keepIn K (.ref f8) = true)
    {f10 : Addr} {od10 an10 : Option Addr} {sl10 : Array (Option Value)} {oc10 kV10 dc10 pm10 cd10 ct10 : Value} (a10 : PySem.W.nsIn K mainGlobals "_is_label" = some (some (.ref f10))) (l10 : K.lookup f10 = some ⟨oc10, od10, .func (PySem.W.fnOf "_is_label" "_is_label" (defArgs (topS 10)) (defBody (topS 10)) (defScope (topS 10)) .none kV10 dc10 pm10 an10 cd10 ct10), sl10⟩) (q10 : PySem.W.codeIn K cd10 "_is_label" = true) (k10 : PySem.W.keepIn K (.ref f10) = true)
    {f12 : Addr} {od12 an12 : Option Addr} {sl12 : Array (Option Value)} {oc12 kV12 dc12 pm12 cd12 ct12 : Value} (a12 : PySem.W.nsIn K mainGlobals "_is_fill_size" = some (some (.ref f12))) (l12 : K.lookup f12 = some ⟨oc12, od12, .func (PySem.W.fnOf "_is_fill_size" "_is_fill_size" (defArgs (topS 12)) (defBody (topS 12)) (defScope (topS 12)) .none kV12 dc12 pm12 an12 cd12 ct12), sl12⟩) (q12 : PySem.W.codeIn K cd12 "_is_fill_size" = true) (k12 : PySem.W.keepIn K (.ref f12) = true)
    {f11 : Addr} {od11 an11 : Option Addr} {sl11 : Array (Option Value)} {oc11 kV11 dc11 pm11 cd11 ct11 : Value} (a11 : PySem.W.nsIn K mainGlobals "_is_fill" = some (some (.ref f11))) (l11 : K.lookup f11 = some ⟨oc11, od11, .func (PySem.W.fnOf "_is_fill" "_is_fill" (defArgs (topS 11)) (defBody (topS 11)) (defScope (topS 11)) .none kV11 dc11 pm11 an11 cd11 ct11), sl11⟩) (q11 : PySem.W.codeIn K cd11 "_is_fill" = true) (k11 : PySem.W.keepIn K (.ref f11) = true)
    {f14 : Addr} {od14 an14 : Option Addr} {sl14 : Array (Option Value)} {oc14 kV14 dc14 pm14 cd14 ct14 : Value} (a14 : PySem.W.nsIn K mainGlobals "_are_sizes" = some (some (.ref f14))) (l14 : K.lookup f14 = some ⟨oc14, od14, .func (PySem.W.fnOf "_are_sizes" "_are_sizes" (defArgs (topS 14)) (defBody (topS 14)) (defScope (topS 14)) .none kV14 dc14 pm14 an14 cd14 ct14), sl14⟩) (q14 : PySem.W.codeIn K cd14 "_are_sizes" = true) (k14 : PySem.W.keepIn K (.ref f14) = true)
    {f13 : Addr} {od13 an13 : Option Addr} {sl13 : Array (Option Value)} {oc13 kV13 dc13 pm13 cd13 ct13 : Value} (a13 : PySem.W.nsIn K mainGlobals "_is_jump" = some (some (.ref f13))) (l13 : K.lookup f13 = some ⟨oc13, od13, .func (PySem.W.fnOf "_is_jump" "_is_jump" (defArgs (topS 13)) (defBody (topS 13)) (defScope (topS 13)) .none kV13 dc13 pm13 an13 cd13 ct13), sl13⟩) (q13 : PySem.W.codeIn K cd13 "_is_jump" = true) (k13 : PySem.W.keepIn K (.ref f13) = true)
    {f9 : Addr} {od9 an9 : Option Addr} {sl9 : Array (Option Value)} {oc9 kV9 dc9 pm9 cd9 ct9 : Value} (a9 : PySem.W.nsIn K mainGlobals "_is_item" = some (some (.ref f9))) (l9 : K.lookup f9 = some ⟨oc9, od9, .func (PySem.W.fnOf "_is_item" "_is_item" (defArgs (topS 9)) (defBody (topS 9)) (defScope (topS 9)) .none kV9 dc9 pm9 an9 cd9 ct9), sl9⟩) (q9 : PySem.W.codeIn K cd9 "_is_item" = true) (k9 : PySem.W.keepIn K (.ref f9) = true)
    {f15 : Addr} {od15 an15 : Option Addr} {sl15 : Array (Option Value)} {oc15 kV15 dc15 pm15 cd15 ct15 : Value} (a15 : PySem.W.nsIn K mainGlobals "_is_place_of_label" = some (some (.ref f15))) (l15 : K.lookup f15 = some ⟨oc15, od15, .func (PySem.W.fnOf "_is_place_of_label" "_is_place_of_label" (defArgs (topS 15)) (defBody (topS 15)) (defScope (topS 15)) .none kV15 dc15 pm15 an15 cd15 ct15), sl15⟩) (q15 : PySem.W.codeIn K cd15 "_is_place_of_label" = true) (k15 : PySem.W.keepIn K (.ref f15) = true)
    {f7 : Addr} {od7 an7 : Option Addr} {sl7 : Array (Option Value)} {oc7 kV7 dc7 pm7 cd7 ct7 : Value} (a7 : PySem.W.nsIn K mainGlobals "skeleton_error" = some (some (.ref f7))) (l7 : K.lookup f7 = some ⟨oc7, od7, .func (PySem.W.fnOf "skeleton_error" "skeleton_error" (defArgs (topS 7)) (defBody (topS 7)) (defScope (topS 7)) .none kV7 dc7 pm7 an7 cd7 ct7), sl7⟩) (q7 : PySem.W.codeIn K cd7 "skeleton_error" = true) (k7 : PySem.W.keepIn K (.ref f7) = true)
    {f17 : Addr} {od17 an17 : Option Addr} {sl17 : Array (Option Value)} {oc17 kV17 dc17 pm17 cd17 ct17 : Value} (a17 : PySem.W.nsIn K mainGlobals "_law_reel" = some (some (.ref f17))) (l17 : K.lookup f17 = some ⟨oc17, od17, .func (PySem.W.fnOf "_law_reel" "_law_reel" (defArgs (topS 17)) (defBody (topS 17)) (defScope (topS 17)) .none kV17 dc17 pm17 an17 cd17 ct17), sl17⟩) (q17 : PySem.W.codeIn K cd17 "_law_reel" = true) (k17 : PySem.W.keepIn K (.ref f17) = true)
    {f18 : Addr} {od18 an18 : Option Addr} {sl18 : Array (Option Value)} {oc18 kV18 dc18 pm18 cd18 ct18 : Value} (a18 : PySem.W.nsIn K mainGlobals "_law_draw" = some (some (.ref f18))) (l18 : K.lookup f18 = some ⟨oc18, od18, .func (PySem.W.fnOf "_law_draw" "_law_draw" (defArgs (topS 18)) (defBody (topS 18)) (defScope (topS 18)) .none kV18 dc18 pm18 an18 cd18 ct18), sl18⟩) (q18 : PySem.W.codeIn K cd18 "_law_draw" = true) (k18 : PySem.W.keepIn K (.ref f18) = true)
    {f19 : Addr} {od19 an19 : Option Addr} {sl19 : Array (Option Value)} {oc19 kV19 dc19 pm19 cd19 ct19 : Value} (a19 : PySem.W.nsIn K mainGlobals "_law_pick" = some (some (.ref f19))) (l19 : K.lookup f19 = some ⟨oc19, od19, .func (PySem.W.fnOf "_law_pick" "_law_pick" (defArgs (topS 19)) (defBody (topS 19)) (defScope (topS 19)) .none kV19 dc19 pm19 an19 cd19 ct19), sl19⟩) (q19 : PySem.W.codeIn K cd19 "_law_pick" = true) (k19 : PySem.W.keepIn K (.ref f19) = true)
    {f20 : Addr} {od20 an20 : Option Addr} {sl20 : Array (Option Value)} {oc20 kV20 dc20 pm20 cd20 ct20 : Value} (a20 : PySem.W.nsIn K mainGlobals "_law_sizes" = some (some (.ref f20))) (l20 : K.lookup f20 = some ⟨oc20, od20, .func (PySem.W.fnOf "_law_sizes" "_law_sizes" (defArgs (topS 20)) (defBody (topS 20)) (defScope (topS 20)) .none kV20 dc20 pm20 an20 cd20 ct20), sl20⟩) (q20 : PySem.W.codeIn K cd20 "_law_sizes" = true) (k20 : PySem.W.keepIn K (.ref f20) = true)
    {f21 : Addr} {od21 an21 : Option Addr} {sl21 : Array (Option Value)} {oc21 kV21 dc21 pm21 cd21 ct21 : Value} (a21 : PySem.W.nsIn K mainGlobals "_law_skeleton" = some (some (.ref f21))) (l21 : K.lookup f21 = some ⟨oc21, od21, .func (PySem.W.fnOf "_law_skeleton" "_law_skeleton" (defArgs (topS 21)) (defBody (topS 21)) (defScope (topS 21)) .none kV21 dc21 pm21 an21 cd21 ct21), sl21⟩) (q21 : PySem.W.codeIn K cd21 "_law_skeleton" = true) (k21 : PySem.W.keepIn K (.ref f21) = true)
    {f22 : Addr} {od22 an22 : Option Addr} {sl22 : Array (Option Value)} {oc22 kV22 dc22 pm22 cd22 ct22 : Value} (a22 : PySem.W.nsIn K mainGlobals "_law_is_int" = some (some (.ref f22))) (l22 : K.lookup f22 = some ⟨oc22, od22, .func (PySem.W.fnOf "_law_is_int" "_law_is_int" (defArgs (topS 22)) (defBody (topS 22)) (defScope (topS 22)) .none kV22 dc22 pm22 an22 cd22 ct22), sl22⟩) (q22 : PySem.W.codeIn K cd22 "_law_is_int" = true) (k22 : PySem.W.keepIn K (.ref f22) = true)
    {f23 : Addr} {od23 an23 : Option Addr} {sl23 : Array (Option Value)} {oc23 kV23 dc23 pm23 cd23 ct23 : Value} (a23 : PySem.W.nsIn K mainGlobals "_law_is_item" = some (some (.ref f23))) (l23 : K.lookup f23 = some ⟨oc23, od23, .func (PySem.W.fnOf "_law_is_item" "_law_is_item" (defArgs (topS 23)) (defBody (topS 23)) (defScope (topS 23)) .none kV23 dc23 pm23 an23 cd23 ct23), sl23⟩) (q23 : PySem.W.codeIn K cd23 "_law_is_item" = true) (k23 : PySem.W.keepIn K (.ref f23) = true)
    {f24 : Addr} {od24 an24 : Option Addr} {sl24 : Array (Option Value)} {oc24 kV24 dc24 pm24 cd24 ct24 : Value} (a24 : PySem.W.nsIn K mainGlobals "_law_fault" = some (some (.ref f24))) (l24 : K.lookup f24 = some ⟨oc24, od24, .func (PySem.W.fnOf "_law_fault" "_law_fault" (defArgs (topS 24)) (defBody (topS 24)) (defScope (topS 24)) .none kV24 dc24 pm24 an24 cd24 ct24), sl24⟩) (q24 : PySem.W.codeIn K cd24 "_law_fault" = true) (k24 : PySem.W.keepIn K (.ref f24) = true)
    {f25 : Addr} {od25 an25 : Option Addr} {sl25 : Array (Option Value)} {oc25 kV25 dc25 pm25 cd25 ct25 : Value} (a25 : PySem.W.nsIn K mainGlobals "_law_jumps" = some (some (.ref f25))) (l25 : K.lookup f25 = some ⟨oc25, od25, .func (PySem.W.fnOf "_law_jumps" "_law_jumps" (defArgs (topS 25)) (defBody (topS 25)) (defScope (topS 25)) .none kV25 dc25 pm25 an25 cd25 ct25), sl25⟩) (q25 : PySem.W.codeIn K cd25 "_law_jumps" = true) (k25 : PySem.W.keepIn K (.ref f25) = true)
    {f26 : Addr} {od26 an26 : Option Addr} {sl26 : Array (Option Value)} {oc26 kV26 dc26 pm26 cd26 ct26 : Value} (a26 : PySem.W.nsIn K mainGlobals "_law_odd_item" = some (some (.ref f26))) (l26 : K.lookup f26 = some ⟨oc26, od26, .func (PySem.W.fnOf "_law_odd_item" "_law_odd_item" (defArgs (topS 26)) (defBody (topS 26)) (defScope (topS 26)) .none kV26 dc26 pm26 an26 cd26 ct26), sl26⟩) (q26 : PySem.W.codeIn K cd26 "_law_odd_item" = true) (k26 : PySem.W.keepIn K (.ref f26) = true)
    {f27 : Addr} {od27 an27 : Option Addr} {sl27 : Array (Option Value)} {oc27 kV27 dc27 pm27 cd27 ct27 : Value} (a27 : PySem.W.nsIn K mainGlobals "_law_spoilt" = some (some (.ref f27))) (l27 : K.lookup f27 = some ⟨oc27, od27, .func (PySem.W.fnOf "_law_spoilt" "_law_spoilt" (defArgs (topS 27)) (defBody (topS 27)) (defScope (topS 27)) .none kV27 dc27 pm27 an27 cd27 ct27), sl27⟩) (q27 : PySem.W.codeIn K cd27 "_law_spoilt" = true) (k27 : PySem.W.keepIn K (.ref f27) = true)
    {f28 : Addr} {od28 an28 : Option Addr} {sl28 : Array (Option Value)} {oc28 kV28 dc28 pm28 cd28 ct28 : Value} (a28 : PySem.W.nsIn K mainGlobals "_law_is_told" = some (some (.ref f28))) (l28 : K.lookup f28 = some ⟨oc28, od28, .func (PySem.W.fnOf "_law_is_told" "_law_is_told" (defArgs (topS 28)) (defBody (topS 28)) (defScope (topS 28)) .none kV28 dc28 pm28 an28 cd28 ct28), sl28⟩) (q28 : PySem.W.codeIn K cd28 "_law_is_told" = true) (k28 : PySem.W.keepIn K (.ref f28) = true)
    {f29 : Addr} {od29 an29 : Option Addr} {sl29 : Array (Option Value)} {oc29 kV29 dc29 pm29 cd29 ct29 : Value} (a29 : PySem.W.nsIn K mainGlobals "law" = some (some (.ref f29))) (l29 : K.lookup f29 = some ⟨oc29, od29, .func (PySem.W.fnOf "law" "law" (defArgs (topS 29)) (defBody (topS 29)) (defScope (topS 29)) .none kV29 dc29 pm29 an29 cd29 ct29), sl29⟩) (q29 : PySem.W.codeIn K cd29 "law" = true) (k29 : PySem.W.keepIn K (.ref f29) = true) :
    Txt K mg :=
  ⟨PySem.W.mg_none_of X G z_bool,
    PySem.W.mg_none_of X G z_enumerate,
    PySem.W.mg_none_of X G z_int,
    PySem.W.mg_none_of X G z_isinstance,
    PySem.W.mg_none_of X G z_len,
    PySem.W.mg_none_of X G z_list,
    PySem.W.mg_none_of X G z_range,
    PySem.W.mg_none_of X G z_repr,
    PySem.W.mg_none_of X G z_str,
    PySem.W.mg_none_of X G z_tuple,
    ⟨_, PySem.W.mg_of X G c_FILL_SIZES, fun _ => .inr ⟨_, _, _, l_FILL_SIZES, rfl, rfl, by show 6 ≤ sizeLine; decide, (.cons ⟨_, rfl⟩ (.cons ⟨_, rfl⟩ (.cons ⟨_, rfl⟩ (.cons ⟨_, rfl⟩ (.cons ⟨_, rfl⟩ (.cons ⟨_, rfl⟩ .nil))))))⟩⟩,
    ⟨_, PySem.W.mg_of X G c_MAX_ITEMS⟩,
    ⟨_, PySem.W.mg_of X G c_MAX_JUMPS⟩,
    ⟨_, PySem.W.mg_of X G c_MAX_SIZE⟩,
    ⟨_, _, PySem.W.mg_of X G a4, fun_mk (st := topS 4) l4 q4 k4⟩,
    ⟨_, _, PySem.W.mg_of X G a8, fun_mk (st := topS 8) l8 q8 k8⟩,
    ⟨_, _, PySem.W.mg_of X G a10, fun_mk (st := topS 10) l10 q10 k10⟩,
    ⟨_, _, PySem.W.mg_of X G a12, fun_mk (st := topS 12) l12 q12 k12⟩,
    ⟨_, _, PySem.W.mg_of X G a11, fun_mk (st := topS 11) l11 q11 k11⟩,
    ⟨_, _, PySem.W.mg_of X G a14, fun_mk (st := topS 14) l14 q14 k14⟩,
    ⟨_, _, PySem.W.mg_of X G a13, fun_mk (st := topS 13) l13 q13 k13⟩,
    ⟨_, _, PySem.W.mg_of X G a9, fun_mk (st := topS 9) l9 q9 k9⟩,
    ⟨_, _, PySem.W.mg_of X G a15, fun_mk (st := topS 15) l15 q15 k15⟩,
    ⟨_, _, PySem.W.mg_of X G a7, fun_mk (st := topS 7) l7 q7 k7⟩,
    ⟨_, _, PySem.W.mg_of X G a17, fun_mk (st := topS 17) l17 q17 k17⟩,
    ⟨_, _, PySem.W.mg_of X G a18, fun_mk (st := topS 18) l18 q18 k18⟩,
    ⟨_, _, PySem.W.mg_of X G a19, fun_mk (st := topS 19) l19 q19 k19⟩,
    ⟨_, _, PySem.W.mg_of X G a20, fun_mk (st := topS 20) l20 q20 k20⟩,
    ⟨_, _, PySem.W.mg_of X G a21, fun_mk (st := topS 21) l21 q21 k21⟩,
    ⟨_, _, PySem.W.mg_of X G a22, fun_mk (st := topS 22) l22 q22 k22⟩,
    ⟨_, _, PySem.W.mg_of X G a23, fun_mk (st := topS 23) l23 q23 k23⟩,
    ⟨_, _, PySem.W.mg_of X G a24, fun_mk (st := topS 24) l24 q24 k24⟩,
    ⟨_, _, PySem.W.mg_of X G a25, fun_mk (st := topS 25) l25 q25 k25⟩,
    ⟨_, _, PySem.W.mg_of X G a26, fun_mk (st := topS 26) l26 q26 k26⟩,
    ⟨_, _, PySem.W.mg_of X G a27, fun_mk (st := topS 27) l27 q27 k27⟩,
    ⟨_, _, PySem.W.mg_of X G a28, fun_mk (st := topS 28) l28 q28 k28⟩,
    ⟨_, _, PySem.W.mg_of X G a29, fun_mk (st := topS 29) l29 q29 k29⟩⟩
theorem law_fn {l : PySem.W.OpenLaw} {w : World} {K : Fg} {mg : Str → Option Value} {fa : Addr} (T : Txt K mg) (hfa : mg "law" = some (.ref fa)) : ∃ fd : FuncData, (∀ (s : Shared) (v : Value), BindsTo s fd ⟨[v], []⟩ [("script", v)]) ∧ ∀ base : Heap, K.In base → base.Ns mainGlobals mg → SysD base → FnG l.prog w K mg base 7 fa fd ["script"] Mlaw := by
  obtain ⟨a, fd, hm, F⟩ := T.f_law
  refine ⟨fd, fun s v => ?_, fun base _ _ S => ?_⟩
  · obtain ⟨oc, od, kV, doc, pm, an, cdv, ct, osl, rfl, lk, hcd⟩ := F.ex
    exact .of_eq rfl
  · obtain ⟨a2, fd2, F2, g2, k2, b2, h2⟩ := oklaw (P := l.prog) (w := w) (base := base) T S
    rw [hfa] at g2
    cases g2
    rw [hfa] at hm
    cases hm
    have e : fd2 = fd := fun_same F2 F
    subst e
    exact h2
end NS
/- part K01h -/
open PySem PySem.W PyProof.Rows
set_option maxHeartbeats 0 in
theorem PySem.Challenge.cw_longernearer_k01_what_is_a_skeleton_holds : PySem.Challenge.rw_longernearer_k01_what_is_a_skeleton.Holds := by
  w_on; o_law; k_head; (case hw => w_witness2)
  k_fill
  refine PL.law_walk (l := PySem.Challenge.rw_longernearer_k01_what_is_a_skeleton) (n := 63) (k := 7) (x := "script") (F := NS.Mlaw) rfl (by decide) rfl (by decide +kernel) ⟨rfl, by decide, by decide⟩ (fun w h Y => PySem.W.kIn_of Y) ?F NS.law_true
  case F =>
    intro w mg fa h KX G hmg
    refine NS.law_fn ?T hmg
    refine' NS.txt_mk KX G ?z_bool ?z_enumerate ?z_int ?z_isinstance ?z_len ?z_list ?z_range ?z_repr ?z_str ?z_tuple ?c_FILL_SIZES ?l_FILL_SIZES ?c_MAX_ITEMS ?c_MAX_JUMPS ?c_MAX_SIZE ?a4 ?l4 ?q4 ?k4 ?a8 ?l8 ?q8 ?k8 ?a10 ?l10 ?q10 ?k10 ?a12 ?l12 ?q12 ?k12 ?a11 ?l11 ?q11 ?k11 ?a14 ?l14 ?q14 ?k14 ?a13 ?l13 ?q13 ?k13 ?a9 ?l9 ?q9 ?k9 ?a15 ?l15 ?q15 ?k15 ?a7 ?l7 ?q7 ?k7 ?a17 ?l17 ?q17 ?k17 ?a18 ?l18 ?q18 ?k18 ?a19 ?l19 ?q19 ?k19 ?a20 ?l20 ?q20 ?k20 ?a21 ?l21 ?q21 ?k21 ?a22 ?l22 ?q22 ?k22 ?a23 ?l23 ?q23 ?k23 ?a24 ?l24 ?q24 ?k24 ?a25 ?l25 ?q25 ?k25 ?a26 ?l26 ?q26 ?k26 ?a27 ?l27 ?q27 ?k27 ?a28 ?l28 ?q28 ?k28 ?a29 ?l29 ?q29 ?k29
    (case z_bool => k_is); (case z_enumerate => k_is); (case z_int => k_is); (case z_isinstance => k_is); (case z_len => k_is); (case z_list => k_is); (case z_range => k_is); (case z_repr => k_is); (case z_str => k_is); (case z_tuple => k_is); (case c_FILL_SIZES => k_is); (case l_FILL_SIZES => k_is); (case c_MAX_ITEMS => k_is); (case c_MAX_JUMPS => k_is); (case c_MAX_SIZE => k_is); (case a4 => k_is); (case l4 => k_is); (case q4 => k_is); (case k4 => k_is); (case a8 => k_is); (case l8 => k_is); (case q8 => k_is); (case k8 => k_is); (case a10 => k_is); (case l10 => k_is); (case q10 => k_is); (case k10 => k_is); (case a12 => k_is); (case l12 => k_is); (case q12 => k_is); (case k12 => k_is); (case a11 => k_is); (case l11 => k_is); (case q11 => k_is); (case k11 => k_is); (case a14 => k_is); (case l14 => k_is); (case q14 => k_is); (case k14 => k_is); (case a13 => k_is); (case l13 => k_is); (case q13 => k_is); (case k13 => k_is); (case a9 => k_is); (case l9 => k_is); (case q9 => k_is); (case k9 => k_is); (case a15 => k_is); (case l15 => k_is); (case q15 => k_is); (case k15 => k_is); (case a7 => k_is); (case l7 => k_is); (case q7 => k_is); (case k7 => k_is); (case a17 => k_is); (case l17 => k_is); (case q17 => k_is); (case k17 => k_is); (case a18 => k_is); (case l18 => k_is); (case q18 => k_is); (case k18 => k_is); (case a19 => k_is); (case l19 => k_is); (case q19 => k_is); (case k19 => k_is); (case a20 => k_is); (case l20 => k_is); (case q20 => k_is); (case k20 => k_is); (case a21 => k_is); (case l21 => k_is); (case q21 => k_is); (case k21 => k_is); (case a22 => k_is); (case l22 => k_is); (case q22 => k_is); (case k22 => k_is); (case a23 => k_is); (case l23 => k_is); (case q23 => k_is); (case k23 => k_is); (case a24 => k_is); (case l24 => k_is); (case q24 => k_is); (case k24 => k_is); (case a25 => k_is); (case l25 => k_is); (case q25 => k_is); (case k25 => k_is); (case a26 => k_is); (case l26 => k_is); (case q26 => k_is); (case k26 => k_is); (case a27 => k_is); (case l27 => k_is); (case q27 => k_is); (case k27 => k_is); (case a28 => k_is); (case l28 => k_is); (case q28 => k_is); (case k28 => k_is); (case a29 => k_is); (case l29 => k_is); (case q29 => k_is); (case k29 => k_is)
