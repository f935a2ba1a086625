/- What tilesB says of points: each point lies in as many of the tiles as in the rectangle that they are to tile. Plain. -/
import Derived.Test.YtjdnhpbifblneaaRAlone
namespace Go.Proofs.Ytjdnhpbifblneaa
set_option linter.unusedVariables false

/-- does a point lie in a rectangle? along, down -/
def ix (q : R) (a : Int) : Int := if q.x ≤ a ∧ a < q.x + q.w then 1 else 0
def iy (q : R) (b : Int) : Int := if q.y ≤ b ∧ b < q.y + q.h then 1 else 0
/-- where it begins and ends -/
def kx (q : R) (u : Int) : Int := (if q.x = u then 1 else 0) - (if q.x + q.w = u then 1 else 0)
def ky (q : R) (v : Int) : Int := (if q.y = v then 1 else 0) - (if q.y + q.h = v then 1 else 0)
/-- how many of them a point lies in -/
def cov (l : List R) (a b : Int) : Int := (l.map fun q => ix q a * iy q b).sum
/-- the corners at a point, added up -/
def knt (l : List R) (u v : Int) : Int := (l.map fun q => kx q u * ky q v).sum
theorem kx_ix (q : R) (u : Int) (h : 0 ≤ q.w) : kx q u = ix q u - ix q (u - 1) := by
  unfold kx ix; (repeat' split) <;> omega
theorem ky_iy (q : R) (v : Int) (h : 0 ≤ q.h) : ky q v = iy q v - iy q (v - 1) := by
  unfold ky iy; (repeat' split) <;> omega
theorem knt_cov (l : List R) (hl : ∀ q ∈ l, 0 ≤ q.w ∧ 0 ≤ q.h) (u v : Int) : knt l u v = cov l u v - cov l (u - 1) v - cov l u (v - 1) + cov l (u - 1) (v - 1) := by
  induction l with
  | nil => rfl
  | cons q l ih =>
    have h := ih (fun p hp => hl p (List.mem_cons_of_mem _ hp))
    have hq := hl q (List.mem_cons_self ..)
    unfold knt cov at *
    simp only [List.map_cons, List.sum_cons]
    rw [h, kx_ix q u hq.1, ky_iy q v hq.2, Int.sub_mul, Int.mul_sub, Int.mul_sub]
    omega
theorem flat_zero (f : Int → Int) (L : Int) (hs : ∀ v, f v = f (v - 1)) (h0 : ∀ v, v < L → f v = 0) : ∀ v, f v = 0 := by
  have key : ∀ (n : Nat) (v : Int), v < L + n → f v = 0 := by
    intro n
    induction n with
    | zero => intro v hv; exact h0 v (by omega)
    | succ n ih => intro v hv; rw [hs v]; exact ih (v - 1) (by omega)
  intro v
  exact key ((v - L).toNat + 1) v (by omega)
theorem low_cov (l : List R) : ∃ L : Int, ∀ a b, (a < L ∨ b < L) → cov l a b = 0 := by
  induction l with
  | nil => exact ⟨0, fun _ _ _ => rfl⟩
  | cons q l ih =>
    obtain ⟨L, hL⟩ := ih
    refine ⟨min L (min q.x q.y), fun a b h => ?_⟩
    have h1 := hL a b (by omega)
    unfold cov at *
    simp only [List.map_cons, List.sum_cons]
    rw [h1]
    have : ix q a = 0 ∨ iy q b = 0 := by
      unfold ix iy
      rcases h with h | h
      · exact .inl (if_neg (by omega))
      · exact .inr (if_neg (by omega))
    rcases this with e | e <;> rw [e] <;> simp
/-- corners that are the same everywhere, and points that are covered alike, are one thing -/
theorem knt_iff_cov (l m : List R) (hl : ∀ q ∈ l, 0 ≤ q.w ∧ 0 ≤ q.h) (hm : ∀ q ∈ m, 0 ≤ q.w ∧ 0 ≤ q.h) : (∀ u v, knt l u v = knt m u v) ↔ ∀ a b, cov l a b = cov m a b := by
  constructor
  · intro h
    obtain ⟨L, hL⟩ := low_cov l
    obtain ⟨M, hM⟩ := low_cov m
    have hd : ∀ a b, cov l a b - cov m a b - (cov l (a - 1) b - cov m (a - 1) b) = 0 := by
      intro a
      refine flat_zero (fun b => cov l a b - cov m a b - (cov l (a - 1) b - cov m (a - 1) b)) (min L M) (fun v => ?_) (fun v hv => ?_)
      · have := h a v
        rw [knt_cov l hl, knt_cov m hm] at this
        omega
      · rw [hL a v (.inr (by omega)), hM a v (.inr (by omega)), hL (a - 1) v (.inr (by omega)), hM (a - 1) v (.inr (by omega))]; rfl
    intro a b
    have := flat_zero (fun a => cov l a b - cov m a b) (min L M) (fun a => by have := hd a b; omega) (fun a ha => by rw [hL a b (.inl (by omega)), hM a b (.inl (by omega))]; rfl) a
    omega
  · intro h u v
    rw [knt_cov l hl, knt_cov m hm, h, h, h, h]
theorem net_append (a b : List Cor) (p : Fin 2048 × Fin 2048) : net (a ++ b) p = net a p + net b p := by
  induction a with
  | nil => simp [net_nil]
  | cons c a ih => rw [List.cons_append, net_cons, net_cons, ih]; omega
theorem rank_mono (zs : List Int) (u v : Int) (h : u ≤ v) : rank zs u ≤ rank zs v := by
  unfold rank
  refine List.countP_mono_left fun x _ hx => ?_
  simp at *; omega
theorem rank_lt (zs : List Int) (u v : Int) (hu : u ∈ zs) (h : u < v) : rank zs u < rank zs v := by
  induction zs with
  | nil => simp at hu
  | cons z zs ih =>
    have hm : rank zs u ≤ rank zs v := rank_mono zs u v (by omega)
    have e : ∀ w, rank (z :: zs) w = rank zs w + if z < w then 1 else 0 := by
      intro w; unfold rank; rw [List.countP_cons]; simp
    rw [e, e]
    rcases List.mem_cons.1 hu with rfl | hu
    · rw [if_neg (by omega), if_pos h]; omega
    · have := ih hu
      split <;> split <;> omega
theorem rank_inj (zs : List Int) (u v : Int) (hu : u ∈ zs) (hv : v ∈ zs) (h : rank zs u = rank zs v) : u = v := by
  rcases Int.lt_trichotomy u v with g | g | g
  · have := rank_lt zs u v hu g; omega
  · exact g
  · have := rank_lt zs v u hv g; omega
theorem fin_inj (zs : List Int) (hn : zs.length < 2048) (u v : Int) (hu : u ∈ zs) (hv : v ∈ zs) : (fin (rank zs u) = fin (rank zs v)) ↔ u = v := by
  constructor
  · intro h
    have a := rank_le zs u
    have b := rank_le zs v
    have e : (fin (rank zs u) : Nat) = (fin (rank zs v) : Nat) := by rw [h]
    rw [fin_val (by omega), fin_val (by omega)] at e
    exact rank_inj zs u v hu hv e
  · rintro rfl; rfl
theorem net_corners (X Y : List Int) (hX : X.length < 2048) (hY : Y.length < 2048) (t : Int) (u v : Int) (hu : u ∈ X) (hv : v ∈ Y) (l : List R) (hl : ∀ q ∈ l, q.x ∈ X ∧ q.x + q.w ∈ X ∧ q.y ∈ Y ∧ q.y + q.h ∈ Y) :
    net (cornersL X Y t l) (fin (rank X u), fin (rank Y v)) = t * knt l u v := by
  induction l with
  | nil => simp [cornersL, net_nil, knt]
  | cons q l ih =>
    obtain ⟨m1, m2, m3, m4⟩ := hl q (List.mem_cons_self ..)
    have h := ih (fun p hp => hl p (List.mem_cons_of_mem _ hp))
    unfold cornersL knt at *
    rw [List.flatMap_cons, net_append, h, List.map_cons, List.sum_cons, Int.mul_add]
    congr 1
    simp only [cornersR, net_cons, net_nil, atC_mk, Prod.mk.injEq, fin_inj X hX _ _ m1 hu, fin_inj X hX _ _ m2 hu, fin_inj Y hY _ _ m3 hv, fin_inj Y hY _ _ m4 hv]
    unfold kx ky
    have key : ∀ (A B C D : Prop) [Decidable A] [Decidable B] [Decidable C] [Decidable D], (if A ∧ C then t else 0) + ((if B ∧ C then -t else 0) + ((if A ∧ D then -t else 0) + ((if B ∧ D then t else 0) + 0))) = t * (((if A then 1 else 0) - (if B then 1 else 0)) * ((if C then 1 else 0) - (if D then 1 else 0))) := by
      intro A B C D _ _ _ _
      by_cases h1 : A <;> by_cases h2 : B <;> by_cases h3 : C <;> by_cases h4 : D <;> (simp [h1, h2, h3, h4]; try omega)
    exact key _ _ _ _
theorem mem_linesX (r : R) (l : List R) (q : R) (hq : q ∈ r :: l) : q.x ∈ linesX r l ∧ q.x + q.w ∈ linesX r l := by
  unfold linesX msort
  rw [List.mem_mergeSort, List.mem_mergeSort]
  unfold edgesX
  exact ⟨List.mem_flatMap.2 ⟨q, hq, by simp [edgX]⟩, List.mem_flatMap.2 ⟨q, hq, by simp [edgX]⟩⟩
theorem mem_linesY (r : R) (l : List R) (q : R) (hq : q ∈ r :: l) : q.y ∈ linesY r l ∧ q.y + q.h ∈ linesY r l := by
  unfold linesY msort
  rw [List.mem_mergeSort, List.mem_mergeSort]
  unfold edgesY
  exact ⟨List.mem_flatMap.2 ⟨q, hq, by simp [edgY]⟩, List.mem_flatMap.2 ⟨q, hq, by simp [edgY]⟩⟩
theorem corner_at (X Y : List Int) (t : Int) (l : List R) (c : Cor) (hc : c ∈ cornersL X Y t l) : ∃ q ∈ l, ∃ u v, (u = q.x ∨ u = q.x + q.w) ∧ (v = q.y ∨ v = q.y + q.h) ∧ atC c = (fin (rank X u), fin (rank Y v)) := by
  obtain ⟨q, hq, hc⟩ := List.mem_flatMap.1 hc
  refine ⟨q, hq, ?_⟩
  simp [cornersR] at hc
  rcases hc with rfl | rfl | rfl | rfl
  · exact ⟨_, _, .inl rfl, .inl rfl, rfl⟩
  · exact ⟨_, _, .inr rfl, .inl rfl, rfl⟩
  · exact ⟨_, _, .inl rfl, .inr rfl, rfl⟩
  · exact ⟨_, _, .inr rfl, .inr rfl, rfl⟩
theorem knt_out (l : List R) (u v : Int) (h : (∀ q ∈ l, kx q u = 0) ∨ ∀ q ∈ l, ky q v = 0) : knt l u v = 0 := by
  unfold knt
  induction l with
  | nil => rfl
  | cons q l ih =>
    rw [List.map_cons, List.sum_cons, ih (h.imp (fun k p hp => k p (List.mem_cons_of_mem _ hp)) (fun k p hp => k p (List.mem_cons_of_mem _ hp)))]
    rcases h with h | h <;> rw [h q (List.mem_cons_self ..)] <;> simp
theorem kx_out (q : R) (u : Int) (X : List Int) (h1 : q.x ∈ X) (h2 : q.x + q.w ∈ X) (hu : u ∉ X) : kx q u = 0 := by
  have a : q.x ≠ u := fun e => hu (e ▸ h1)
  have b : q.x + q.w ≠ u := fun e => hu (e ▸ h2)
  unfold kx; rw [if_neg a, if_neg b]; rfl
theorem ky_out (q : R) (v : Int) (Y : List Int) (h1 : q.y ∈ Y) (h2 : q.y + q.h ∈ Y) (hv : v ∉ Y) : ky q v = 0 := by
  have a : q.y ≠ v := fun e => hv (e ▸ h1)
  have b : q.y + q.h ≠ v := fun e => hv (e ▸ h2)
  unfold ky; rw [if_neg a, if_neg b]; rfl
theorem tiles_knt (r : R) (l : List R) (hl : l.length ≤ 400) : tilesB r l = true ↔ ∀ u v, knt l u v = knt [r] u v := by
  have hX : (linesX r l).length < 2048 := by rw [linesX_len]; omega
  have hY : (linesY r l).length < 2048 := by rw [linesY_len]; omega
  have ml : ∀ q ∈ l, q.x ∈ linesX r l ∧ q.x + q.w ∈ linesX r l ∧ q.y ∈ linesY r l ∧ q.y + q.h ∈ linesY r l := fun q hq =>
    ⟨(mem_linesX r l q (List.mem_cons_of_mem _ hq)).1, (mem_linesX r l q (List.mem_cons_of_mem _ hq)).2, (mem_linesY r l q (List.mem_cons_of_mem _ hq)).1, (mem_linesY r l q (List.mem_cons_of_mem _ hq)).2⟩
  have mr : ∀ q ∈ [r], q.x ∈ linesX r l ∧ q.x + q.w ∈ linesX r l ∧ q.y ∈ linesY r l ∧ q.y + q.h ∈ linesY r l := fun q hq => by
    obtain rfl : q = r := by simpa using hq
    exact ⟨(mem_linesX q l q (List.mem_cons_self ..)).1, (mem_linesX q l q (List.mem_cons_self ..)).2, (mem_linesY q l q (List.mem_cons_self ..)).1, (mem_linesY q l q (List.mem_cons_self ..)).2⟩
  have hnet : ∀ u v, u ∈ linesX r l → v ∈ linesY r l → net (tileC r l) (fin (rank (linesX r l) u), fin (rank (linesY r l) v)) = knt l u v - knt [r] u v := by
    intro u v hu hv
    rw [tileC, net_append, net_corners _ _ hX hY 1 u v hu hv l ml, net_corners _ _ hX hY (-1) u v hu hv [r] mr]; omega
  unfold tilesB
  rw [cancB_iff]
  constructor
  · intro h u v
    by_cases hu : u ∈ linesX r l
    · by_cases hv : v ∈ linesY r l
      · have := hnet u v hu hv
        rw [h] at this; omega
      · rw [knt_out l u v (.inr fun q hq => ky_out q v _ (ml q hq).2.2.1 (ml q hq).2.2.2 hv), knt_out [r] u v (.inr fun q hq => ky_out q v _ (mr q hq).2.2.1 (mr q hq).2.2.2 hv)]
    · rw [knt_out l u v (.inl fun q hq => kx_out q u _ (ml q hq).1 (ml q hq).2.1 hu), knt_out [r] u v (.inl fun q hq => kx_out q u _ (mr q hq).1 (mr q hq).2.1 hu)]
  · intro h p
    by_cases hp : ∃ c ∈ tileC r l, atC c = p
    · obtain ⟨c, hc, rfl⟩ := hp
      have : ∃ u v, u ∈ linesX r l ∧ v ∈ linesY r l ∧ atC c = (fin (rank (linesX r l) u), fin (rank (linesY r l) v)) := by
        rcases List.mem_append.1 hc with hc | hc
        · obtain ⟨q, hq, u, v, hu, hv, e⟩ := corner_at _ _ _ _ c hc
          exact ⟨u, v, hu.elim (fun k => k ▸ (ml q hq).1) (fun k => k ▸ (ml q hq).2.1), hv.elim (fun k => k ▸ (ml q hq).2.2.1) (fun k => k ▸ (ml q hq).2.2.2), e⟩
        · obtain ⟨q, hq, u, v, hu, hv, e⟩ := corner_at _ _ _ _ c hc
          exact ⟨u, v, hu.elim (fun k => k ▸ (mr q hq).1) (fun k => k ▸ (mr q hq).2.1), hv.elim (fun k => k ▸ (mr q hq).2.2.1) (fun k => k ▸ (mr q hq).2.2.2), e⟩
      obtain ⟨u, v, hu, hv, e⟩ := this
      rw [e, hnet u v hu hv, h]; omega
    · exact net_none _ _ fun c hc e => hp ⟨c, hc, e⟩
/-- some rectangles tile one just if each point lies in as many of them as in it -/
theorem tiles_cov (r : R) (l : List R) (hl : l.length ≤ 400) (hr : rightB r = true) (hls : ∀ q ∈ l, rightB q = true) : tilesB r l = true ↔ ∀ a b, cov l a b = cov [r] a b := by
  have p : ∀ q, rightB q = true → 0 ≤ q.w ∧ 0 ≤ q.h := fun q hq => ⟨((rightB_iff q).1 hq).2.2.1.1, ((rightB_iff q).1 hq).2.2.2.1⟩
  rw [tiles_knt r l hl, knt_iff_cov l [r] (fun q hq => p q (hls q hq)) (fun q hq => p q (by rw [show q = r by simpa using hq]; exact hr))]
end Go.Proofs.Ytjdnhpbifblneaa
