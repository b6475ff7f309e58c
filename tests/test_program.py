"""What holds over the whole program: what one module tells, beside what another one makes of it."""

from random import Random

from latechunks import cases
from latechunks.batches import Batched
from latechunks.chunks import Chunks
from latechunks.crews import Crew
from latechunks.desk import Desk
from latechunks.fewest import fewest
from latechunks.late import latest, lateness
from latechunks.logs import Log, fitting, lateness_between, untold
from latechunks.look_late import shows_latest
from latechunks.look_logs import shows_log
from latechunks.loops import Loops, best_order, end_lateness
from latechunks.plays import Play
from latechunks.pool import Pool
from latechunks.ratios import Ratio
from latechunks.reading import read_case, read_log, read_paper
from latechunks.rules import Rule
from latechunks.settings import Setting
from latechunks.texts import case_text, log_text, paper_text
from latechunks.worlds import World
from tests.helper import Case
from tests.test_late import drawn_world
from tests.test_residues import drawn_rules

CREWS = [Crew(a=1), Crew.even(2), Crew(a=1, b=3), Crew(c=2, a=7, b=5), Crew.even(4, 9), Crew(a=1, b=60, c=7, d=2)]


def drawn_cases(seed, many):
    """Cases with all parts: the chunks are the list of the rule."""
    random = Random(seed)
    for at, rule in enumerate(drawn_rules(seed, many)):
        setting = Setting(CREWS[at % len(CREWS)], 1, 1 + at % 3, at % 2 * (at % 5))
        chunks = rule.list_for(random.randrange(1, 60))
        yield cases.Case(setting, chunks, rule, drawn_world(chunks, setting, random)), random


class ProgramTest(Case):
    def test_what_is_written_is_read_back_equal(self):
        for case, _ in drawn_cases(41, 150):
            told = read_case(case_text(case))
            self.is_same(told, case)
            play = Play(told.chunks, told.setting, told.world)
            self.is_same(play, Play(case.chunks, case.setting, case.world))
            self.is_same(read_log(log_text(Log.of(play)), case.setting), Log.of(play))
            for paper in (latest(case.chunks, case.setting), fewest(case.chunks.total, case.setting, play.late)):
                self.is_same(read_paper(paper_text(paper)), paper)
            parts = [case.setting, case.setting.crew, case.chunks, case.world, play.late, Batched(2, 4),
                     Loops(("a", case.chunks), ("b", Chunks()))]
            for part in parts:
                self.is_same(type(part).read(str(part)), part)
            self.is_same(Rule.read(str(case.cut_by)), case.cut_by)

    def test_a_case_plays_no_later_than_its_list_can_be(self):
        for case, random in drawn_cases(42, 150):
            told = latest(case.chunks, case.setting)
            self.is_same(told.late, lateness(case.chunks, case.setting))
            self.is_same(shows_latest(case.chunks, case.setting, read_paper(paper_text(told))), True)
            for _ in range(5):
                world = drawn_world(case.chunks, case.setting, random)
                self.assertTrue(Play(case.chunks, case.setting, world).late <= told.late)
            self.is_same(Play(case.chunks, case.setting, told.world).late, told.late)

    def test_the_fewest_chunks_within_the_lateness_of_a_list(self):
        for case, _ in drawn_cases(43, 200):
            late = lateness(case.chunks, case.setting)
            found = fewest(case.chunks.total, case.setting, late)
            self.is_same(bool(found), True)
            self.assertTrue(len(found.chunks) <= len(case.chunks))
            self.assertTrue(lateness(found.chunks, case.setting) <= late)

    def test_a_pool_ahead_takes_the_rules_list(self):
        for case, random in drawn_cases(44, 150):
            pool = Pool(case.setting, case.cut_by)
            pool.add("loop", case.chunks.total)
            self.is_same(pool.ahead(), case.chunks)
            self.is_same(pool.bound(), lateness(case.chunks, case.setting))
            ready = {name: random.randrange(9) for name in case.setting.crew.workers}
            for name, time in ready.items():
                pool.come(name, time)
            told = pool.run(10 ** 9)
            self.is_same(tuple(row.many for row in told), case.chunks.sizes)
            costs = [case.setting.most * size for size in case.chunks]
            play = Play(case.chunks, case.setting, World(ready, costs, case.setting.crew.workers))
            self.is_same([(row.worker, row.begun, row.ended) for row in told],
                         [(row.worker, row.begun, row.ended) for row in play])

    def test_logs_tell_plays_back(self):
        for case, _ in drawn_cases(45, 200):
            play = Play(case.chunks, case.setting, case.world)
            log = read_log(log_text(Log.of(play)), case.setting)
            found = fitting(log)
            self.is_same(shows_log(log, found), True)
            self.is_same(list(Play(log.chunks, log.setting, found.world)), list(play))
            least, greatest = lateness_between(log)
            self.assertTrue(least <= play.late <= greatest <= lateness(case.chunks, case.setting))
            if len(set(speed for _, speed in case.setting.crew)) == 1:
                came = untold(log.chunks, log.setting, [(row.begun, row.ended) for row in log])
                self.assertTrue(came.least <= len({row.worker for row in log}) <= came.most)

    def test_loops_in_a_row_and_batches(self):
        setting = Setting(Crew.even(2), 1, 2)
        loops = Loops(*[(name, Batched(many, 4).cut(10 + many)) for name, many in zip("abcd", (1, 2, 3, 4))])
        told = best_order(loops, setting)
        row = loops.ordered(*told.names)
        self.is_same(told.late, lateness(row.joined(), setting))
        self.is_same(end_lateness(row, setting, told.names[-1]), told.late)

    def test_a_desk_answers_as_a_case_is_asked(self):
        for case, _ in drawn_cases(46, 60):
            setting = case.setting
            desk = Desk()
            desk.run(f"crew {setting.crew}", f"costs {setting.least} {setting.most}", f"fee {setting.fee}",
                     f"chunks {case.chunks}", f"rule {case.cut_by}")
            late = lateness(case.chunks, setting)
            self.is_same([desk("late"), desk(f"cut {case.chunks.total}")], [str(late), str(case.chunks)])
            self.is_same(desk("show"), " ; ".join([str(setting), str(case.chunks), str(case.cut_by)]))
            found = latest(case.chunks, setting)
            self.is_same(f"latest {desk('latest').replace(' at ', ' ')} {desk(f'world {found.at}')}", paper_text(found))
            self.is_same(Ratio.read(desk("late")), late)
