"""What a house keeps."""


class Member:
    """A member's lots, miles by last day, and points, pairs of a day and a number."""

    def __init__(self):
        self.lots = {}
        self.points = []


class Award:
    """Who asked for an award, and its draws: whose miles, of which last day, how many."""

    def __init__(self, asker, draws):
        self.asker = asker
        self.draws = draws


class House:
    """A new house. Members stand by id in the order of joining, awards by booking in the order of making."""

    def __init__(self):
        self.today = 0
        self.life = 365
        self.bonuses = [0, 0, 0, 0]
        self.steps = [1, 2, 3]
        self.members = {}
        self.pools = []
        self.awards = {}
        self.earned = 0
        self.spent = 0
        self.returned = 0
        self.run_out = 0
