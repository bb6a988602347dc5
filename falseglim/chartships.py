"""Ships that go by charts: what misleads them."""

from falseglim.makers import ring
from falseglim.minds import Mind
from falseglim.nightbeats import NightGraph


class ChartShips:
    """Ships with any charts, all of which suppose one eye; each single light is seen through the true eye."""

    def __init__(self, supposed, eye):
        self.supposed = supposed
        self.eye = eye
        self._minds = {}
        self._told = {}

    def first_misled(self, chart, coast):
        """What is told of the first light of a coast by which a ship with a chart is misled, or None.

        It is a triple: the name of the light, the least look behind which the ship is misled, and what it is sure of.
        """
        if len(chart) == 0:
            return None
        # In whatever order the lights are, a ship that has them on its chart knows the same.
        known = tuple(sorted(chart.lights))
        if known not in self._minds:
            self._minds[known] = Mind(chart.as_world(), self.supposed)
        for light in coast:
            if (known, light) not in self._told:
                self._told[(known, light)] = self._misled_by(self._minds[known], light)
            if self._told[(known, light)] is not None:
                return self._told[(known, light)]
        return None

    def _misled_by(self, mind, light):
        name, row = light
        graph = NightGraph(mind, ring(row, name), self.eye)
        if not graph.misled:
            return None
        return (name, graph.misled_look(), graph.nights.sure_at(graph.places[graph.misled[0]]))
