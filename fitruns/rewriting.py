"""Rewritings of a program: what the steps of the newer one stand for in the elder one."""

from fitruns.errors import BadImages
from fitruns.forms import is_row
from fitruns.programs import check_run
from fitruns.questions import check_question, worths_of_steps


def _is_image(elder, value):
    return isinstance(value, tuple) and len(value) <= 4 and all([name in elder.names for name in value])


class Rewriting:
    """Two programs, and for each step of the newer one, in order, its image: steps of the elder one."""

    def __init__(self, elder, newer, images):
        if not is_row(images, len(newer.names)) or not all([_is_image(elder, part) for part in images]):
            raise BadImages(images)
        self.elder = elder
        self.newer = newer
        self.images = images
        self._image_of = {name: part for name, part in zip(newer.names, images)}

    def __eq__(self, other):
        if not isinstance(other, Rewriting):
            return False
        return self.elder == other.elder and self.newer == other.newer and self.images == other.images

    def image(self, run):
        """The images of the steps of a run of the newer program put together."""
        check_run(self.newer, run)
        return tuple([part for name in run for part in self._image_of[name]])

    def _goes_on(self, behind, name):
        """Whether the image of a step is right behind this step of the elder program, None if nothing is ahead."""
        if behind is None:
            return self._image_of[name] == () or self.elder.is_run(self._image_of[name])
        for part in self._image_of[name]:
            if part not in self.elder.following(behind):
                return False
            behind = part
        return True

    def _pair(self, behind, name):
        """The step with the last step of the image then."""
        return (name,) + ((behind,) + self._image_of[name])[-1:]

    def _ends_rightly(self, pair):
        """Whether the image of a run that is whole with this pair is whole, too."""
        name, behind = pair
        if len(self.newer.following(name)) > 0:
            return True
        return behind is not None and len(self.elder.following(behind)) == 0

    def _searched(self):
        """(fault, pairs): the pairs that runs come to, until a run is found whose image is not right."""
        pairs = {}
        # Runs of one length, ascending; the first one to come to a pair is the least of the shortest.
        waiting = [(self.newer.names[:1], None)]
        while waiting:
            later = []
            for run, behind in waiting:
                pair = self._pair(behind, run[-1])
                if not self._goes_on(behind, run[-1]) or not self._ends_rightly(pair):
                    return run, pairs
                if pair not in pairs:
                    pairs[pair] = True
                    later.extend([(run + (name,), pair[1]) for name in self.newer.following(run[-1])])
            waiting = later
        return None, pairs

    def fault(self):
        """The shortest and then least run of the newer program whose image is not right, None without one."""
        return self._searched()[0]

    def table(self):
        """A tuple of pairs that shows that all images are right, None if one is not."""
        fault, pairs = self._searched()
        return tuple(pairs) if fault is None else None

    def _is_pair(self, value):
        if not is_row(value, 2) or value[0] not in self.newer.names:
            return False
        return value[1] is None or value[1] in self.elder.names

    def _leads_to_known(self, behind, names, known):
        """Whether the images of these steps go on rightly, each to a known pair."""
        return all([self._goes_on(behind, name) and self._pair(behind, name) in known for name in names])

    def shows_faithful(self, value):
        """Whether any value is a table that shows that all images are right."""
        if not isinstance(value, tuple) or not all([self._is_pair(part) for part in value]):
            return False
        known = {pair: True for pair in value}
        if len(known) < len(value) or not self._leads_to_known(None, self.newer.names[:1], known):
            return False
        if not all([self._ends_rightly(pair) for pair in value]):
            return False
        return all([self._leads_to_known(behind, self.newer.following(name), known) for name, behind in value])

    def led(self, question):
        """The question by steps alone that gives each step of the newer program the worth of its image."""
        check_question(question)
        worths = worths_of_steps(self.elder, question)
        items = [("step", name, sum([worths[part] for part in image])) for name, image in self._image_of.items()]
        return tuple(sorted([item for item in items if item[2] != 0]))
