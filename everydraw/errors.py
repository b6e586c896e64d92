"""The refusals: each has a class of its own, straight beneath DrawError."""


class DrawError(ValueError):
    pass


class NoBottom(DrawError):
    pass


class BadPlace(DrawError):
    pass


class BadSaying(DrawError):
    pass


class TooMany(DrawError):
    pass


class BadChain(DrawError):
    pass


class NoName(DrawError):
    pass


class BadName(DrawError):
    pass


class NoLine(DrawError):
    pass


class NoStep(DrawError):
    pass


# No class between these and DrawError holds the field for them: each is to stand straight beneath DrawError.
class BadStep(DrawError):
    def __init__(self, step):
        DrawError.__init__(self, f"step {step} has not the form of a step")
        self.step = step


class BadThing(DrawError):
    def __init__(self, step):
        DrawError.__init__(self, f"step {step} names no earlier thing of the kind that is due")
        self.step = step


class TooFree(DrawError):
    def __init__(self, step):
        DrawError.__init__(self, f"step {step} brings too many free numbers")
        self.step = step


class TooDeep(DrawError):
    def __init__(self, step):
        DrawError.__init__(self, f"step {step} makes polynomials that are too large")
        self.step = step


class BadKnown(DrawError):
    def __init__(self, step):
        DrawError.__init__(self, f"step {step} names a point that does not lie where it has to")
        self.step = step


class CantMake(DrawError):
    def __init__(self, step):
        DrawError.__init__(self, f"step {step} is not made at this place")
        self.step = step


class NoText(DrawError):
    def __init__(self, line):
        DrawError.__init__(self, f"line {line} has not the form that is due")
        self.line = line
