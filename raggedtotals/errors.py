"""The errors of the program, each with the fields that its caller gave."""


class RaggedError(ValueError):
    """An argument is not of the required kind or form."""


class StateError(LookupError):
    """What was asked for is not there, or something is in its way."""


class RuleError(RuntimeError):
    """A rule, or what a call rests on, does not hold."""


class LimitError(ArithmeticError):
    """A limit is exceeded."""


class InvalidName(RaggedError):
    """A value is not a name."""

    def __init__(self, value):
        self.value = value


class InvalidText(RaggedError):
    """A value is not the text of what was to be read."""

    def __init__(self, value):
        self.value = value


class InvalidLevel(RaggedError):
    """A value is not a level of the schema."""

    def __init__(self, value):
        self.value = value


class InvalidView(RaggedError):
    """A value is not a view of the cube."""

    def __init__(self, value):
        self.value = value


class InvalidCell(RaggedError):
    """A value is not a cell of the view."""

    def __init__(self, value):
        self.value = value


class InvalidAmount(RaggedError):
    """A value is not the amount of a fact."""

    def __init__(self, value):
        self.value = value


class InvalidTimes(RaggedError):
    """A value is not a number of times."""

    def __init__(self, value):
        self.value = value


class InvalidMeasure(RaggedError):
    """A value is not the word of a measure."""

    def __init__(self, value):
        self.value = value


class NotACondition(RaggedError):
    """A value is not a condition."""

    def __init__(self, value):
        self.value = value


class NotAShape(RaggedError):
    """A value is not a shape."""

    def __init__(self, value):
        self.value = value


class NotASchema(RaggedError):
    """A value is not a schema."""

    def __init__(self, value):
        self.value = value


class NotACube(RaggedError):
    """A value is not a cube."""

    def __init__(self, value):
        self.value = value


class NotADataset(RaggedError):
    """A value is not a dataset."""

    def __init__(self, value):
        self.value = value


class NotAWarehouse(RaggedError):
    """A value is not a warehouse."""

    def __init__(self, value):
        self.value = value


class InvalidLinks(RaggedError):
    """Links are not as required."""

    def __init__(self, index):
        self.index = index


class InvalidMarks(RaggedError):
    """Marks are not as required."""

    def __init__(self, index):
        self.index = index


class InvalidRules(RaggedError):
    """Rules are not as required."""

    def __init__(self, index):
        self.index = index


class InvalidMembers(RaggedError):
    """Entries of members are not as required."""

    def __init__(self, index):
        self.index = index


class InvalidSchemas(RaggedError):
    """Schemas are not as required."""

    def __init__(self, index):
        self.index = index


class InvalidHierarchies(RaggedError):
    """Hierarchies are not as required."""

    def __init__(self, index):
        self.index = index


class InvalidFacts(RaggedError):
    """Facts are not as required."""

    def __init__(self, index):
        self.index = index


class InvalidStored(RaggedError):
    """Stored views are not as required."""

    def __init__(self, index):
        self.index = index


class InvalidWanted(RaggedError):
    """Wanted views are not as required."""

    def __init__(self, index):
        self.index = index


class InvalidPrices(RaggedError):
    """Prices are not as required."""

    def __init__(self, index):
        self.index = index


class InvalidShapes(RaggedError):
    """Shapes are not as required."""

    def __init__(self, index):
        self.index = index


class InvalidRows(RaggedError):
    """Rows of integers are not as required."""

    def __init__(self, index):
        self.index = index


class InvalidGoal(RaggedError):
    """The goal of an equation is not as required."""

    def __init__(self, index):
        self.index = index


class InvalidDeed(RaggedError):
    """Deeds are not as required."""

    def __init__(self, index):
        self.index = index


class UnknownMember(StateError):
    """A value is not the name of a member."""

    def __init__(self, value):
        self.value = value


class MissingFact(StateError):
    """There is no fact with this cell."""

    def __init__(self, value):
        self.value = value


class NotStored(StateError):
    """A value is not one of the stored views."""

    def __init__(self, value):
        self.value = value


class HasChildren(StateError):
    """A member is a parent of one that stays."""

    def __init__(self, value):
        self.value = value


class HasFacts(StateError):
    """A member stands in the cell of a fact."""

    def __init__(self, value):
        self.value = value


class NothingToUndo(StateError):
    """The history has no deed."""


class InvalidParents(RuleError):
    """A member has a parent that it must not have."""

    def __init__(self, member):
        self.member = member


class TwoAncestors(RuleError):
    """A member reaches two members of one level."""

    def __init__(self, member):
        self.member = member


class BrokenRule(RuleError):
    """A member does not keep the rule with this index."""

    def __init__(self, member, index):
        self.member = member
        self.index = index


class NotAllowed(RuleError):
    """A shape is not allowed."""

    def __init__(self, value):
        self.value = value


class NotDetermined(RuleError):
    """The totals are not determined, as the blind spot shows."""

    def __init__(self, blind_spot):
        self.blind_spot = blind_spot


class NotComparable(RuleError):
    """Two schemas differ in more than their rules."""


class OtherCube(RuleError):
    """A dataset belongs to another cube."""


class TooMany(LimitError):
    """There is more than this limit lets through."""

    def __init__(self, limit):
        self.limit = limit
