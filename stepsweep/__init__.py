"""A store of built things whose collection goes in steps."""
