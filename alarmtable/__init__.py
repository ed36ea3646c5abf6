"""A table of alarms: what is raised, what sounds, what may be reset, and a log on paper of it all."""
